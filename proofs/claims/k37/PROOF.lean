import PyProof.Rows.All
import Wide.All
import OpenK.AllK
import Wide.FinOn
import Lean
import PyProof.EqAt
import PyProof.EqKinds
import PyProof.TupleCall
import PySem.Challenge.RW_againbook_k37_nothing_changed
set_option Elab.async false
set_option linter.all false
set_option maxRecDepth 100000
set_option genSizeOf false
theorem iF:0≤PySem.sizeLine:=by decide
theorem iG:1≤PySem.sizeLine:=by decide
theorem bN:2≤PySem.sizeLine:=by decide
theorem gn:3≤PySem.sizeLine:=by decide
theorem oK:4≤PySem.sizeLine:=by decide
set_option Elab.async false
set_option linter.all false
set_option maxRecDepth 100000
set_option maxHeartbeats 4000000
open PySem.W (keepIn Frag nsIn kitOne fnOf mg_of codeIn findIn mroIn isFn mg_none_of kia_one typeIn emptyDict clsIn instObj hasDictIn kitAny specialIn callWith_K excIn lookIn plainGet notCls tailIn)
theorem PZ{p:Prop}(h:p:=by decide):p:=h
theorem P0{p:Prop}(h:p:=by omega):p:=h
theorem P5{p:Prop}(h:p:=by simp):p:=h
theorem P6{p:Prop}(h:p:=by decide +kernel):p:=h
theorem P7{p:Prop}(h:p:=by rfl):p:=h
theorem Z{α:Sort u}{a:α}:a=a:=rfl
open PySem renaming wpAny_bind->Gb,wpAny_pure->Ge,wpAny_field->GL,wpAny_holding->GN,wpAny_callSpecial?_slot->Hd,wpAny_newObj_type->Hf,wpAny_call_entry->Hi,builtinLookup_eq_fast->Hk,wpAny_setField->Hm,wpAny_seqItems->Hs,wpAny_Call_Name_kw->Hu,wpAny_mono->HI,boot_len->HJ,typeLookup_type->HP,codeAny_builtin->HQ,mem_of_lookup->HU,isSubtype_type->Ig,wpAny_setState_of->Ih,wpAny_specialOf->Ij,wpAny_typeOf->Iq,wpAny_rule->Iw,plainId_quiet->IA,wpAny_isInstance->IE,wpAny_setField_rec->IJ,codeAny_mono->IK,wpAny_passesOwn->IM,wpAny_standAt->IN,wpAny_askSetting->IZ,wpAny_setEntries_of->J',wpAny_attempt->La,wpAny_execs_nil->Lb,wpAny_pyIter_tuple->Ld,tupleKind_room_in1->Le,wpAny_truthy_bool->LN,wpAny_pyIter_list->LO,wpAny_of_eq->LP,fits_of_scanBound->LQ,entryFor_of_tree->Mg,wpAny_updateSeq->Ml,wpAny_fieldsOf->Mq,sizeLine_eq->Mr,isSubtype_stop->Ms,entryFor_alias->Mt,call_meets->MH,wpAny_sequenceKey->MP,wpAny_pyIter_slot->MQ,wpAny_execs_cons->M1,noFill_tuple_add->M3,codeAny_of_tree->Nf,wpAny_runValue->No,wpAny_newTuple->Np,wpAny_loadPart->Nq,wpAny_listPart->Nr,wpAny_call->Nt,wpAny_bindName->Nu,wpAny_onRaise->NC,wpAny_comprehension_free->ND,seq_tuple_add->NE,wpAny_pyNext_list_item->NQ,seqIndex_neg->NT,concat_meets->NV,call_meetsIn->NW,callType_new->NY,wpAny_pyNext_list_end->N9,wpAny_isTrue_Compare1->Oa,wpAny_updateSeq_pair->Og,wpAny_loadName_local->Oh,wpAny_letGo->Oi,seqIndex_of->Oj,codeAny_extend_loopS->Om,wpAny_loadName_cell->Ot,wpAny_load->OE,wpAny_Name->OF,wpAny_storeSet_of->OL,wpAny_pyIter_enum->OM,wpAny_assign_Name->ON,wpAny_Assign_Name->OP,slot_list_setitem->OQ,merged_length_le->OY,callType_codes->PL
open List renaming getElem?_eq_getElem->Gc,length_map->Gg,length_append->Gi,size_toArray->Gj,mem_append_right->Gy,getElem?_map->Gz,mem_cons_self->GF,mem_cons_of_mem->GJ,mem_of_getElem?->GP,not_mem_nil->GU,length_take->GV,length_cons->GX,map_append->GY,take_length->Ho,mem_of_mem_take->Ht,lookup_cons->Hw,getElem?_eq_none->HF,mem_append_left->HN,map_cons->HS,take_add_one->HV,find?_cons->Ie,take_of_length_le->Ii,length_drop->Ik,getElem?_append_right->Io,getElem?_append_left->Iv,take_sublist->Ix,getElem?_set_ne->Iy,mem_cons->Iz,map_map->ID,forIn_cons->IG,length_singleton->IH,take_succ->IP,getD_eq_getElem?_getD->IQ,getElem_mem->IR,mem_append->I8,getElem?_set_self->Lc,getElem?_reverse->Lh,forIn_nil->Lo,reverse_cons->Lu,length_range->Lv,map_take->Lx,append_cancel_right->Ly,any_cons->Lz,all_eq_true->LC,of_mem_zip->LX,length_set->LY,append_nil->LZ,take_append_drop->Md,length_replicate->Me,length_filter_le->Mf,nodup_nil->Mi,filterMap_cons->Mn,mem_singleton->Mp,eraseIdx_eq_take_drop_succ->ME,nodup_cons->ML,length_zip->MM,length_nil->MN,length_eraseIdx_of_lt->MZ,getElem?_zip_eq_some->M6,all_cons->Nc,getElem?_replicate->Ng,append_cancel_left->Nh,getElem_cons_drop->Nj,mem_of_mem_drop->NB,length_reverse->NG,forIn_toArray->NM,filter_append->NN,getElem?_inj->NZ,append_assoc->N0,any_eq_false->N4,zipIdx_cons->Ob,ext_getElem->Oc,append_inj'->Od,any_eq_true->Oe,zipIdx_nil->On,mem_filter->Oo,head?_drop->Op,take_take->Ov,drop_zero->Ox,map_drop->OJ,map_set->OT,map_nil->OU
open PySem.Heap renaming get?_push_of_some->Gf,lt_size->Gk,get?_push_size->Gm,get?_update_other->Gv,get?_update_self->Hc,size_push->Hl
open Nat renaming le_refl->Gh,ne_of_lt->Go,zero_le->Gp,le_trans->Gr,lt_of_lt_of_le->Gu,ne_of_gt->Hn,lt_irrefl->HE,lt_succ_self->HR,succ_le_succ->HY,lt_of_le_of_lt->HZ,le_succ->Ic,le_add_right->Il,lt_succ_of_lt->IL,le_of_lt->IV,min_eq_left->I9,not_lt_zero->Lm,le_of_not_lt->LJ,le_max_right->LK,zero_add->LU,sub_self->LV,lt_or_ge->LW,le_max_left->Mc,sub_zero->My,lt_of_succ_lt->Mz,le_of_eq->MD,min_le_left->MT,add_sub_cancel'->NJ,add_le_add_left->NK,le_add_left->Ou,max_assoc->OR,mod_lt->PU
open Bool renaming false_ne_true->Gn,false_eq_true->Gs,and_eq_true->Hy,or_false->Li,not_true->Lj,eq_iff_iff->L9,and_false->Mj,true_or->Mx,or_true->Nn,not_eq_true'->N7,eq_false_iff->N8,false_and->OD,and_true->OK
open PySem.F renaming plainAttrs_list->Gx,type_list_append->GQ,slot_list_append->GS,slot_tuple_iterator_next->Hz,slot_zip_next->HM,type_list_extend->IS,slot_list_extend->IU,args_tuple_iterator_next_1->IW,plain_list_iadd->IX,args_zip_next_1->IY,entry_tuple_iterator_next->I0,entry_zip_next->K',args_object_init_2->Ll,args_tuple_add_2->Lp,entry_tuple_add->Ls,slot_tuple_add->LA,plainAttrs_str->LB,type_str_join->LF,slot_str_join->LG,slot_dict_get->LH,plain_proto_collect->MF,entry_proto_collect->MG,plain_extend_loop->MK,slot_dict_update->MS,plain_tuple_new->MV,plainAttrs_dict->MW,entry_list_iadd->MX,args_dict_get_3->MY,entry_dict_get->M5,slot_set_iter->Na,plain_set_new->Nb,args_list_extend_2->N6,entry_list_extend->Of,slot_list_extend->Oq
open Array renaming length_toList->GK,getElem?_toList->Ip,getElem?_eq_getElem->Iu,getElem?_eq_none->LM,size_append->Mv,toList_push->NP
open PySem.Obj renaming data_mapFields->GZ,isFreed_of_fields->HG,cls_mapFields->Lg
open PySem.PassesOwn renaming never->He
open Option.some renaming inj->Hg
open PyProof.Rows renaming callWith_type1->Hh,boot_tuple->Ib,slot_tuple_getitem->Ir,boot_sorted->Mu,boot_reversed->NF,boot_dict->NH,subscriptTail_builtinR->NR,Subscript_->OH,boot_list->OZ,boot_isinstance->O9,tupleItemsOf_->Pr,iadd_int->Pt,entry_tuple_getitem->Pu,callWith_builtin1->Pw,boot_zip->Px,boot_enumerate->Py,boot_dict->Pz,args_tuple_getitem->PH,slicePart_none->PJ,boot_set->PM,boot_int->PQ
open Int renaming emod_lt_of_pos->Hj,toNat_natCast->Hq,emod_nonneg->Hv,eq_ofNat_of_zero_le->Nk,toNat_of_nonneg->NO,ediv_nonneg->Oz
open PySem.Around renaming under_plainId->Hr
open PySem.AutoSeq1 renaming wpAny_loadPart'->HX
open PySem.Heap.SameBut renaming update->Ia,refl->M7
open PySem.Calls renaming spliced_cons->Im,spliced_nil->II,callWith_builtin->LL,Name_function_global->MU,evalArgs_plain->Nw
open PySem.W renaming mg_none_of->IB,kia_one->Lr,methodCall_KW->LD,plainGet_of->Mh,mg_of->Mm,callWith_K->MJ,cellsFrom_some->M4,callWith_K0->Ni,kitx_list->Nx,kitx_dict->Ny,looks_mroIn->Ol
open PyProof.Rows.F renaming plain_set_update_loop->IF,entry_set_update_loop->Lw
open PySem.Value renaming isStrOf_shape->Lk
open Option renaming map_some->LI,isSome_map->Mo,getD_none->Mw,isNone_some->Nz,isNone_none->NA
open PySem.W.KFB renaming if_not->LS,if_so->PR
open PySem.Heap.IsSliceOf renaming new->MO
open PySem.SeqAt.EqAt renaming str_int->M8,int_str->M9,int_int->M',tuple_int->OB,str_str->OV,of_refs->OX,same->PY
open PySem.Heap.DictOf renaming new->Nl
open PySem.IsL renaming isList->Nv
open PyProof.Rows.IsTup renaming new->N5
open PySem.ItemsOf renaming nil->Oy
open PySem.SeqAt renaming eq_tupleAt->OG
open PySem.Meets renaming of_wp->OS
open PySem.W.Looks renaming here->O0,ld->PV
open PySem.EqMixed renaming ne_str_int->O1,ne_str_bool->O2,ne_int_str->O3,ne_bool_str->O4,eq_str_int->O5,eq_str_bool->O6,eq_int_str->O7,eq_bool_str->O8
open PySem.Within renaming cons->Pa
open PySem.EqNone renaming ne_str_none->Pb,ne_none_str->Pd,ne_none_none->Pe,ne_none_int->Pf,ne_none_bool->Pg,ne_int_none->Ph,ne_bool_none->Pj,eq_str_none->Pk,eq_none_str->Pl,eq_none_none->Pm,eq_none_int->Pn,eq_none_bool->Po,eq_int_none->Pp,eq_bool_none->Pq
def Gw:=@if_pos
def GG:=@if_neg
def GH:=@decide_eq_false
def G7:=@Ne.symm
def G8:=@decide_eq_true
def HK:=@of_decide_eq_true
def HL:=@congrArg
def HW:=@if_false
def IC:=@bne_self_eq_false
def Ln:=@if_true
def Lq:=@beq_self_eq_true
def Ma:=@or_false
def Mb:=@of_decide_eq_false
def M0:=@Iff.rfl
def OA:=@PySem.Heap.IsTupleIter.at
def PX:=@PySem.Heap.IsList.at
local macro_rules|`(#[$x,*])=>`(⟨$x,*⟩)
local macro_rules|`(tactic|omega)=>`(tactic|lia)
namespace _L
open PySem PySem.Spec PyProof.Rows
abbrev bh:=Sum Int Str
noncomputable def iI:bh->Value->Bool
 | .inl k,v=>Value.isInt k v
 | .inr x,v=>Value.isStrOf x v
noncomputable def EB(w:World):bh->Int
 | .inl k=>hashInt k
 | .inr x=>hashStr w x
theorem jX:∀{k:bh} {v:Value},iI k v=true->(∃i t,k=Sum.inl i/\v=Value.int i t)∨(∃x t,k=Sum.inr x/\v=Value.str x t)
 | .inl i,v,h=>by
  obtain⟨t,e⟩:=Value.isInt_shape (k:=i) (v:=v) h
  exact .inl #[i,t,Z,e]
 | .inr x,v,h=>by
  obtain⟨t,e⟩:=Lk (x:=x) (v:=v) h
  exact .inr #[x,t,Z,e]
theorem Zm(i:Int)(t:Tok):iI (.inl i) (.int i t)=true:=by simp [iI,Value.isInt]
theorem Zn(x:Str)(t:Tok):iI (.inr x) (.str x t)=true:=by simp [iI,Value.isStrOf]
theorem yX(a b:Int):decide ((Sum.inl a:bh)=Sum.inl b)=(a==b):=by
 by_cases e:a=b
 ·subst e;simp
 ·have h:¬(Sum.inl a:bh)=Sum.inl b:=λq=>e (Sum.inl.inj q)
  rw[GH h]
  exact(beq_eq_false_iff_ne.mpr e).symm
theorem y4(a b:Str):decide ((Sum.inr a:bh)=Sum.inr b)=decide (a=b):=by
 by_cases e:a=b
 ·subst e;simp
 ·have h:¬(Sum.inr a:bh)=Sum.inr b:=λq=>e (Sum.inr.inj q)
  rw[GH h,GH e]
theorem yY(a:Int)(b:Str):decide ((Sum.inl a:bh)=Sum.inr b)=false:=GH (λq=>nomatch q)
theorem yZ(a:Str)(b:Int):decide ((Sum.inr a:bh)=Sum.inl b)=false:=GH (λq=>nomatch q)
noncomputable def aT(p:Program)(w:World):PySem.KeyKind p w bh where
 is:=iI
 hash:=EB w
 inj:=λv a b d c=>by
  rcases jX d with ⟨i,t,rfl,rfl⟩ | ⟨x,t,rfl,rfl⟩
  ·rcases jX c with ⟨j,u,rfl,e⟩ | ⟨y,u,rfl,e⟩
   ·injection e with E _;rw[E]
   ·exact nomatch e
  ·rcases jX c with ⟨j,u,rfl,e⟩ | ⟨y,u,rfl,e⟩
   ·exact nomatch e
   ·injection e with E _;rw[E]
 byValue:=λk v h=>by
  rcases jX h with ⟨i,t,rfl,rfl⟩ | ⟨x,t,rfl,rfl⟩<;>rfl
 pyHash:=λH h=>by
  rcases jX H with ⟨i,t,rfl,rfl⟩ | ⟨x,t,rfl,rfl⟩
  ·exact wpAny_pyHash_int h
  ·exact wpAny_pyHash_str h
 eqBool:=λf H h=>by
  rcases jX f with ⟨i,t,rfl,rfl⟩ | ⟨x,t,rfl,rfl⟩
  ·rcases jX H with ⟨j,u,rfl,rfl⟩ | ⟨y,u,rfl,rfl⟩
   ·rw[yX]at h;exact wpAny_eqBool_int h
   ·rw[yY]at h;exact M9 i t y u _ _ _ _ h
  ·rcases jX H with ⟨j,u,rfl,rfl⟩ | ⟨y,u,rfl,rfl⟩
   ·rw[yZ]at h;exact M8 x t j u _ _ _ _ h
   ·rw[y4]at h;exact wpAny_eqBool_str h
 «strs»:=λk x t v h=>by
  rcases jX h with ⟨i,u,rfl,e⟩ | ⟨y,u,rfl,e⟩
  ·exact nomatch e
  ·injection e with E _
   subst E
   cases v<;>rfl
theorem Xy(p:Program)(w:World)(i:Int)(t:Tok):(aT p w).is (.inl i) (.int i t)=true:=Zm i t
theorem Xz(p:Program)(w:World)(x:Str)(t:Tok):(aT p w).is (.inr x) (.str x t)=true:=Zn x t
end _L
namespace _L
open PySem PySem.Spec PyProof.Rows
inductive V where
 |non |bl (b:Bool) |int (i:Int) |str (x:Str) |byt (b:Array UInt8) |flt (b:UInt64) |ref (a:Addr) |ty (n:String)
 deriving DecidableEq
set_option genInjectivity false
def aC:V->Value->Prop
 | .non,u=>u=Value.none
 | .bl b,u=>u=Value.bool b
 | .int i,u=>∃t,u=Value.int i t
 | .str x,u=>∃t,u=Value.str x t
 | .byt b,u=>∃t,u=Value.bytes b t
 | .flt b,u=>∃t,u=Value.float b t
 | .ref a,u=>u=Value.ref a
 | .ty n,u=>u=Value.type n
abbrev ax:List V->List Value->Prop:=Paired aC
theorem ax.length(r:ax x u):x.length=u.length:=Paired.length r
theorem ax.get:∀{X:List V} {U:List Value} {i:Nat} {x:V},ax X U->X[i]?=some x->∃u,U[i]?=some u/\aC x u
 |_,_,_,_,.nil,e=>by simp at e
 |_,_,0,_,.cons r _,e=>by simp at e;subst e;exact#[_,Z,r]
 |_,_,i+1,x,.cons _ t,e=>by
  obtain⟨u,h,H⟩:=ax.get (i:=i) (x:=x) t (by simpa using e)
  exact#[u,by simpa using h,H]
theorem ax.set(r:aC x u):∀{X:List V} {U:List Value} (i:Nat),ax X U->ax (X.set i x) (U.set i u)
 |_,_,_,.nil=>.nil
 |_,_,0,.cons _ t=>.cons r t
 |_,_,i+1,.cons q t=>.cons q (ax.set r i t)
theorem ax.append:∀{x y:List V} {u w:List Value},ax x u->ax y w->ax (x++y) (u++w)
 |_,_,_,_,.nil,s=>s
 |_,_,_,_,.cons r t,s=>.cons r (ax.append t s)
theorem ax.take:∀{x:List V} {u:List Value} (n:Nat),ax x u->ax (x.take n) (u.take n)
 |_,_,0,_=>.nil
 |_,_,_+1,.nil=>.nil
 |_,_,n+1,.cons r t=>.cons r (ax.take n t)
theorem ax.drop:∀{x:List V} {u:List Value} (n:Nat),ax x u->ax (x.drop n) (u.drop n)
 |_,_,0,r=>r
 |_,_,_+1,.nil=>.nil
 |_,_,n+1,.cons _ t=>ax.drop n t
def dJ:Option V->Option Value->Prop
 |some v,some u=>aC v u
 |none,none=>True
 |_,_=>False
def KV{a:Type}:List (a×V)->List (a×Value)->Prop:=Paired λ(p:a×V) (q:a×Value)=>p.1=q.1/\aC p.2 q.2
noncomputable def kV:bh->V
 | .inl i=>.int i
 | .inr x=>.str x
inductive HO where
 |lst (xs:List V)
 |tup (xs:List V)
 |dK (kvs:List (bh×V)) |dT (kvs:List (List bh×V))
 |set (S:Int->Bool) (n:Nat)
 |ins (C dx:Addr) (fs:List (Str×V))
 |own (x:Addr)
 |xd (fs:List (Str×V))
 |met (f x:Addr)
 |rng (lo hi:Int)
 |frz (o:Obj) (u:HO)
 |tbl (ps:Array Value)
 |ext (φ:Heap->Prop)
abbrev Hp:=Addr->Option HO
noncomputable def af(H:Hp)(a:Addr)(o:HO):Hp:=λb=>if b=a then some o else H b
theorem jc:af H a o a=some o:=by unfold af;rw[Gw Z]
theorem ji(h:b≠a):af H a o b=H b:=by unfold af;rw[GG h]
theorem jP{H:Hp}(h:H a=some o)(c:H b=some u)(d:o≠u):a≠b:=by
 intro e;subst e;rw[h]at c;exact d (Hg c)
theorem jk{H:Hp}(h:H a=some o)(c:H b=none):a≠b:=by
 intro e;subst e;rw[h]at c;cases c
section
variable (P:Program)(w:World)
def aK(H:Hp)(h:Heap)(a:Addr):HO->Prop
 | .lst X=>X.length<=sizeLine/\∃(i:List Value) (n:Nat),ax X i/\h.get? a=some { cls:=.type "list",data:=.seq i.toArray n }
 | .tup X=>X.length<=sizeLine/\∃i:List Value,ax X i/\IsTup h a i.toArray
 | .dK k=>k.length<=sizeLine/\(a==sysModules)=false/\∃c,KV k c/\h.DictOf (aT P w) a c
 | .dT k=>k.length<=sizeLine/\(a==sysModules)=false/\∃X:List (List bh×Addr×Value),
   Paired (λ(p:List bh×V) (q:List bh×Addr×Value)=>p.1=q.1/\H q.2.1=some (.tup (p.1.map kV))/\aC p.2 q.2.2) k X/\
   ∃o e E,h.get? a=some o/\o.ExactDict/\o.data= .dict e E/\e.toList=X.map (entryOfKey (tupleKind (aT P w)))/\(X.map (·.1)).Nodup
 | .set S n=>h.SetOf (intKind P w) a S n
 | .ins C d F=>H d=some (.own a)/\F.length<=1000/\d≠a/\h.get? a=some (instObj C d)/\
   ∃m,h.Ns1 d m/\(∀f,dJ (F.lookup f) (m f))/\PySem.Within m (F.map (·.1))
 | .own _=>∃o,h.get? a=some o
 | .xd F=>∃m,h.Ns1 a m/\∀f,dJ (F.lookup f) (m f)
 | .rng lo l=>∃t u v,h.get? a=some { cls:=.type "range",data:=.fields (List.toArray [.int lo t,.int l u,.int 1 v]) }
 | .frz o u=>h.get? a=some o/\aK H h a u
 | .tbl r=>h.get? a=some { cls:=.none,data:=.fields r }
 | .met f x=>h.get? a=some (PySem.W.methodObj (.ref f) (.ref x))
 | .ext b=>b h/\(∃o,h.get? a=some o)/\∀g j:Heap,b g->(∀o,g.get? a=some o->j.get? a=some o)->b j
def eF(H:Hp)(h:Heap):Prop:=∀a o,H a=some o->aK P w H h a o
end
section
variable {P:Program}{w:World}{H H':Hp}{h h':Heap}{a:Addr}{o:HO}
theorem aK.lt(x:aK P w H h a o):a < h.objs.size:=by
 cases o with
 |lst X=>obtain⟨_,_,_,_,e⟩:=x;exact Gk e
 |tup X=>obtain⟨_,_,_,p⟩:=x;exact p.lt
 |dK k=>obtain⟨_,_,_,_,o,_,_,e,_⟩:=x;exact Gk e
 |dT k=>obtain⟨_,_,_,_,o,_,_,e,_⟩:=x;exact Gk e
 |set S n=>obtain⟨o,_,_,_,e,_⟩:=x;exact Gk e
 |ins C d F=>obtain⟨_,_,_,e,_⟩:=x;exact Gk e
 |own y=>obtain⟨_,e⟩:=x;exact Gk e
 |xd F=>obtain⟨_,⟨_,_,_,e,_⟩,_⟩:=x;exact Gk e
 |rng lo b=>obtain⟨_,_,_,e⟩:=x;exact Gk e
 |frz O u=>obtain⟨e,_⟩:=x;exact Gk e
 |tbl c=>exact Gk (show h.get? a=some _ from x)
 |met f y=>exact Gk (show h.get? a=some _ from x)
 |ext g=>obtain⟨_,⟨_,e⟩,_⟩:=x;exact Gk e
theorem Paired.mapP{c d:Type}{F G:c->d->Prop}:∀{l:List c} {L:List d},Paired F l L->(∀a b,F a b->G a b)->Paired G l L
 |_,_,.nil,_=>.nil
 |_,_,.cons r t,f=>.cons (f _ _ r) (Paired.mapP t f)
theorem aK.stay(x:aK P w H h a o)(k:∀b u,(b=a∨H b=some (.own a))->h.get? b=some u->h'.get? b=some u)
  (s:∀b,H b=some (.own a)->H' b=some (.own a)) (A:∀b X,H b=some (.tup X)->H' b=some (.tup X)):aK P w H' h' a o:=by
 induction o with
 |lst X=>obtain⟨z,i,n,r,e⟩:=x;exact#[z,i,n,r,k _ _ (.inl Z) e]
 |tup X=>obtain⟨z,i,r,O,e,c⟩:=x;exact#[z,i,r,O,k _ _ (.inl Z) e,c]
 |dK K=>obtain⟨z,y,V,r,O,E,g,e,c⟩:=x;exact#[z,y,V,r,O,E,g,k _ _ (.inl Z) e,c]
 |dT K=>
  obtain⟨z,y,X,r,O,E,g,e,c⟩:=x
  exact#[z,y,X,Paired.mapP r λp q z=>#[z.1,A _ _ z.2.1,z.2.2],O,E,g,k _ _ (.inl Z) e,c]
 |set S n=>obtain⟨O,E,g,t,e,c⟩:=x;exact#[O,E,g,t,k _ _ (.inl Z) e,c]
 |ins C D F=>
  obtain⟨d,z,N,e,m,⟨j,E,g,B,c⟩,r⟩:=x
  exact#[s _ d,z,N,k _ _ (.inl Z) e,m,#[j,E,g,k _ _ (.inr d) B,c],r]
 |own y=>obtain⟨O,e⟩:=x;exact#[O,k _ _ (.inl Z) e]
 |xd F=>obtain⟨m,⟨j,E,g,e,c⟩,r⟩:=x;exact#[m,#[j,E,g,k _ _ (.inl Z) e,c],r]
 |rng lo G=>obtain⟨t,u,v,e⟩:=x;exact#[t,u,v,k _ _ (.inl Z) e]
 |frz O u I=>obtain⟨e,q⟩:=x;exact#[k _ _ (.inl Z) e,I q]
 |tbl l=>
  have e:h.get? a=some { cls:=.none,data:=.fields l }:=x
  show h'.get? a=some { cls:=.none,data:=.fields l }
  exact k a _ (.inl Z) e
 |met f y=>
  have e:h.get? a=some (PySem.W.methodObj (.ref f) (.ref y)):=x
  show h'.get? a=some (PySem.W.methodObj (.ref f) (.ref y))
  exact k a _ (.inl Z) e
 |ext J=>obtain⟨p,⟨o,e⟩,st⟩:=x;exact#[st _ _ p λo q=>k _ _ (.inl Z) q,#[o,k _ _ (.inl Z) e],st]
theorem eF.lt(x:eF P w H h)(e:H a=some o):a < h.objs.size:=(x a o e).lt
theorem eF.fresh(x:eF P w H h)(e:h.objs.size<=a):H a=none:=by
 cases q:H a with
 |none=>rfl
 |some u=>exact absurd (Gu (x.lt q) e) (HE _)
theorem eF.kept(x:eF P w H h)(k:∀b u,h.get? b=some u->h'.get? b=some u):eF P w H h':=λa o e=>
 (x a o e).stay (λb u _ q=>k b u q) (λ_ q=>q) λ_ _ q=>q
theorem eF.laid(x:eF P w H h)(k:∀b u,h.get? b=some u->h'.get? b=some u)(g:h.objs.size<=a)(n:aK P w (af H a o) h' a o):eF P w (af H a o) h':=λb u e=>by
 have d:=x.fresh g
 by_cases f:b=a
 ·subst f;rw[jc]at e;cases e;exact n
 ·rw[ji f]at e
  exact(x b u e).stay (λc v _ q=>k c v q) (λc q=>by rw[ji (jk q d)];exact q) λc X q=>by rw[ji (jk q d)];exact q
end
def Rd(H:Hp)(a:Addr)(u:HO):Prop:=H a=some u∨∃o,H a=some (.frz o u)
theorem Rd.ok{P:Program}(r:Rd H a u)(x:eF P w H h):aK P w H h a u:=by
 rcases r with r | ⟨o,r⟩
 ·exact x a u r
 ·obtain⟨_,q⟩:=x a _ r
  exact q
def Cd:Option HO->Prop
 |some (.lst _)=>True
 |some (.dK _)=>True
 |some (.dT _)=>True
 |some (.set _ _)=>True
 |some (.ins _ _ _)=>True
 |some (.ext _)=>True
 |_=>False
section
variable {P:Program}{w:World}{H:Hp}{h h':Heap}{x e:Addr}{o':HO}
theorem eF.write(o:eF P w H h)(m:Cd (H x))(i:e=x∨H e=some (.own x))(k:∀b u,b≠e->h.get? b=some u->h'.get? b=some u)(f:∃u,h'.get? e=some u)
  (g:aK P w (af H x o') h' x o'):eF P w (af H x o') h':=λb u q=>by
 have n:∀c y,H c=some (.own y)->c≠x:=λc y r z=>by subst z;rw[r]at m;exact m
 have N:∀c X,H c=some (.tup X)->c≠x:=λc X r z=>by subst z;rw[r]at m;exact m
 by_cases d:b=x
 ·subst d;rw[jc]at q;cases q;exact g
 ·rw[ji d]at q
  by_cases a:b=e
  ·have Q:H b=some (.own x):=by
    rcases i with z |z
    ·exact absurd (a.trans z) d
    ·rw[a];exact z
   rw[q]at Q;cases Q
   obtain⟨v,j⟩:=f
   exact#[v,by rw[a];exact j]
  ·refine(o b u q).stay (λc v hc r=>k c v ?_ r) (λc r=>by rw[ji (n c b r)];exact r) λc X r=>by rw[ji (N c X r)];exact r
   rcases hc with rfl |hc
   ·exact a
   ·rintro rfl
    rcases i with z |z
    ·exact n c b hc z
    ·rw[hc]at z;cases z;exact d Z
end
structure Un(fs ex:List Addr)(H H':Hp)(h h':Heap):Prop where
 keep:∀b o,h.get? b=some o->H b=none->b∉fs->b∉ex->h'.get? b=some o
 slot:∀b o,h.get? b=some o->H b=none->b∈fs->b∉ex->∃sl,h'.get? b=some { o with slots:=sl }
 free:∀b o,h.get? b=some o->H b=none->b∉ex->H' b=none
 there:∀b o,h.get? b=some o->b∉ex->∃o',h'.get? b=some o'
 tups:∀b xs,H b=some (.tup xs)->H' b=some (.tup xs)
 frzs:∀b o u,H b=some (.frz o u)->H' b=some (.frz o u)
 tbls:∀b ps,H b=some (.tbl ps)->∃more,H' b=some (.tbl (ps++more))
section
variable {fs fs' ex ex':List Addr}{H H1 H2:Hp}{h h1 h2 h':Heap}{a x e:Addr}{o:HO}
theorem Un.any(u:Un fs ex H H1 h h1)(q:h.get? b=some O)(n:H b=none)(c:b∉ex):∃s,h1.get? b=some { O with slots:=s }:=by
 by_cases d:b∈fs
 ·exact u.slot b O q n d c
 ·exact#[O.slots,u.keep b O q n d c]
theorem Un.kept(k:∀b u,h.get? b=some u->h'.get? b=some u):Un fs ex H H h h':=
 #[λb O q _ _ _=>k b O q,λb O q _ _ _=>#[O.slots,k b O q],λ_ _ _ n _=>n,λb O q _=>#[O,k b O q],λ_ _ q=>q,λ_ _ _ q=>q,λ_ p q=>#[(List.toArray []),by rw[q];simp]]
theorem Un.refl:Un fs ex H H h h:=Un.kept λ_ _ q=>q
theorem Un.laid(k:∀b u,h.get? b=some u->h'.get? b=some u)(d:h.objs.size<=a)(c:H a=none):Un fs ex H (af H a o) h h' where
 keep:=λb u q _ _ _=>k b u q
 slot:=λb u q _ _ _=>#[u.slots,k b u q]
 free:=λb u q n _=>by rw[ji (Go (Gu (Gk q) d))];exact n
 there:=λb u q _=>#[u,k b u q]
 tups:=λb X q=>by rw[ji (jk q c)];exact q
 frzs:=λb u X q=>by rw[ji (jk q c)];exact q
 tbls:=λb p q=>#[(List.toArray []),by rw[ji (jk q c),q];simp]
theorem Un.write(m:Cd (H x))(j:e=x∨H e=some (.own x))(k:∀b u,b≠e->h.get? b=some u->h'.get? b=some u)(d:∃u,h'.get? e=some u):Un fs ex H (af H x o) h h':=by
 have g:∀b,H b=none->b≠x:=λb n z=>by subst z;rw[n]at m;exact m
 have i:∀b,H b=none->b≠e:=λb n z=>by
  subst z
  rcases j with r |r
  ·exact g b n r
  ·rw[n]at r;cases r
 have f:∀b u,H b=some u->¬Cd (some u)->b≠x:=λb u q N z=>by subst z;rw[q]at m;exact N m
 refine#[λb u q n _ _=>k b u (i b n) q,λb u q n _ _=>#[u.slots,k b u (i b n) q],λb u q n _=>by rw[ji (g b n)];exact n,λb u q _=>?_,
  λb X q=>by rw[ji (f b _ q λz=>z)];exact q,λb u X q=>by rw[ji (f b _ q λz=>z)];exact q,λb p q=>#[(List.toArray []),by rw[ji (f b _ q λz=>z),q];simp]]
 by_cases c:b=e
 ·subst c;exact d
 ·exact#[u,k b u c q]
end
noncomputable def Ec(h:Heap)(H:Hp):List Addr:=(List.range h.objs.size).filter λa=>(H a).isSome
noncomputable def iQ(h:Heap)(H:Hp):Heap:=PySem.W.hideAll h (Ec h H)
theorem Zo(h:Heap)(H:Hp):(iQ h H).objs.size=h.objs.size:=PySem.W.hideAll_size _ _
theorem pU{h:Heap}{H:Hp}(e:h.get? b=some o)(n:H b=none):(iQ h H).get? b=some o:=
 PySem.W.hideAll_get _ e λa=>by
  have q:(H b).isSome=true:=(List.mem_filter.mp a).2
  rw[n]at q;simp at q
theorem vP(e:(iQ h H).get? b=some o):h.get? b=some o/\H b=none:=by
 have E:h.get? b=some o:=PySem.W.of_hideAll (Ec h H) e
 refine#[E,?_]
 cases q:H b with
 |none=>rfl
 |some x=>
  have a:b∈Ec h H:=List.mem_filter.mpr #[List.mem_range.mpr (Gk E),by simp [q]]
  have z:(iQ h H).get? b=none:=PySem.W.hideAll_none (Ec h H) a
  rw[z]at e;cases e
end _L
namespace _L
open PySem PySem.Spec PyProof.Rows
structure Mod(K:Frag)(mg:Str->Option Value)(base:Heap):Prop where
 kin:K.In base
 glob:base.Ns mainGlobals mg
 blt:∃mb,base.Ns builtinsNs mb/\∀x:Str,x≠"__name__"->mb x=bootBuiltins x
 nolimit:base.NoLimit
structure Cx where
 prog:Program
 w:World
 K:Frag
 mg:Str->Option Value
 base:Heap
 A:Around
 N:List Str
 s₀:Shared
 H₀:Hp
 env:Env
 outer:List Env
 stack:List Env
 ex:List Addr
 fn:Str->Bool
 calm:Bool
 pn:List (Addr×Obj)
 xe:Value->Shared->Prop
noncomputable def iH(l:List Env):List Addr:=l.filterMap (·.frame)
noncomputable abbrev Cx.fs(X:Cx):List Addr:=iH X.outer
def D6(s:Scope)(x:Str):Prop:=s.names.lookup x=some .local∨s.names.lookup x=some .cell∨s.names.lookup x=some .free
def oO(s:Scope)(x:Str):Prop:=s.names.lookup x=some .local∨s.names.lookup x=some .cell
def Eg(e:Env)(h:Heap)(m:Str->Option Value)(x:Str)(u:Value):Prop:=
 (e.kindOf x=some .local/\m x=some u)∨((e.kindOf x=some .cell∨e.kindOf x=some .free)/\∃c,e.cells.lookup x=some c/\h.IsCell c (some u))
structure Cx.Ok(X:Cx):Prop where
 mod:Mod X.K X.mg X.base
 kind:X.env.scope.kind= .function
 glob:X.env.globals=mainGlobals
 blt:X.env.builtins=builtinsNs
 above:X.s₀.heap.objs.size<=X.env.locals
 inj:∀x y c,X.env.cells.lookup x=some c->X.env.cells.lookup y=some c->x=y
 has:∀x,(X.env.kindOf x=some .cell∨X.env.kindOf x=some .free)->∃c,X.env.cells.lookup x=some c
 cab:∀x c,X.fn x=true->X.env.cells.lookup x=some c->X.s₀.heap.objs.size<=c
 hd:X.calm=true->X.A.handled=none
 frames:X.A.frames=some X.stack
 stk:X.stack=X.outer∨(X.stack=X.env::X.outer/\X.env.frame=some X.env.locals)
 exf:∀b∈X.ex,b≠X.env.locals/\∀x c,X.env.cells.lookup x=some c->c≠b
 bs:∀b o,X.base.get? b=some o->X.s₀.heap.get? b=some o/\X.H₀ b=none
 bsz:X.base.objs.size<=X.s₀.heap.objs.size
 noex:∀b o,X.base.get? b=some o->b∉X.ex
 exfs:∀b∈X.ex,b∉X.fs
 funs:X.s₀.heap.FunFrames X.base X.outer
 frf:∀b∈X.fs,X.H₀ b=none
structure ap(X:Cx)(pins:List (Addr×Obj))(σ:List (Option V))(H:Hp)(s:Shared):Prop where
 ok:X.Ok
 os:s.os=X.s₀.os
 bare:AllBare s.gens
 base:Un X.fs X.ex X.H₀ H X.s₀.heap s.heap
 loc:∃m,s.heap.Ns X.env.locals m/\∀(i:Nat) (x:Str) (v:V),X.N[i]?=some x->σ[i]?=some (some v)->D6 X.env.scope x->∃u,aC v u/\Eg X.env s.heap m x u
 cell:∀x c,X.env.cells.lookup x=some c->∃v,s.heap.IsCell c v
 free:H X.env.locals=none
 freeC:∀x c,X.env.cells.lookup x=some c->H c=none
 pin:∀p∈X.pn++pins,s.heap.get? p.1=some p.2/\H p.1=none/\p.1≠X.env.locals/\p.1∉X.fs/\∀v,p.2.data≠ .cell v
 hok:eF X.prog X.w H s.heap
 len:σ.length=X.N.length
section
variable {X:Cx}{pins:List (Addr×Obj)}{σ:List (Option V)}{H H':Hp}{s:Shared}{h':Heap}
theorem Cx.Ok.nofr(O:X.Ok)(e:X.base.get? b=some o):b∉X.fs:=λh=>by
 have:=(O.funs.mem h).1
 rw[e]at this;cases this
theorem ap.bs(I:ap X pins σ H s):∀b o,X.base.get? b=some o->s.heap.get? b=some o/\H b=none:=λb o e=>
 #[I.base.keep b o (I.ok.bs b o e).1 (I.ok.bs b o e).2 (I.ok.nofr e) (I.ok.noex b o e),I.base.free b o (I.ok.bs b o e).1 (I.ok.bs b o e).2 (I.ok.noex b o e)]
theorem ap.bk(I:ap X pins σ H s):∀b o,X.base.get? b=some o->s.heap.get? b=some o:=λb o e=>(I.bs b o e).1
theorem ap.mod(I:ap X pins σ H s):Mod X.K X.mg X.base:=I.ok.mod
theorem ap.kIn(I:ap X pins σ H s):X.K.In s.heap:=I.ok.mod.kin.keeps I.bk
theorem ap.lt(I:ap X pins σ H s):X.env.locals < s.heap.objs.size:=let #[_,h,_]:=I.loc;h.lt
theorem ap.sz(I:ap X pins σ H s):X.s₀.heap.objs.size<=s.heap.objs.size:=Gr I.ok.above (IV I.lt)
theorem ap.nofs(I:ap X pins σ H s)(h:s.heap.objs.size<=a):a∉X.fs:=λb=>by
 obtain⟨_,o,c,_⟩:=I.ok.funs.mem b
 exact absurd (Gu (Gk c) (Gr I.sz h)) (HE _)
theorem ap.cne(I:ap X pins σ H s):∀x c,X.env.cells.lookup x=some c->c≠X.env.locals:=λx c e z=>by
 obtain⟨v,o,b,d⟩:=I.cell x c e
 obtain⟨m,⟨O,E,f,h,a,_⟩,_⟩:=I.loc
 rw[z,h]at b;cases b;rw[a]at d;cases d
theorem ap.funs(I:ap X pins σ H s):s.heap.FunFrames X.base X.outer:=by
 have all:∀(l:List Env),(∀b∈iH l,b∈X.fs)->X.s₀.heap.FunFrames X.base l->s.heap.FunFrames X.base l:=by
  intro l
  induction l with
  |nil=>intro _ _;trivial
  |cons E r i=>
   intro d f
   obtain⟨g,⟨L,o,h,j,k,m⟩,n⟩:=f
   have a:L∈X.fs:=d L (by unfold iH;rw[List.filterMap_cons,h];exact List.mem_cons_self)
   obtain⟨S,e⟩:=I.base.slot L o k (I.ok.frf L a) a λz=>I.ok.exfs L z a
   exact#[g,#[L,_,h,j,e,m],i (λb c=>d b (by unfold iH;rw[List.filterMap_cons,h];exact List.mem_cons_of_mem _ c)) n]
 exact all X.outer (λ_ c=>c) I.ok.funs
theorem ap.stack(I:ap X pins σ H s):s.heap.FunFrames X.base X.stack:=by
 rcases I.ok.stk with e | ⟨e,h⟩
 ·rw[e];exact I.funs
 ·rw[e]
  obtain⟨m,a,_⟩:=I.loc
  refine .cons (by rw[I.ok.kind];decide) h a ?_ I.funs
  exact Heap.get?_none_of_le (Gr I.ok.bsz I.ok.above)
theorem ap.stkSub(I:ap X pins σ H s):∀b∈iH X.stack,b∈X.env.locals::X.fs:=λb h=>by
 rcases I.ok.stk with e | ⟨e,a⟩
 ·rw[e]at h;exact GJ _ h
 ·rw[e]at h
  unfold iH at h
  rw[Mn,a]at h
  exact h
theorem ap.stkFree(I:ap X pins σ H s):∀b∈iH X.stack,H b=none:=λb hb=>by
 rcases List.mem_cons.mp (I.stkSub b hb) with e |hb
 ·rw[e];exact I.free
 ·obtain⟨_,o,h,_⟩:=I.ok.funs.mem hb
  exact I.base.free b o h (I.ok.frf b hb) λz=>I.ok.exfs b z hb
theorem ap.step{g':Array GenState}{d':Drawn}{ch:List Addr}(I:ap X pins σ H s)
  (a:∀b∈ch,(b∈X.ex∨X.s₀.heap.objs.size<=b)/\b≠X.env.locals/\(∀x c,X.env.cells.lookup x=some c->c≠b)/\∀p∈X.pn++pins,p.1≠b)
  (K:∀b o,b≠X.env.locals->b∉X.fs->b∉ch->s.heap.get? b=some o->H b=none->h'.get? b=some o)
  (S:∀b o,b≠X.env.locals->b∈X.fs->b∉ch->s.heap.get? b=some o->H b=none->∃J,h'.get? b=some { o with slots:=J }) (f:∀b o,b∉ch->s.heap.get? b=some o->H b=none->H' b=none)
  (t:∀b o,b∉ch->s.heap.get? b=some o->∃O,h'.get? b=some O)
  (T:∀b j,H b=some (.tup j)->H' b=some (.tup j)) (F:∀b o u,H b=some (.frz o u)->H' b=some (.frz o u)) (B:∀b P,H b=some (.tbl P)->∃M,H' b=some (.tbl (P++M)))
  (ns:∀m,s.heap.Ns X.env.locals m->h'.Ns X.env.locals m) (L:eF X.prog X.w H' h') (hg:AllBare g'):
  ap X pins σ H' { s with heap:=h',gens:=g',drawn:=d',toks:=t' }:=by
 have D:∀b o,X.s₀.heap.get? b=some o->b≠X.env.locals:=λb o e=>Go (Gu (Gk e) I.ok.above)
 have g:∀b o,X.s₀.heap.get? b=some o->b∉X.ex->b∉ch:=λb o e h y=>by
  rcases(a b y).1 with z |z
  ·exact h z
  ·exact absurd (Gu (Gk e) z) (HE _)
 have C:∀x c,X.env.cells.lookup x=some c->∀v,s.heap.IsCell c v->h'.IsCell c v:=λx c e v #[o,A,Q]=>by
  have N:c∉ch:=λz=>(a c z).2.2.1 x c e Z
  by_cases U:c∈X.fs
  ·obtain⟨J,q⟩:=S c o (I.cne x c e) U N A (I.freeC x c e)
   exact#[_,q,Q]
  ·exact#[o,K c o (I.cne x c e) U N A (I.freeC x c e),Q]
 refine#[I.ok,I.os,hg,#[λb o e n y h=>?_,λb o e n y h=>?_,λb o e n h=>?_,λb o e h=>?_,λb j e=>T b j (I.base.tups b j e),λb o j e=>F b o j (I.base.frzs b o j e),λb P e=>?_],?_,λx c e=>?_,?_,λx c e=>?_,λp W=>?_,L,I.len]
 ·exact K b o (D b o e) y (g b o e h) (I.base.keep b o e n y h) (I.base.free b o e n h)
 ·obtain⟨J,E⟩:=I.base.slot b o e n y h
  obtain⟨R,G⟩:=S b _ (D b o e) y (g b o e h) E (I.base.free b o e n h)
  exact#[R,G]
 ·obtain⟨O,E⟩:=I.base.there b o e h
  exact f b O (g b o e h) E (I.base.free b o e n h)
 ·obtain⟨O,E⟩:=I.base.there b o e h
  exact t b O (g b o e h) E
 ·obtain⟨m1,E⟩:=I.base.tbls b P e
  obtain⟨m2,G⟩:=B b _ E
  exact#[m1++m2,by rw[G,Array.append_assoc]]
 ·obtain⟨m,hn,hl⟩:=I.loc
  refine#[m,ns m hn,λi x v E G e3=>?_]
  obtain⟨u,r,l⟩:=hl i x v E G e3
  refine#[u,r,?_]
  rcases l with l | ⟨k,c,e,z⟩
  ·exact .inl l
  ·exact .inr #[k,c,e,C x c e _ z]
 ·obtain⟨v,z⟩:=I.cell x c e
  exact#[v,C x c e v z]
 ·obtain⟨m,⟨o,_,_,A,_⟩,_⟩:=I.loc
  exact f _ o (λz=>(a _ z).2.1 Z) A I.free
 ·obtain⟨v,o,A,Q⟩:=I.cell x c e
  exact f c o (λz=>(a c z).2.2.1 x c e Z) A (I.freeC x c e)
 ·obtain⟨e,n,Y,nf,d⟩:=I.pin p W
  have N:p.1∉ch:=λz=>(a p.1 z).2.2.2 p W Z
  exact#[K p.1 p.2 Y nf N e n,f p.1 p.2 N e n,Y,nf,d]
theorem ap.un{t':Nat}(I:ap X pins σ H s)(u:Un X.fs [] H H' s.heap h')(a:eF X.prog X.w H' h'):ap X pins σ H' { s with heap:=h',toks:=t' }:=by
 obtain⟨m,⟨o,j,k,f,r⟩,_⟩:=id I.loc
 obtain⟨S,g⟩:=u.any f I.free P5
 exact I.step (g':=s.gens) (d':=s.drawn) (ch:=[]) (λ_ z=>nomatch z) (λb o _ c _ e n=>u.keep b o e n c P5) (λb o _ c _ e n=>u.slot b o e n c P5) (λb o _ e n=>u.free b o e n P5) (λb o _ e=>u.there b o e P5) u.tups u.frzs u.tbls (λM i=>by
  obtain⟨O,E,d,h,R⟩:=i
  rw[f]at h;cases h
  exact#[_,E,d,g,R]) a I.bare
theorem ap.call{g':Array GenState}{t':Nat}{d':Drawn}{ch:List Addr}(I:ap X pins σ H s)(u:Un (iH X.stack) ch H H' s.heap h')(f:eF X.prog X.w H' h')(k:AllBare g')
  (a:∀b∈ch,(b∈X.ex∨X.s₀.heap.objs.size<=b)/\b≠X.env.locals/\(∀x c,X.env.cells.lookup x=some c->c≠b)/\∀p∈X.pn++pins,p.1≠b):
  ap X pins σ H' { s with heap:=h',gens:=g',drawn:=d',toks:=t' }:=by
 obtain⟨m,⟨o,t,v,j,r⟩,_⟩:=id I.loc
 obtain⟨S,g⟩:=u.any j I.free λz=>(a _ z).2.1 Z
 exact I.step (ch:=ch) a (λb o g l h e n=>u.keep b o e n (λz=>(List.mem_cons.mp (I.stkSub b z)).elim g l) h) (λb o _ _ h e n=>u.any e n h) (λb o h e n=>u.free b o e n h) (λb o h e=>u.there b o e h) u.tups u.frzs u.tbls (λM q=>by
  obtain⟨O,E,i,d,R⟩:=q
  rw[j]at d;cases d
  exact#[_,E,i,g,R]) f k
theorem ap.turned{t':Nat}{it:Addr}(I:ap X pins σ H s)(k:∀b o,b≠it->s.heap.get? b=some o->h'.get? b=some o)(d:H it=none)(a:it≠X.env.locals)
  (f:it∈X.ex∨X.s₀.heap.objs.size<=it) (g:∀x c,X.env.cells.lookup x=some c->c≠it) (i:∀p∈X.pn++pins,p.1≠it):ap X pins σ H { s with heap:=h',toks:=t' }:=by
 have N:∀b u,H b=some u->b≠it:=λb u e z=>by rw[z,d]at e;cases e
 refine I.step (g':=s.gens) (d':=s.drawn) (ch:=[it]) (λb j=>?_) (λb o _ _ h e _=>k b o (λz=>h (by simp [z])) e) (λb o _ _ h e _=>#[o.slots,k b o (λz=>h (by simp [z])) e]) (λ_ _ _ _ n=>n)
  (λb o h e=>#[o,k b o (λz=>h (by simp [z])) e]) (λ_ _ e=>e) (λ_ _ _ e=>e) (λb P e=>#[(List.toArray []),by rw[e];simp]) (λm l=>?_) (λb u e=>?_) I.bare
 ·have e:b=it:=by simpa using j
  subst e
  exact#[f,a,g,i]
 ·obtain⟨o,E,t,w,r⟩:=l
  exact#[o,E,t,k _ o (G7 a) w,r]
 ·refine(I.hok b u e).stay (λc v h q=>k c v ?_ q) (λ_ q=>q) λ_ _ q=>q
  rcases h with z |z
  ·rw[z];exact N b u e
  ·exact N c _ z
theorem ap.tok(I:ap X pins σ H s)(t:Nat):ap X pins σ H { s with toks:=t }:=I.un (h':=s.heap) (t':=t) Un.refl I.hok
theorem ap.kept{t':Nat}(I:ap X pins σ H s)(k:∀b u,s.heap.get? b=some u->h'.get? b=some u):ap X pins σ H { s with heap:=h',toks:=t' }:=I.un (Un.kept k) (I.hok.kept k)
theorem ap.laid{a:Addr}{o:HO}{t':Nat}(I:ap X pins σ H s)(k:∀b u,s.heap.get? b=some u->h'.get? b=some u)(h:s.heap.objs.size<=a)(n:aK X.prog X.w (af H a o) h' a o):
  ap X pins σ (af H a o) { s with heap:=h',toks:=t' }:=I.un (Un.laid k h (I.hok.fresh h)) (I.hok.laid k h n)
theorem ap.write{x e:Addr}{o:HO}{t':Nat}(I:ap X pins σ H s)(m:Cd (H x))(a:e=x∨H e=some (.own x))(k:∀b u,b≠e->s.heap.get? b=some u->h'.get? b=some u)(h:∃u,h'.get? e=some u)
  (n:aK X.prog X.w (af H x o) h' x o):ap X pins σ (af H x o) { s with heap:=h',toks:=t' }:=I.un (Un.write m a k h) (I.hok.write m a k h n)
theorem ap.pins_of{pins':List (Addr×Obj)}(I:ap X pins σ H s)(h:∀p∈pins',s.heap.get? p.1=some p.2/\H p.1=none/\p.1≠X.env.locals/\p.1∉X.fs/\∀v,p.2.data≠ .cell v):ap X pins' σ H s:=
 #[I.ok,I.os,I.bare,I.base,I.loc,I.cell,I.free,I.freeC,λp a=>(List.mem_append.mp a).elim (λz=>I.pin p (HN _ z)) (h p),I.hok,I.len]
theorem Q9{N:List Str}(h:N.Nodup){i j:Nat}{x:Str}(a:N[i]?=some x)(b:N[j]?=some x):i=j:=by
 obtain⟨c,e⟩:=List.getElem?_eq_some_iff.mp a
 obtain⟨d,E⟩:=List.getElem?_eq_some_iff.mp b
 exact(List.getElem_inj h).mp (e.trans E.symm)
theorem K9{v:V}{Q:Unit->Shared->Prop}(I:ap X pins σ H s)(hN:X.N.Nodup)(L:X.N[i]?=some x)(l:oO X.env.scope x)(r:aC v u)
  (h:∀s',ap X pins (σ.set i (some v)) H s'->(∃a,Heap.SameBut a s.heap s'.heap/\(a=X.env.locals∨X.env.cells.lookup x=some a))->Q () s') (hf:X.fn x=true∨X.env.scope.names.lookup x=some .local:=by first |exact .inl Z |exact .inr Z |assumption):wpAny M A (storeName X.env x u) Q E s:=by
 obtain⟨m,hn,hl⟩:=id I.loc
 have O:(X.env.scope.kind== .class||(X.env.scope.kind== .module&&X.env.locals != X.env.globals))=false:=by rw[I.ok.kind];rfl
 have D:i < σ.length:=by rw[I.len];exact(List.getElem?_eq_some_iff.mp L).1
 have F:=I.cne
 have t:∀{a:Addr} {h':Heap},(∃o,s.heap.get? a=some o/\H a=none)->Heap.SameBut a s.heap h'->eF X.prog X.w H h':=λ{a h'} ha f b ob e=>by
  obtain⟨_,_,B⟩:=ha
  refine(I.hok b ob e).stay (λc W hc q=>(f.2 c ?_).trans q) (λ_ q=>q) λ_ _ q=>q
  rintro rfl
  rcases hc with rfl |hc
  ·rw[B]at e;cases e
  ·rw[B]at hc;cases hc
 rcases l with hk |hk
 ·refine wpAny_storeName_local hk hn (λh' h0 f=>?_) O
  obtain⟨oL,_,_,h1,_⟩:=id hn
  refine h _ #[I.ok,I.os,I.bare,#[λb o e n G l=>?_,λb o e n G l=>?_,I.base.free,λb o e l=>?_,I.base.tups,I.base.frzs,I.base.tbls],#[_,h0,λj y v' g C e3=>?_],λy c e=>?_,I.free,I.freeC,λp hp=>?_,t #[oL,h1,I.free] f,by simpa using I.len] #[_,f,.inl Z]
  ·exact(f.2 b (Go (Gu (Gk e) I.ok.above))).trans (I.base.keep b o e n G l)
  ·obtain⟨sl,g⟩:=I.base.slot b o e n G l
   exact#[sl,(f.2 b (Go (Gu (Gk e) I.ok.above))).trans g]
  ·obtain⟨o',g⟩:=I.base.there b o e l
   exact#[o',(f.2 b (Go (Gu (Gk e) I.ok.above))).trans g]
  ·by_cases J:j=i
   ·subst J
    rw[L]at g;cases g
    rw[Lc D]at C
    cases C
    exact#[u,r,.inl #[hk,P5]]
   ·rw[Iy (G7 J)]at C
    obtain⟨u',r',q⟩:=hl j y v' g C e3
    refine#[u',r',?_]
    rcases q with ⟨k,e⟩ | ⟨k,c,e,z⟩
    ·refine .inl #[k,?_]
     have:y≠x:=λe=>J (Q9 hN g (e▸L))
     simp [this,e]
    ·exact .inr #[k,c,e,z.sameBut f (F y c e)]
  ·obtain⟨W,z⟩:=I.cell y c e
   exact#[W,z.sameBut f (F y c e)]
  ·obtain⟨e,n,U,nf,d⟩:=I.pin p hp
   exact#[(f.2 p.1 U).trans e,n,U,nf,d]
 ·have K:X.fn x=true:=by
   rcases hf with z |z
   ·exact z
   ·rw[z]at hk;cases hk
  obtain⟨c,hc⟩:=I.ok.has x (.inl hk)
  obtain⟨W,z⟩:=I.cell x c hc
  refine wpAny_storeName_cell I.ok.kind hk hc z (λh' P f=>?_)
  obtain⟨oc,R,S⟩:=id z
  refine h { s with heap:=h' } #[I.ok,I.os,I.bare,#[λb o e n G l=>?_,λb o e n G l=>?_,I.base.free,λb o e l=>?_,I.base.tups,I.base.frzs,I.base.tbls],#[m,hn.sameBut f (G7 (F x c hc)),λj y v' g C e3=>?_],λy Y e=>?_,I.free,I.freeC,λp hp=>?_,t #[oc,R,I.freeC x c hc] f,by simpa using I.len] #[c,f,.inr hc]
  ·exact(f.2 b (Go (Gu (Gk e) (I.ok.cab x c K hc)))).trans (I.base.keep b o e n G l)
  ·obtain⟨sl,g⟩:=I.base.slot b o e n G l
   exact#[sl,(f.2 b (Go (Gu (Gk e) (I.ok.cab x c K hc)))).trans g]
  ·obtain⟨o',g⟩:=I.base.there b o e l
   exact#[o',(f.2 b (Go (Gu (Gk e) (I.ok.cab x c K hc)))).trans g]
  ·by_cases J:j=i
   ·subst J
    rw[L]at g;cases g
    rw[Lc D]at C
    cases C
    exact#[u,r,.inr #[.inl hk,c,hc,P]]
   ·rw[Iy (G7 J)]at C
    obtain⟨u',r',q⟩:=hl j y v' g C e3
    refine#[u',r',?_]
    rcases q with q | ⟨k,Y,e,z'⟩
    ·exact .inl q
    ·refine .inr #[k,Y,e,z'.sameBut f ?_]
     rintro rfl
     exact J (Q9 hN g (I.ok.inj _ _ _ e hc▸L))
  ·by_cases T:Y=c
   ·subst T;exact#[_,P]
   ·obtain⟨w2,z2⟩:=I.cell y Y e
    exact#[w2,z2.sameBut f T]
  ·obtain⟨e,n,U,nf,d⟩:=I.pin p hp
   refine#[(f.2 p.1 ?_).trans e,n,U,nf,d]
   intro q
   rw[q,R]at e
   have q':oc=p.2:=Hg e
   exact d W (by rw[<- q'];exact S)
theorem zk{Q:Unit->Shared->Prop}(I:ap X pins σ H s)(a:X.N.Nodup)(b:X.N[i]?=some x)(c:oO X.env.scope x)(r:aC v u)
  (h:∀S,ap X pins (σ.set i (some v)) H S->Q () S) (d:X.fn x=true∨X.env.scope.names.lookup x=some .local:=by first |exact .inl Z |exact .inr Z |assumption):wpAny M A (storeName X.env x u) Q E s:=
 K9 I a b c r (λS e _=>h S e) d
theorem ap.call'{S:Shared}{ch:List Addr}(I:ap X pins σ H s)(d:S.os=s.os)(u:Un (iH X.stack) ch H H' s.heap S.heap)(h:eF X.prog X.w H' S.heap)(f:AllBare S.gens)
  (a:∀b∈ch,(b∈X.ex∨X.s₀.heap.objs.size<=b)/\b≠X.env.locals/\(∀x c,X.env.cells.lookup x=some c->c≠b)/\∀p∈X.pn++pins,p.1≠b):ap X pins σ H' S:=by
 obtain⟨h',g',d',t',o⟩:=S
 have e:o=s.os:=d
 subst e
 exact I.call (g':=g') (t':=t') (d':=d') u h f a
end
abbrev XK:=Value->Option Addr->Hp->Prop
abbrev St:=List (Option V)
abbrev VK:=V->Hp->Prop
abbrev TE:=St->Hp->VK->Prop
abbrev TT:=St->Hp->(Bool->Hp->Prop)->Prop
abbrev TA:=St->Hp->(List V->Hp->Prop)->Prop
structure a9 where
 nx:St->Hp->Prop
 rt:VK
 bk:St->Hp->Prop:=λ_ _=>False
 ct:St->Hp->Prop:=λ_ _=>False
abbrev TS:=a9->St->Hp->Prop
inductive EP(X:Cx)(a:List (Addr×Obj))(d:St)(Q:VK)(u:Value)(c:Shared):Prop
 |mk(v b:_)(_:ap X a d b c)(_:aC v u)(_:Q v b)
inductive TP(X:Cx)(a:List (Addr×Obj))(e:St)(Q:Bool->Hp->Prop)(b:Bool)(d:Shared):Prop
 |mk(c:_)(_:ap X a e c d)(_:Q b c)
inductive AP(X:Cx)(a:List (Addr×Obj))(f:St)(Q:List V->Hp->Prop)(d:List Value)(c:Shared):Prop
 |mk(e b:_)(_:ap X a f b c)(_:ax e d)(_:Q e b)
def SP(X:Cx)(p:List (Addr×Obj))(D:a9)(f:Flow)(s:Shared):Prop:=
 match f with
 | .next=>∃a H,ap X p a H s/\D.nx a H
 | .brk=>∃a H,ap X p a H s/\D.bk a H
 | .cont=>∃a H,ap X p a H s/\D.ct a H
 | .ret u=>∃v a H,ap X p a H s/\aC v u/\D.rt v H
def PE(X:Cx)(e:Expr)(t:TE):Prop:=
 ∀(p:List (Addr×Obj)) (s:Shared) (a:St) (H:Hp) (Q:VK),ap X p a H s->t a H Q->wpAny (model X.prog X.w) X.A (eval e X.env) (EP X p a Q) X.xe s
def PT(X:Cx)(e:Expr)(t:TT):Prop:=
 ∀(p:List (Addr×Obj)) (s:Shared) (a:St) (H:Hp) (Q:Bool->Hp->Prop),ap X p a H s->t a H Q->wpAny (model X.prog X.w) X.A (isTrue e X.env (eval e X.env)) (TP X p a Q) X.xe s
def PW(X:Cx)(e:Expr)(t:TT):Prop:=
 ∀(W:Sem Value) (p:List (Addr×Obj)) (s:Shared) (a:St) (H:Hp) (Q:Bool->Hp->Prop),ap X p a H s->t a H Q->wpAny (model X.prog X.w) X.A (isTrue e X.env W) (TP X p a Q) X.xe s
theorem PW.pt{X:Cx}{e:Expr}{t:TT}(h:PW X e t):PT X e t:=h _
def PA(X:Cx)(e:List Expr)(t:TA):Prop:=
 ∀(P:Pos) (p:List (Addr×Obj)) (s:Shared) (a:St) (H:Hp) (Q:List V->Hp->Prop),ap X p a H s->t a H Q->wpAny (model X.prog X.w) X.A (spliced (backTo P (starEach e X.env))) (AP X p a Q) X.xe s
def PS(X:Cx)(st:Stmt)(t:TS):Prop:=
 ∀(p:List (Addr×Obj)) (s:Shared) (a:St) (H:Hp) (D:a9),ap X p a H s->t D a H->wpAny (model X.prog X.w) X.A (exec st X.env) (SP X p D) X.xe s
def lH(X:Cx)(st:List Stmt)(t:TS):Prop:=
 ∀(p:List (Addr×Obj)) (s:Shared) (a:St) (H:Hp) (D:a9),ap X p a H s->t D a H->wpAny (model X.prog X.w) X.A (execs st X.env) (SP X p D) X.xe s
theorem aQ{b:Type}{t:Sem b}{Q q:b->Shared->Prop}{M:Model}{A:Around}{E:Value->Shared->Prop}{s:Shared}(h:wpAny M A t Q E s)(H:∀a s,Q a s->q a s):wpAny M A t q E s:=HI h H λ_ _ x=>x
section
variable {X:Cx}
inductive a7(i:Nat)(a:St)(H:Hp)(Q:VK):Prop
 |mk(v:_)(_:a[i]?=some (some v))(_:Q v H)
def tC(v:V):TE:=λ_ H Q=>Q v H
theorem AT(j:X.N[i]?=some x)(k:D6 X.env.scope x)(b:(x==("__debug__":Str))=false:=by decide)(d:(x==("__classdict__":Str))=false:=by decide):PE X (.Name x n) (a7 i):=by
 intro p s o H Q I h
 obtain⟨v,e,h⟩:=h
 obtain⟨m,q,t⟩:=I.loc
 obtain⟨u,r,l⟩:=t i x v j e k
 have f:EP X p o Q u s:=#[v,H,I,r,h]
 rcases l with ⟨hk,w⟩ | ⟨hk,c,g,a⟩
 ·exact OF (Oh I.ok.kind hk q w f) b
 ·rcases hk with hk |hk
  ·exact OF (Ot I.ok.kind hk g a f) b
  ·exact OF (wpAny_loadName_free I.ok.kind hk g a f d) b
theorem jf{i j p}:PE X (.Constant (.int i) j p) (tC (.int i)):=λ_ _ _ H _ I h=>wpAny_Constant_int #[.int i,H,I.tok _,#[_,Z],h]
theorem Q5{b j p}:PE X (.Constant (.bool b) j p) (tC (.bl b)):=λ_ _ _ H _ I h=>Constant_bool #[.bl b,H,I,Z,h]
theorem zH{j p}:PE X (.Constant .none j p) (tC .non):=λ_ _ _ H _ I h=>Constant_none #[.non,H,I,Z,h]
theorem jm{x j p}:PE X (.Constant (.str x) j p) (tC (.str x)):=λ_ _ _ H _ I h=>Calls.Constant_str #[.str x,H,I.tok _,#[_,Z],h]
def Gl(X:Cx)(x:Str):Prop:=X.env.kindOf x=some .globalImplicit
theorem zJ{Q:Value->Shared->Prop}(I:ap X p e H s)(a:Gl X x)(b:X.mg x=some u)(h:Q u s)
  (c:(x==("__debug__":Str))=false:=by decide):wpAny (model X.prog X.w) X.A (eval (.Name x d) X.env) Q E s:=
 MU I.ok.kind a (Calls.loadGlobal_global (by rw[I.ok.glob];exact I.mod.glob.keeps I.bk) b h) c
theorem zh{Q:Value->Shared->Prop}(I:ap X p j H s)(a:Gl X x)(b:X.mg x=none)(c:bootBuiltins x=some u)(h:Q u s)
  (d:x≠"__name__":=by decide) (e:(x==("__debug__":Str))=false:=by decide):wpAny (model X.prog X.w) X.A (eval (.Name x f) X.env) Q E s:=by
 obtain⟨m,g,i⟩:=I.mod.blt
 exact MU I.ok.kind a (Calls.loadGlobal_builtin (by rw[I.ok.glob];exact I.mod.glob.keeps I.bk) b (by rw[I.ok.blt];exact g.keeps I.bk) ((i x d).trans c) h) e
theorem qF{v:V}(a:Gl X x)(b:X.mg x=some u)(r:aC v u)(c:(x==("__debug__":Str))=false:=by decide):PE X (.Name x p) (tC v):=
 λ_ _ _ H _ I h=>zJ I a b #[v,H,I,r,h] c
theorem YL{v:V}(a:Gl X x)(b:X.mg x=none)(c:bootBuiltins x=some u)(r:aC v u)(d:x≠"__name__":=by decide)(e:(x==("__debug__":Str))=false:=by decide):PE X (.Name x p) (tC v):=
 λ_ _ _ H _ I h=>zh I a b c #[v,H,I,r,h] d e
variable {a b:Expr}{ta tb:TE}{pos:Pos}
def PC(X:Cx)(o:CmpOp)(a b:Expr)(t:TE):Prop:=
 ∀(p:List (Addr×Obj)) (s:Shared) (d:St) (H:Hp) (Q:VK),ap X p d H s->t d H Q->
  wpAny (model X.prog X.w) X.A (eval a X.env) (λv S=>wpAny (model X.prog X.w) X.A (eval b X.env) (λu c=>wpAny (model X.prog X.w) X.A (compareOp o v u) (EP X p d Q) X.xe c) X.xe S) X.xe s
def ET(ta:TE):TE:=λc H Q=>ta c H λx h=>Q (.bl (decide (x= .non))) h
theorem aC.none_iff(r:aC x v):(v==Value.none)=decide (x= .non):=by
 cases x with
 |non=>cases r;rfl
 |bl _=>cases r;rfl
 |int _=>obtain⟨t,rfl⟩:=r;rfl
 |str _=>obtain⟨t,rfl⟩:=r;rfl
 |byt _=>obtain⟨t,rfl⟩:=r;rfl
 |flt _=>obtain⟨t,rfl⟩:=r;rfl
 |ref _=>cases r;rfl
 |ty _=>cases r;rfl
theorem AO{j p}(c:PE X a ta):PC X .Is a (.Constant .none j p) (ET ta):=by
 intro P s d H Q I h
 refine aQ (c P s d H _ I h) λv S z=>?_
 obtain⟨x,e,i,r,q⟩:=z
 exact Constant_none (is_none_gen #[.bl _,e,i,by rw[r.none_iff];rfl,q])
inductive Fx(Q:Bool->Hp->Prop)(x:V)(a:Hp):Prop
 |mk(c:_)(_:x= .bl c)(_:Q c a)
def tB(t:TE):TT:=λc H Q=>t c H (Fx Q)
theorem QA(h:PC X o a b t)(e:behindInMarks o b=false:=by first |exact n _ PZ PZ |rfl):PT X (.Compare a [o] [b] pos) (tB t):=by
 intro p s f H Q I g
 refine Oa (aQ (h p s f H _ I g) λv S e=>aQ e λu m i=>aQ i λc w z=>?_) e
 obtain⟨x,j,k,r,l⟩:=z
 obtain⟨d,rfl,q⟩:=l
 cases r
 exact LN #[j,k,q]
theorem XT(h:PE X e t)(c:∀w,isTrue e X.env w=(do let v <- w;standAt e.pos;holding [v] (truthy v)):=by intro _;rfl):PT X e (tB t):=by
 intro p s f H Q I g
 refine isTrue_plain (aQ (h p s f H _ I g) λv S z=>?_) (c _)
 obtain⟨x,i,j,r,k⟩:=z
 obtain⟨d,rfl,q⟩:=k
 cases r
 exact LN #[i,j,q]
variable {tA tB':TT}{rest:List Expr}
def EN(t u:TT):TT:=λd H Q=>t d H λc h=>if c=true then u d h Q else Q false h
def FQ(t u:TT):TT:=λd H Q=>t d H λc h=>if c=true then Q true h else u d h Q
def EU(t:TT):TT:=λd H Q=>t d H λc h=>Q (!c) h
theorem qG(d:PT X a tA):PW X (.BoolOp .And [a] pos) tA:=by
 intro w p s f H Q I h
 refine isTrue_and (aQ (d p s f H Q I h) λc S e=>?_)
 cases c with
 |true=>exact isTrue_and_nil e
 |false=>exact e
theorem q9(d:PT X a tA):PW X (.BoolOp .Or [a] pos) tA:=by
 intro w p s f H Q I h
 refine isTrue_or (aQ (d p s f H Q I h) λc S e=>?_)
 cases c with
 |false=>exact isTrue_or_nil e
 |true=>exact e
theorem J3(f:PT X a tA)(g:PW X (.BoolOp .And (b::rest) pos) tB'):PW X (.BoolOp .And (a::b::rest) pos) (EN tA tB'):=by
 intro w p s d H Q I h
 refine isTrue_and (aQ (f p s d H _ I h) λc S z=>?_)
 obtain⟨e,i,q⟩:=z
 cases c with
 |true=>exact g w p S d e Q i q
 |false=>exact#[e,i,q]
theorem Jm(f:PT X a tA)(g:PW X (.BoolOp .Or (b::rest) pos) tB'):PW X (.BoolOp .Or (a::b::rest) pos) (FQ tA tB'):=by
 intro w p s d H Q I h
 refine isTrue_or (aQ (f p s d H _ I h) λc S z=>?_)
 obtain⟨e,i,q⟩:=z
 cases c with
 |true=>exact#[e,i,q]
 |false=>exact g w p S d e Q i q
theorem XU(e:PT X a tA):PT X (.UnaryOp .Not a pos) (EU tA):=by
 intro p s f H Q I h
 exact isTrue_not (aQ (e p s f H (λc d=>Q (!c) d) I h) λc S #[d,i,q]=>#[d,i,q])
def FP(t:TT)(ta tb:TE):TE:=λd H Q=>t d H λc h=>if c=true then ta d h Q else tb d h Q
theorem kB(g:PT X c tA)(j:PE X a ta)(k:PE X b tb):PE X (.IfExp c a b pos) (FP tA ta tb):=by
 intro p s e H Q I h
 refine wpAny_IfExp (aQ (g p s e H _ I h) λd S z=>?_)
 obtain⟨f,i,q⟩:=z
 cases d with
 |true=>exact j p S e f Q i q
 |false=>exact k p S e f Q i q
end
def aH(K:Frag)(H:Hp)(a:Addr)(x:List V):Prop:=
 Rd H a (.lst x)∨
  ∃(o:Obj) (i:Array Value) (n:Nat),K.lookup a=some o/\o.cls= .type "list"/\o.dict=none/\o.data= .seq i n/\i.size<=sizeLine/\ax x i.toList
def aw(K:Frag)(H:Hp)(a:Addr)(x:List V):Prop:=
 Rd H a (.tup x)∨
  ∃(o:Obj) (i:Array Value) (n:Nat),K.lookup a=some o/\o.cls= .type "tuple"/\o.data= .seq i n/\i.size<=sizeLine/\ax x i.toList
noncomputable def Ep:Value->Option V
 | .none=>some .non
 | .bool b=>some (.bl b)
 | .int i _=>some (.int i)
 | .str x _=>some (.str x)
 | .bytes b _=>some (.byt b)
 | .float b _=>some (.flt b)
 | .ref a=>some (.ref a)
 | .type n=>some (.ty n)
 |_=>none
theorem aC.abs(r:aC x u):Ep u=some x:=by
 cases x with
 |non=>cases r;rfl
 |bl _=>cases r;rfl
 |int _=>obtain⟨t,rfl⟩:=r;rfl
 |str _=>obtain⟨t,rfl⟩:=r;rfl
 |byt _=>obtain⟨t,rfl⟩:=r;rfl
 |flt _=>obtain⟨t,rfl⟩:=r;rfl
 |ref _=>cases r;rfl
 |ty _=>cases r;rfl
theorem aC.inj{x:V}(r:aC x u)(q:aC y u):x=y:=Hg (r.abs.symm.trans q.abs)
theorem ax.inj:∀{x y:List V} {u:List Value},ax x u->ax y u->x=y
 |_,_,_,.nil,.nil=>rfl
 |_,_,_,.cons r t,.cons R T=>by rw[r.inj R,ax.inj t T]
section
variable {X:Cx}{pins:List (Addr×Obj)}{σ:St}{H:Hp}{s:Shared}{a:Addr}{xs ys:List V}
theorem aH.of{K:Frag}(h:H a=some (.lst xs)):aH K H a xs:=.inl (.inl h)
theorem aw.of{K:Frag}(h:H a=some (.tup xs)):aw K H a xs:=.inl (.inl h)
theorem ap.list(I:ap X pins σ H s)(h:aH X.K H a xs):∃i:List Value,ax xs i/\PlainL s.heap a i.toArray/\xs.length<=sizeLine:=by
 rcases h with h | ⟨o,i,n,b,c,d,f,g,r⟩
 ·obtain⟨z,i,n,r,e⟩:=h.ok I.hok
  exact#[i,r,#[_,n,e,Z,Z,Z],z]
 ·refine#[i.toList,r,#[o,n,I.kIn a o b,c,d,by simpa using f],?_]
  have e:=r.length
  simp only[GK]at e
  omega
theorem ap.tuple(I:ap X pins σ H s)(h:aw X.K H a xs):∃i:List Value,ax xs i/\IsTup s.heap a i.toArray/\xs.length<=sizeLine:=by
 rcases h with h | ⟨o,i,n,b,c,d,f,r⟩
 ·obtain⟨z,i,r,p⟩:=h.ok I.hok
  exact#[i,r,p,z]
 ·refine#[i.toList,r,#[o,I.kIn a o b,c,n,by simpa using d],?_]
  have e:=r.length
  simp only[GK]at e
  omega
theorem ap.list_inj(I:ap X pins σ H s)(h:aH X.K H a xs)(c:aH X.K H a ys):xs=ys:=by
 obtain⟨b,r,⟨o,n,e,_,_,d⟩,_⟩:=I.list h
 obtain⟨i,R,⟨O,N,E,_,_,D⟩,_⟩:=I.list c
 rw[e]at E;cases E
 rw[d]at D
 injection D with f _
 have:b=i:=by simpa using HL Array.toList f
 subst this
 exact r.inj R
theorem ap.tuple_inj(I:ap X pins σ H s)(h:aw X.K H a xs)(c:aw X.K H a ys):xs=ys:=by
 obtain⟨b,r,⟨o,e,_,n,d⟩,_⟩:=I.tuple h
 obtain⟨i,R,⟨O,E,_,N,D⟩,_⟩:=I.tuple c
 rw[e]at E;cases E
 rw[d]at D
 injection D with f _
 have:b=i:=by simpa using HL Array.toList f
 subst this
 exact r.inj R
end
noncomputable abbrev Cx.wish(X:Cx)(E:Value->Shared->Prop):Cx:={ X with xe:=E }
noncomputable abbrev Cx.nox(X:Cx):Cx:=X.wish λ_ _=>False
theorem Cx.Ok.wish{X:Cx}(o:X.Ok)(E:Value->Shared->Prop):(X.wish E).Ok:=
 #[o.mod,o.kind,o.glob,o.blt,o.above,o.inj,o.has,o.cab,o.hd,o.frames,o.stk,o.exf,o.bs,o.bsz,o.noex,o.exfs,o.funs,o.frf]
theorem Cx.Ok.unwish{X:Cx}(o:(X.wish E).Ok):X.Ok:=
 #[o.mod,o.kind,o.glob,o.blt,o.above,o.inj,o.has,o.cab,o.hd,o.frames,o.stk,o.exf,o.bs,o.bsz,o.noex,o.exfs,o.funs,o.frf]
section
variable {X:Cx}{pins:List (Addr×Obj)}{σ:St}{H:Hp}{s:Shared}{E:Value->Shared->Prop}
theorem ap.wish(I:ap X pins σ H s)(E:Value->Shared->Prop):ap (X.wish E) pins σ H s:=#[I.ok.wish E,I.os,I.bare,I.base,I.loc,I.cell,I.free,I.freeC,I.pin,I.hok,I.len]
theorem ap.unwish(I:ap (X.wish E) pins σ H s):ap X pins σ H s:=#[I.ok.unwish,I.os,I.bare,I.base,I.loc,I.cell,I.free,I.freeC,I.pin,I.hok,I.len]
theorem SP.unwish(h:SP (X.wish E) pins D f c):SP X pins D f c:=by
 cases f with
 |next=>obtain⟨a,b,I,q⟩:=h;exact#[a,b,I.unwish,q]
 |brk=>obtain⟨a,b,I,q⟩:=h;exact#[a,b,I.unwish,q]
 |cont=>obtain⟨a,b,I,q⟩:=h;exact#[a,b,I.unwish,q]
 |ret u=>obtain⟨v,a,b,I,r,q⟩:=h;exact#[v,a,b,I.unwish,r,q]
theorem lH.nox{st:List Stmt}(h:lH X.nox st t):lH X st t:=λpins s σ H D I a=>
 HI (h pins s σ H D (I.wish _) a) (λ_ _ q=>q.unwish) λ_ _ z=>False.elim z
end
section
variable {X:Cx}{st:Stmt}{rest:List Stmt}{t u:TS}{e:Expr}{te:TE}{pos:Pos}
def t6:TS:=λD a H=>D.nx a H
def eV(t u:TS):TS:=λD a H=>t { D with nx:=u D } a H
theorem jp:lH X [] t6:=λ_ _ a H _ I h=>Lb #[a,H,I,h]
theorem jd(b:PS X st t)(c:lH X rest u):lH X (st::rest) (eV t u):=by
 intro p s d H D I h
 refine M1 (aQ (b p s d H { D with nx:=u D } I h) λf S q=>?_)
 cases f with
 |next=>
  obtain⟨a,g,i,q⟩:=q
  exact c p S a g D i q
 |ret v=>exact q
 |brk=>exact q
 |cont=>exact q
theorem jg(a:PS X st t):lH X [st] t:=by
 intro p s b H D I h
 refine M1 (aQ (a p s b H D I h) λf S q=>?_)
 cases f with
 |next=>exact Lb q
 |ret v=>exact q
 |brk=>exact q
 |cont=>exact q
theorem ap.quiet(I:ap X p a H s):interactive X.env=false:=by simp [interactive,I.ok.kind]
def on(te:TE):TS:=λD a H=>te a H λ_ h=>D.nx a h
theorem jO(b:PE X e te)(c:swapsWith e none pos.line X.env=pure false:=by rfl):PS X (.Expr e pos) (on te):=by
 intro p s a H D I h
 exact wpAny_Expr_any (aQ (b p s a H _ I h) λv S #[x,d,i,r,q]=>#[a,d,i,q]) I.quiet c
def gE(te:TE):TS:=λD a H=>te a H D.rt
theorem jo(b:PE X e te):PS X (.Return (some e) pos) (gE te):=by
 intro p s a H D I h
 exact wpAny_Return_some (aQ (b p s a H _ I h) λv S #[x,c,i,r,q]=>#[x,a,c,i,r,q])
def gD(c:TT)(t u:TS):TS:=λD a H=>c a H λb h=>if b=true then t D a h else u D a h
theorem jv{c:Expr}{a b:List Stmt}{T:TT}(j:PT X c T)(k:lH X a t)(l:lH X b u):PS X (.If c a b pos) (gD T t u):=by
 intro p s f H D I h
 refine wpAny_If (aQ (j p s f H _ I h) λd S z=>?_)
 obtain⟨g,i,q⟩:=z
 cases d with
 |true=>exact k p S f g D i q
 |false=>exact l p S f g D i q
end
abbrev TG:=V->St->Hp->(St->Hp->Prop)->Prop
abbrev uT:=List V->St->Hp->(St->Hp->Prop)->Prop
def PG(X:Cx)(T:Expr)(t:TG):Prop:=
 ∀(p:List (Addr×Obj)) (s:Shared) (b:St) (H:Hp) (v:V) (u:Value) (Q:St->Hp->Prop),ap X p b H s->aC v u->t v b H Q->
  wpAny (model X.prog X.w) X.A (assign T X.env u) (λ_ S=>∃a h,ap X p a h S/\Q a h) X.xe s
def BO(X:Cx)(T:List Expr)(t:uT):Prop:=
 ∀(p:List (Addr×Obj)) (s:Shared) (b:St) (H:Hp) (v:List V) (u:List Value) (Q:St->Hp->Prop),ap X p b H s->ax v u->t v b H Q->
  wpAny (model X.prog X.w) X.A (assignInOrder ((assignEach T X.env).map (·.2)) u) (λ_ S=>∃a h,ap X p a h S/\Q a h) X.xe s
abbrev yv:=V->V->V->Hp->(Hp->Prop)->Prop
def Cj(X:Cx)(t:yv):Prop:=
 ∀(p:List (Addr×Obj)) (s:Shared) (a:St) (H:Hp) (o i v:V) (O I u:Value) (Q:Hp->Prop),ap X p a H s->aC o O->aC i I->aC v u->t o i v H Q->
  wpAny (model X.prog X.w) X.A (setItem O I u) (λ_ S=>∃h,ap X p a h S/\Q h) X.xe s
abbrev Ek:=V->V->Hp->VK->Prop
def Fh(X:Cx)(o:Operator)(t:Ek):Prop:=
 ∀(p:List (Addr×Obj)) (s:Shared) (a:St) (H:Hp) (x y:V) (v u:Value) (Q:VK),ap X p a H s->aC x v->aC y u->t x y H Q->
  wpAny (model X.prog X.w) X.A (inplaceOp o v u) (EP X p a Q) X.xe s
section
variable {X:Cx}{pos:Pos}
def bu(i:Nat):TG:=λv a H Q=>Q (a.set i (some v)) H
theorem jw{i:Nat}{x:Str}(a:X.N.Nodup)(b:X.N[i]?=some x)(c:oO X.env.scope x)(d:X.fn x=true∨X.env.scope.names.lookup x=some .local:=by first |exact .inl Z |exact .inr Z |assumption):PG X (.Name x pos) (bu i):=by
 intro p s f H v u Q I r h
 exact ON (zk I a b c r (λS e=>#[_,H,e,h]) d)
def pN:uT:=λv a H Q=>v=[]/\Q a H
inductive dh(t:TG)(u:uT)(a:List V)(b:St)(H:Hp)(Q:St->Hp->Prop):Prop
 |mk(v r:_)(_:a=v::r)(_:t v b H λσ' H'=>u r σ' H' Q)
theorem kN:BO X [] pN:=by
 intro p s a H v u Q I r h
 obtain⟨e,h⟩:=h
 subst e
 cases r
 exact assignInOrder_nil #[a,H,I,h]
theorem jB(b:PG X e t)(c:BO X E u)
  (d:(assignEach (e::E) X.env).map (·.2)=assign e X.env::(assignEach E X.env).map (·.2):=by rfl):BO X (e::E) (dh t u):=by
 intro p s f H V U Q I r h
 obtain⟨v,k,g,h⟩:=h
 subst g
 cases r with
 |cons r R=>
  rw[d]
  refine assignInOrder_cons (aQ (b p s f H _ _ _ I r h) λ_ S z=>?_)
  obtain⟨a,i,j,q⟩:=z
  exact c p S a i _ _ Q j R q
inductive oC(K:Frag)(n:Nat)(t:uT)(v:V)(c:St)(H:Hp)(Q:St->Hp->Prop):Prop
 |mk(a b:_)(_:v= .ref a)(_:aw K H a b)(_:b.length=n)(_:t b c H Q)
theorem zV{n:Nat}(g:X.calm=true)(h:BO X E t)
  (i:(assignEach E X.env).length=n:=by rfl) (c:(assignEach E X.env).findIdx? (·.1)=none:=by rfl):PG X (.Tuple E k pos) (oC X.K n t):=by
 intro p s f H v u Q I r d
 obtain⟨a,x,j,l,m,d⟩:=d
 subst j
 cases r
 obtain⟨q,R,w,B⟩:=I.tuple l
 refine assign_Tuple_tuple (I.ok.hd g) w (by simp [i,<- m,R.length]) c λy z=>?_
 have A:ap X p f H { s with heap:=y }:=I.kept (t':=s.toks) λb o e=>z b o (Go (Gk e)) e
 exact h p _ f H x _ Q A (by simpa using R) d
def yO(T b:TE)(t:yv):TG:=λv a H Q=>T a H λo h=>b a h λi c=>t o i v c λd=>Q a d
theorem qq{o i:Expr}{T c:TE}{t:yv}(d:PE X o T)(e:PE X i c)(f:Cj X t)
  (g:∀v,assign (.Subscript o i pos) X.env v=(do
   let O <- holding [v] (eval o X.env)
   let a <- holding [v,O] (eval i X.env)
   standAt pos
   holding [v,O,a] (setItem O a v)
   release [v,O,a] []):=by intro _;rfl):PG X (.Subscript o i pos) (yO T c t):=by
 intro p s b H v u Q I r h
 rw[g]
 refine Gb (GN (aQ (d p s b H _ I h) λO S z=>?_))
 obtain⟨x,j,k,R,q⟩:=z
 refine Gb (GN (aQ (e p S b j _ k q) λa l z=>?_))
 obtain⟨y,m,n,w,A⟩:=z
 refine Gb (IN (Gb (GN (aQ (f p l b m x y v O a u _ n R w r A) λ_ E z=>?_))))
 obtain⟨B,C,D⟩:=z
 exact wpAny_release #[b,B,C,D]
def dO(t:TE)(g:TG):TS:=λD a H=>t a H λx h=>g x a h D.nx
theorem zb{t e:Expr}{T:TE}{g:TG}(b:PE X e T)(c:PG X t g)(d:swapsWithSole [t] e pos.line X.env=pure false:=by rfl)(f:swappedStores [t] e X.env=pure none:=by rfl)
  (i:(assignEach [t] X.env).map (·.2)=[assign t X.env]:=by rfl):PS X (.Assign [t] e pos) (dO T g):=by
 intro p s a H D I h
 refine wpAny_Assign_stores (aQ (b p s a H _ I h) λv S z=>?_) d f
 obtain⟨x,j,k,r,Q⟩:=z
 rw[i]
 exact aQ (c p S a j x v _ k r Q) λ_ l q=>q
theorem kL{i:Nat}{x:Str}{e:Expr}{t:TE}{p:Pos}(a:X.N.Nodup)(b:X.N[i]?=some x)(c:oO X.env.scope x)(d:PE X e t)(f:swapsWith e (some (.Name x p)) pos.line X.env=pure false:=by rfl)(g:X.fn x=true∨X.env.scope.names.lookup x=some .local:=by first |exact .inl Z |exact .inr Z |assumption):
  PS X (.Assign [.Name x p] e pos) (dO t (bu i)):=by
 intro P s j H D I h
 refine OP (aQ (d P s j H _ I h) λv S z=>?_) f
 obtain⟨y,k,l,r,q⟩:=z
 exact zk l a b c r (λn m=>#[_,k,m,q]) g
inductive DR(i:Nat)(a:TE)(b:Ek)(D:a9)(c:St)(H:Hp):Prop
 |mk(x:_)(_:c[i]?=some (some x))(_:a c H λy H1=>b x y H1 λz H2=>D.nx (c.set i (some z)) H2)
theorem AV{i:Nat}(q:X.N.Nodup)(g:X.N[i]?=some x)(f:oO X.env.scope x)(t:PE X e T)(B:Fh X o C)(E:X.fn x=true∨X.env.scope.names.lookup x=some .local:=by first |exact .inl Z |exact .inr Z |assumption):
  PS X (.AugAssign (.Name x j) o e pos) (DR i T C):=by
 intro p s n H D I h
 obtain⟨v,F,h⟩:=h
 obtain⟨m,J,K⟩:=I.loc
 have V:D6 X.env.scope x:=by rcases f with k |k;exact .inl k;exact .inr (.inl k)
 obtain⟨u,r,l⟩:=K i x v g F V
 refine wpAny_AugAssign_Name ?_
 have G:wpAny (model X.prog X.w) X.A (eval e X.env) (λw S=>wpAny (model X.prog X.w) X.A (inplaceOp o u w) (λr d=>wpAny (model X.prog X.w) X.A (storeName X.env x r) (λ_=>SP X p D .next) X.xe d) X.xe S) X.xe s:=by
  refine aQ (t p s n H _ I h) λw L a=>?_
  obtain⟨y,M,O,R,Q⟩:=a
  refine aQ (B p L n M v y u w _ O r R Q) λz s2 a=>?_
  obtain⟨zv,P,U,W,Y⟩:=a
  exact zk U q g f W (λs3 I3=>#[_,P,I3,Y]) E
 rcases l with ⟨hk,hm⟩ | ⟨hk,c,hc,b⟩
 ·exact Oh I.ok.kind hk J hm G
 ·rcases hk with hk |hk
  ·exact Ot I.ok.kind hk hc b G
  ·rcases f with k |k
   ·have:X.env.scope.names.lookup x=some .free:=hk
    rw[k]at this;cases this
   ·have:X.env.scope.names.lookup x=some .free:=hk
    rw[k]at this;cases this
inductive Fs(f:Int->Int->Int)(x y:V)(H:Hp)(Q:VK):Prop
 |mk(i j:_)(_:x= .int i)(_:y= .int j)(_:Q (.int (f i j)) H)
theorem yU:Fh X .Add (Fs λi j=>i+j):=by
 intro p s a H x y v u Q I r R h
 obtain⟨i,j,e,E,q⟩:=h
 subst e;subst E
 obtain⟨t,rfl⟩:=r
 obtain⟨T,rfl⟩:=R
 exact iadd_int #[.int _,H,I.tok _,#[_,Z],q]
end
section
variable {X:Cx}{pos:Pos}
def ue(c:TT)(t:TS):TS:=λD a H=>∃W:Nat->St->Hp->Prop,(∃m,W m a H)/\∀m a H,W m a H->
 c a H λb h=>if b=true then ∃N:St->Hp->Prop,(∀d e,N d e->∃M,M < m/\W M d e)/\t { D with nx:=N,ct:=N,bk:=D.nx } a h else D.nx a h
theorem Kb(o:PassesOwn (model X.prog X.w) X.A X.env X.xe)(E:PT X c T)(F:lH X B G):PS X (.While c B [] pos) (ue T G):=by
 intro p s J H D I h
 obtain⟨W,⟨M,K⟩,t⟩:=h
 refine wpAny_While (codeAny_whileLoop (λn S=>∃e r,ap X p e r S/\W n e r) ?_ M #[J,H,I,K])
 rintro n L ⟨d,u,O,P⟩
 refine IM o (aQ (E p L d u _ O (t n d u P)) λb R z=>?_)
 obtain⟨x,y,q⟩:=z
 cases b with
 |true=>
  obtain⟨N,C,q⟩:=q
  rw[Gw Z]
  refine IM o (aQ (F p R d x _ y q) λf U Q=>?_)
  cases f with
  |next=>
   obtain⟨a,g,i,j⟩:=Q
   obtain⟨m,k,l⟩:=C a g j
   exact#[m,k,a,g,i,l]
  |cont=>
   obtain⟨a,g,i,j⟩:=Q
   obtain⟨m,k,l⟩:=C a g j
   exact#[m,k,a,g,i,l]
  |brk=>exact Q
  |ret v=>exact Q
 |false=>
  rw[GG Gn]
  exact Lb #[d,x,y,q]
end
structure It where
 go:Nat->Hp->Prop
 yld:Nat->Hp->V->Hp->Prop
 stop:Nat->Hp->Prop
def eX(X:Cx)(P:List (Addr×Obj))(H:Hp)(b:Addr):Prop:=
 H b=none/\b≠X.env.locals/\b∉X.fs/\(b∈X.ex∨X.s₀.heap.objs.size<=b)/\(∀x c,X.env.cells.lookup x=some c->c≠b)/\∀p∈X.pn++P,p.1≠b
theorem ap.fpOk{X:Cx}{d:Hp}(I:ap X a i H s)(h:s.heap.objs.size<=b)(f:d b=none):eX X a d b:=by
 refine#[f,Hn (Gu I.lt h),I.nofs h,.inr (Gr I.sz h),λx c e z=>?_,λp g z=>?_]
 ·obtain⟨v,q⟩:=I.cell x c e
  exact absurd (Gu q.lt (by rw[z];exact h)) (HE _)
 ·exact absurd (Gu (Gk (I.pin p g).1) (by rw[z];exact h)) (HE _)
structure mJ(P:Program)(w:World)(K:Frag)(tg:Expr)(J:It)(fp:List Addr)(it:Addr)(tn:Nat->Heap->Prop):Prop where
 mem:it∈fp
 obj:∀i h,tn i h->∀b∈fp,∃o,h.get? b=some o/\∀v,o.data≠ .cell v
 keep:∀i h h',tn i h->(∀b∈fp,∀o,h.get? b=some o->h'.get? b=some o)->tn i h'
 item:∀(X:Cx),X.prog=P->X.w=w->X.K=K->X.calm=true->∀(i:Nat) (pins:List (Addr×Obj)) (s:Shared) (σ:St) (H:Hp) (E:Value->Shared->Prop),ap X pins σ H s->(∀b∈fp,eX X pins H b)->tn i s.heap->J.go i H->
  wpAny (model P w) X.A (pyNext (.ref it)) (λr s1=>∃u,r=some u/\
   wpAny (model P w) X.A (letOwnedTupleGo tg (.ref it) u) (λ_ s2=>∃x H',ap X pins σ H' s2/\aC x u/\J.yld i H x H'/\tn (i+1) s2.heap/\∀b∈fp,H' b=none) E s1) E s
 done:∀(X:Cx),X.prog=P->X.w=w->X.K=K->X.calm=true->∀(i:Nat) (pins:List (Addr×Obj)) (s:Shared) (σ:St) (H:Hp) (E:Value->Shared->Prop),ap X pins σ H s->(∀b∈fp,eX X pins H b)->tn i s.heap->J.stop i H->
  wpAny (model P w) X.A (pyNext (.ref it)) (λr s1=>r=none/\ap X pins σ H s1) E s
 self:∀(A:Around) (i:Nat) (s:Shared) (Q:Value->Shared->Prop) (E:Value->Shared->Prop),tn i s.heap->Q (.ref it) s->wpAny (model P w) A (pyIter (.ref it)) Q E s
abbrev TI:=St->Hp->(It->Hp->Prop)->Prop
def Fg(X:Cx)(p:List (Addr×Obj))(a:St)(T:Expr)(R:It->Hp->Prop)(i:Value)(s:Shared):Prop:=
 ∃(I:Addr) (f:List Addr) (t:Nat->Heap->Prop) (J:It) (H:Hp),i= .ref I/\ap X p a H s/\mJ X.prog X.w X.K T J f I t/\t 0 s.heap/\(∀b∈f,eX X p H b)/\R J H
def PI(X:Cx)(t iter:Expr)(W:TI):Prop:=
 ∀(p:List (Addr×Obj)) (s:Shared) (a:St) (H:Hp) (R:It->Hp->Prop),ap X p a H s->W a H R->
  wpAny (model X.prog X.w) X.A (eval iter X.env) (λv S=>wpAny (model X.prog X.w) X.A (pyIter v) (Fg X p a t R) X.xe S) X.xe s
theorem YE{s : Shared}{n : String}{Q : Unit -> Shared -> Prop}(a : s.heap.get? i = some o)(b : o.cls = .type n)(c : o.data = .fields v)
    (d : ["enumerate", "zip", "dict_itemiterator", "dict_reverseitemiterator", "odict_iterator", "itertools.zip_longest", "itertools.pairwise"].contains n = false) (H : Q () s) : wpAny M A (letOwnedTupleGo t (.ref i) u) Q E s := by
  unfold letOwnedTupleGo
  cases t <;> first
    | exact Ge H
    | (cases u <;> first
        | exact Ge H
        | (refine Gb (OE a ?_)
           rw [b, c]
           show wpAny M A (if (["enumerate", "zip", "dict_itemiterator", "dict_reverseitemiterator", "odict_iterator", "itertools.zip_longest", "itertools.pairwise"].contains n && v[0]? == some (rawInt _)) = true then _ else _) Q E s
           rw [GG (by intro h; rw [d, OD] at h; cases h)]
           exact Ge H))
noncomputable def uN(K:Frag)(a:Addr):It:=
 #[λi H=>∃X x,aH K H a X/\X[i]?=some x,λi H x h=>h=H/\∀X,aH K H a X->X[i]?=some x,λi H=>∃X,aH K H a X/\X.length<=i]
noncomputable def uO(K:Frag)(a:Addr):It:=
 #[λi H=>∃X x,aw K H a X/\X[i]?=some x,λi H x h=>h=H/\∀X,aw K H a X->X[i]?=some x,λi H=>∃X,aw K H a X/\X.length<=i]
noncomputable def uC(lo:Int)(n:Nat):It:=#[λi _=>i < n,λi H x h=>h=H/\x= .int (lo+i),λi _=>n<=i]
theorem Zp{P:Program}{K:Frag}(a g:Addr):mJ P w K tg (uN K a) [g] g (λi h=>h.IsListIter g a i) where
 mem:=by simp
 obj:=λi h st b j=>by
  have e:b=g:=by simpa using j
  subst e
  obtain⟨o,e,c,d⟩:=st
  exact#[o,e,λv z=>by rw[d]at z;cases z]
 keep:=λi h l st k=>st.at λo e=>k g P5 o e
 item:=by
  intro X q r t L i f s M H E I m st y
  subst q r t
  obtain⟨N,x,n,A⟩:=y
  obtain⟨B,R,p,O⟩:=I.list n
  obtain⟨u,Q,T⟩:=R.get A
  obtain⟨F,C,U,D,G,J⟩:=m g P5
  refine NQ st p.isList (x:=u) (by simpa using Q) λl S V=>?_
  have W:ap X f M H { s with heap:=l }:=I.turned (t':=s.toks) (λb o j e=>(V.2 b j).trans e) F C D G J
  obtain⟨o,e,c,d⟩:=id S
  exact#[u,Z,YE (s:={ s with heap:=l }) e c d PZ #[x,H,W,T,#[Z,λys Y=>by rw[I.list_inj Y n];exact A],S,λb j=>(m b j).1]]
 done:=by
  intro X q r t L i f s M H E I m st y
  subst q r t
  obtain⟨N,n,A⟩:=y
  obtain⟨B,R,p,O⟩:=I.list n
  obtain⟨F,C,U,D,G,J⟩:=m g P5
  have hl:=R.length
  exact N9 (I.ok.hd L) st p.isList (by simp;omega) λl eb=>#[Z,I.turned (t':=s.toks) (λb o j e=>eb b o j e) F C D G J]
 self:=λ_ _ _ _ _ st h=>wpAny_pyIter_listiter st h
theorem X4{P:Program}{K:Frag}(a g:Addr):mJ P w K tg (uO K a) [g] g (λi h=>h.IsTupleIter g a i) where
 mem:=by simp
 obj:=λi h st b j=>by
  have e:b=g:=by simpa using j
  subst e
  obtain⟨o,e,c,d⟩:=st
  exact#[o,e,λv z=>by rw[d]at z;cases z]
 keep:=λi h m st k=>st.at λo e=>k g P5 o e
 item:=by
  intro X r t y L i f s M H E I n st A
  subst r t y
  obtain⟨N,x,q,B⟩:=A
  obtain⟨l,R,p,O⟩:=I.tuple q
  obtain⟨u,Q,T⟩:=R.get B
  obtain⟨F,C,U,D,G,J⟩:=n g P5
  refine wpAny_pyNext_tuple_item st (show s.heap.IsTuple a l.toArray from p) (x:=u) (by simpa using Q) λm S V=>?_
  have W:ap X f M H { s with heap:=m }:=I.turned (t':=s.toks) (λb o j e=>(V.2 b j).trans e) F C D G J
  obtain⟨o,e,c,d⟩:=id S
  exact#[u,Z,YE (s:={ s with heap:=m }) e c d PZ #[x,H,W,T,#[Z,λys Y=>by rw[I.tuple_inj Y q];exact B],S,λb j=>(n b j).1]]
 done:=by
  intro X r t y L i f s M H E I n st A
  subst r t y
  obtain⟨N,q,B⟩:=A
  obtain⟨l,R,p,O⟩:=I.tuple q
  obtain⟨F,C,U,D,G,J⟩:=n g P5
  have hl:=R.length
  exact wpAny_pyNext_tuple_end (I.ok.hd L) st (show s.heap.IsTuple a l.toArray from p) (by simp;omega) λm eb=>#[Z,I.turned (t':=s.toks) (λb o j e=>eb b o j e) F C D G J]
 self:=λ_ _ _ _ _ st h=>wpAny_pyIter_tupleiter st h
theorem X5{P:Program}{K:Frag}(a:Addr)(lo:Int)(n:Nat):mJ P w K M (uC lo n) [a] a (λi h=>IsRangeIter h a (lo+(i:Nat)*1) ((n:Int) - (i:Nat)) 1) where
 mem:=by simp
 obj:=λi h st b c=>by
  have e:b=a:=by simpa using c
  subst e
  exact#[_,st,λv z=>by
   have B:Data.fields _=Data.cell v:=z
   cases B]
 keep:=λi h d st k=>k a P5 _ st
 item:=by
  intro X g j l m i p s A H E I f st q
  subst g j l
  obtain⟨F,r,C,u,x,y⟩:=f a P5
  have W:=Walks.range (prog:=X.prog) (w:=X.w) (I.ok.hd m) a lo 1 n
  refine W.item i s _ _ q st λv d T D S G=>?_
  obtain⟨t,rfl⟩:=D
  have J:ap X p A H { s with heap:=d,toks:=T }:=I.turned (λb o c e=>G b o (by simpa using c) e) F r u x y
  refine#[_,Z,YE (s:={ s with heap:=d,toks:=T }) (n:="range_iterator") S Z Z PZ #[.int (lo+i),H,J,#[t,?_],#[Z,Z],S,λb c=>(f b c).1]]
  rw[Int.mul_one]
 done:=by
  intro X g j l m i p s A H E I f st q
  subst g j l
  obtain⟨F,r,C,u,x,y⟩:=f a P5
  exact wpAny_pyNext_range_end (I.ok.hd m) st (by have:n<=i:=q;omega) λd L=>#[Z,I.turned (t':=s.toks) (λb o c e=>L b o c e) F r u x y]
 self:=λ_ _ _ _ _ st h=>wpAny_pyIter_rangeiter st h
section
variable {X:Cx}{tg:Expr}
inductive pW(K:Frag)(R:It->Hp->Prop)(x:V)(b:Hp):Prop
 |mk(a:_)(_:x= .ref a)(_:∃xs,aH K b a xs)(_:R (uN K a) b)
def xU(K:Frag)(t:TE):TI:=λa H R=>t a H (pW K R)
inductive xW(K:Frag)(R:It->Hp->Prop)(x:V)(b:Hp):Prop
 |mk(a:_)(_:x= .ref a)(_:∃xs,aw K b a xs)(_:R (uO K a) b)
def EA(K:Frag)(t:TE):TI:=λa H R=>t a H (xW K R)
theorem qH(c:PE X l t):PI X tg l (xU X.K t):=by
 intro P s d H R I h
 refine aQ (c P s d H _ I h) λv S z=>?_
 obtain⟨x,f,i,r,Q⟩:=z
 obtain⟨a,e,⟨m,g⟩,q⟩:=Q
 subst e
 cases r
 obtain⟨j,n,p,u⟩:=i.list g
 refine LO p.isList ?_
 refine#[S.heap.objs.size,[S.heap.objs.size],_,_,f,Z,i.kept (t':=S.toks) λb o e=>Gf _ e,Zp a _,#[_,Gm _ Z,Z,Z],λb k=>?_,q]
 have e:b=S.heap.objs.size:=by simpa using k
 subst e
 exact i.fpOk (Gh _) (i.hok.fresh (Gh _))
theorem zI(d:PE X l t):PI X tg l (EA X.K t):=by
 intro P s f H R I h
 refine aQ (d P s f H _ I h) λv S z=>?_
 obtain⟨x,g,i,r,Q⟩:=z
 obtain⟨a,e,⟨m,j⟩,q⟩:=Q
 subst e
 cases r
 obtain⟨c,n,p,u⟩:=i.tuple j
 refine Ld (show S.heap.IsTuple a c.toArray from p) ?_
 refine#[S.heap.objs.size,[S.heap.objs.size],_,_,g,Z,i.kept (t':=S.toks) λb o e=>Gf _ e,X4 a _,#[_,Gm _ Z,Z,Z],λb k=>?_,q]
 have e:b=S.heap.objs.size:=by simpa using k
 subst e
 exact i.fpOk (Gh _) (i.hok.fresh (Gh _))
theorem Xa{R:It->Hp->Prop}{lo:Int}(I:ap X p a H s)(c: -(2 ^ 62)<=lo)(d:lo < 2 ^ 62)(f: -(2 ^ 62)<=h)(g:h < 2 ^ 62)
  (q:R (uC lo (h - lo).toNat) H):wpAny (model X.prog X.w) X.A (pyIter (.ref s.heap.objs.size)) (Fg X p a tg R) E { s with heap:=s.heap.push { cls:=.type "range",data:=.fields (List.toArray [.int lo t,.int h u,.int 1 v]) },toks:=T }:=by
 refine wpAny_pyIter_range (IsRange.new ..) (small_one c d f g) ?_
 have i:ap X p a H { s with heap:=s.heap.push { cls:=.type "range",data:=.fields (List.toArray [.int lo t,.int h u,.int 1 v]) },toks:=T }:=I.kept λb o e=>Gf _ e
 refine#[(s.heap.push { cls:=.type "range",data:=.fields (List.toArray [.int lo t,.int h u,.int 1 v]) }).objs.size,[(s.heap.push { cls:=.type "range",data:=.fields (List.toArray [.int lo t,.int h u,.int 1 v]) }).objs.size],_,_,H,Z,
  i.kept (t':=T) λb o e=>Gf _ e,X5 _ lo (h - lo).toNat,?_,λb j=>?_,q]
 ·have k:lo+((0:Nat):Int)*1=lo:=by simp
  have l:(((h - lo).toNat:Nat):Int) - ((0:Nat):Int)=Builtin.Range.rangeSize lo h 1:=by rw[rangeSize_one];split<;>omega
  show IsRangeIter _ _ (lo+((0:Nat):Int)*1) ((((h - lo).toNat:Nat):Int) - ((0:Nat):Int)) 1
  rw[k,l]
  exact Gm _ Z
 ·have e:b=(s.heap.push { cls:=.type "range",data:=.fields (List.toArray [.int lo t,.int h u,.int 1 v]) }).objs.size:=by simpa using j
  subst e
  exact i.fpOk (Gh _) (i.hok.fresh (Gh _))
inductive pX(R:It->Hp->Prop)(b:List V)(a:Hp):Prop
 |mk(j:Int)(_:b=[.int j])(_:-(2 ^ 62)<=j)(_:j < 2 ^ 62)(_:R (uC 0 j.toNat) a)
def CQ(t:TA):TI:=λa H R=>t a H (pX R)
inductive pY(R:It->Hp->Prop)(b:List V)(a:Hp):Prop
 |mk(i j:Int)(_:b=[.int i,.int j])(_:-(2 ^ 62)<=i/\i < 2 ^ 62/\ -(2 ^ 62)<=j/\j < 2 ^ 62)(_:R (uC i (j - i).toNat) a)
def CS(t:TA):TI:=λa H R=>t a H (pY R)
theorem km{a:Expr}{T:TA}{p P:Pos}(c:Gl X "range")(d:X.mg "range"=none)(f:PA X [a] T)(g:starEach [a] X.env=[(false,eval a X.env)]:=by rfl):PI X tg (.Call (.Name "range" p) [a] [] P) (CQ T):=by
 intro b s i H R I h
 refine Call_ (zh I c d boot_range (Hh (aQ (f P b s i H _ I h) λu S z=>?_) g Z))
 obtain⟨v,o,k,l,Q⟩:=z
 obtain⟨j,e,Q,m,q⟩:=Q
 subst e
 cases l with
 |cons r n=>
  cases n
  obtain⟨t,rfl⟩:=r
  exact call_range_1 (Xa k P0 P0 Q m (by simpa using q))
theorem Zq(g:Gl X "range")(k:X.mg "range"=none)(l:PA X [a,b] T)(m:starEach [a,b] X.env=[(false,eval a X.env),(false,eval b X.env)]:=by rfl)(c:starEach [b] X.env=[(false,eval b X.env)]:=by rfl):
  PI X tg (.Call (.Name "range" p) [a,b] [] d) (CS T):=by
 intro P s n H R I h
 refine Call_ (zh I g k boot_range (Hh (aQ (l d P s n H _ I h) λU S #[V,z,o,u,Q]=>?_) (by rw[m,c]) (by rw[c];rfl)))
 obtain⟨i,j,e,⟨Q,v,w,x⟩,q⟩:=Q
 subst e
 cases u with
 |cons r f=>
  cases f with
  |cons y f=>
   cases f
   obtain⟨t,rfl⟩:=r
   obtain⟨A,rfl⟩:=y
   exact call_range_2 (Xa o Q v w x q)
def By(w:TI)(g:TG)(t:TS):TS:=λD a H=>w a H λJ d=>∃W:Nat->Nat->St->Hp->Prop,(∃m,W 0 m a d)/\∀i m a H,W i m a H->
 (J.stop i H/\D.nx a H)∨(J.go i H/\∃N:St->Hp->Prop,(∀b h,N b h->∃M,M < m/\W (i+1) M b h)/\∀x h,J.yld i H x h->g x a h λc e=>t { D with nx:=N,ct:=N,bk:=D.nx } c e)
noncomputable def iS(f:List Addr)(h:Heap):List (Addr×Obj):=f.filterMap λb=>(h.get? b).map λo=>(b,o)
theorem kU{h:Heap}(H:b∈f)(e:h.get? b=some o):(b,o)∈iS f h:=List.mem_filterMap.mpr #[b,H,by rw[e];rfl]
theorem Zr(H:p∈iS f h):p.1∈f/\h.get? p.1=some p.2:=by
 obtain⟨b,a,e⟩:=List.mem_filterMap.mp H
 cases q:h.get? b with
 |none=>rw[q]at e;cases e
 |some o=>
  rw[q]at e
  have E:(b,o)=p:=Hg e
  subst E
  exact#[a,q]
theorem ap.pinned(I:ap X a c H s)(g:∀b∈f,eX X a H b)(i:∀b∈f,∃o,s.heap.get? b=some o/\∀v,o.data≠ .cell v):ap X (a++iS f s.heap) c H s:=
 I.pins_of λp j=>(List.mem_append.mp j).elim (λz=>I.pin p (Gy _ z)) λz=>by
  obtain⟨h,e⟩:=Zr z
  obtain⟨F,k,l,_⟩:=g p.1 h
  obtain⟨o,E,d⟩:=i p.1 h
  rw[e]at E;cases E
  exact#[e,F,k,l,d]
theorem ap.unpinned(I:ap X (a++c) b H s):ap X a b H s:=I.pins_of λp h=>I.pin p (Gy _ (HN _ h))
theorem kr{iter:Expr}{B:List Stmt}{wi:TI}{g:TG}{tb:TS}{P:Pos}(C:PassesOwn (model X.prog X.w) X.A X.env X.xe)(hc:X.calm=true)(hi:PI X tg iter wi)(hg:PG X tg g)(c:lH X B tb)
  (hs:∀x,foldedSetIterable iter X.env x=pure x:=by intro _;rfl):PS X (.For tg iter B [] P) (By wi g tb):=by
 intro p s σ H D I h
 refine wpAny_For (aQ (hi p s σ H _ I h) λv s1 h1=>aQ h1 λi0 s2 h2=>?_) hs
 obtain⟨it,F,tn,J,H2,e,I2,T,O,f2,W,⟨m0,w0⟩,E⟩:=h2
 subst e
 have S:∀{t:Hp},(∀b∈F,t b=none)->∀b∈F,eX X p t b:=λhn b c=>#[hn b c,(f2 b c).2]
 refine codeAny_forLoop_any (λn s'=>∃i j t,ap X p j t s'/\tn i s'.heap/\(∀b∈F,t b=none)/\W i n j t) ?_ m0 #[0,σ,H2,I2,O,λb c=>(f2 b c).1,w0]
 rintro n s3 ⟨i,k,M,I3,G,K,w3⟩
 rcases E i n k M w3 with ⟨stop,qn⟩ | ⟨go,N,hN,step⟩
 ·refine IM C (aQ (T.done X Z Z Z hc i p s3 k M X.xe I3 (S K) G stop) λr s4 z=>?_)
  obtain⟨R,I4⟩:=z
  subst R
  exact Lb #[k,M,I4,qn]
 ·refine IM C (aQ (T.item X Z Z Z hc i p s3 k M X.xe I3 (S K) G go) λr s4 z=>?_)
  obtain⟨u,R,h4⟩:=z
  subst R
  refine IM C (aQ h4 λ_ s5 z=>?_)
  obtain⟨x,H5,I5,r5,y5,y,U⟩:=z
  have V:=I5.pinned (S U) (T.obj _ _ y)
  refine IM C (aQ (hg _ s5 k H5 x u _ V r5 (step x H5 y5)) λ_ s6 z=>?_)
  obtain⟨Y,H6,I6,q6⟩:=z
  refine IM C (aQ (c _ s6 Y H6 _ I6 q6) λf s7 Q=>?_)
  have again:∀{a:St} {l:Hp},ap X (p++iS F s5.heap) a l s7->N a l->∃m,m < n/\∃i j t,ap X p j t s7/\tn i s7.heap/\(∀b∈F,t b=none)/\W i m j t:=λ{a l} q L=>by
   obtain⟨m',hm,w7⟩:=hN a l L
   refine#[m',hm,i+1,a,l,q.unpinned,T.keep _ _ _ y λb c o e=>(q.pin (b,o) (Gy _ (Gy _ (kU c e)))).1,λb c=>?_,w7]
   obtain⟨o,e,d⟩:=T.obj _ _ y b c
   exact(q.pin (b,o) (Gy _ (Gy _ (kU c e)))).2.1
  cases f with
  |next=>obtain⟨a,l,q,L⟩:=Q;exact again q L
  |cont=>obtain⟨a,l,q,L⟩:=Q;exact again q L
  |brk=>obtain⟨a,l,q,Q⟩:=Q;exact#[a,l,q.unpinned,Q]
  |ret v=>obtain⟨x7,a,l,q,r7,Q⟩:=Q;exact#[x7,a,l,q.unpinned,r7,Q]
end
theorem pJ{K:Frag}{a:Addr}{X:List V}{g:TG}{t:TS}{D:a9}{b:St}{H:Hp}(Pv:Nat->St->Hp->Prop)(k:Pv 0 b H)(l:∀i b H,i<=X.length->Pv i b H->aH K H a X)
  (n:∀i x b H,X[i]?=some x->Pv i b H->g x b H λc j=>t { D with nx:=Pv (i+1),ct:=Pv (i+1),bk:=D.nx } c j) (o:∀b H,Pv X.length b H->D.nx b H):
  ∃W:Nat->Nat->St->Hp->Prop,(∃m,W 0 m b H)/\∀i m b H,W i m b H->
   ((uN K a).stop i H/\D.nx b H)∨((uN K a).go i H/\∃N:St->Hp->Prop,(∀d h,N d h->∃M,M < m/\W (i+1) M d h)/\∀x h,(uN K a).yld i H x h->g x b h λc j=>t { D with nx:=N,ct:=N,bk:=D.nx } c j):=by
 refine#[λi m b H=>m=X.length - i/\i<=X.length/\Pv i b H,#[X.length,P5,Gp _,k],?_]
 rintro i m b H ⟨rfl,r,p⟩
 have q:=l i b H r p
 by_cases f:i < X.length
 ·refine .inr #[#[X,X[i],q,by simp [f]],Pv (i+1),λd h P=>#[X.length - (i+1),P0,Z,f,P],λx h y=>?_]
  obtain⟨e,y⟩:=y
  subst e
  exact n i x b _ (y X q) p
 ·have e:i=X.length:=by omega
  subst e
  exact .inl #[#[X,q,Gh _],o b H p]
theorem vp{K:Frag}{a:Addr}{X:List V}{g:TG}{t:TS}{D:a9}{b:St}{H:Hp}(Pv:Nat->St->Hp->Prop)(k:Pv 0 b H)(l:∀i b H,i<=X.length->Pv i b H->aw K H a X)
  (n:∀i x b H,X[i]?=some x->Pv i b H->g x b H λc j=>t { D with nx:=Pv (i+1),ct:=Pv (i+1),bk:=D.nx } c j) (o:∀b H,Pv X.length b H->D.nx b H):
  ∃W:Nat->Nat->St->Hp->Prop,(∃m,W 0 m b H)/\∀i m b H,W i m b H->
   ((uO K a).stop i H/\D.nx b H)∨((uO K a).go i H/\∃N:St->Hp->Prop,(∀d h,N d h->∃M,M < m/\W (i+1) M d h)/\∀x h,(uO K a).yld i H x h->g x b h λc j=>t { D with nx:=N,ct:=N,bk:=D.nx } c j):=by
 refine#[λi m b H=>m=X.length - i/\i<=X.length/\Pv i b H,#[X.length,P5,Gp _,k],?_]
 rintro i m b H ⟨rfl,r,p⟩
 have q:=l i b H r p
 by_cases f:i < X.length
 ·refine .inr #[#[X,X[i],q,by simp [f]],Pv (i+1),λd h P=>#[X.length - (i+1),P0,Z,f,P],λx h y=>?_]
  obtain⟨e,y⟩:=y
  subst e
  exact n i x b _ (y X q) p
 ·have e:i=X.length:=by omega
  subst e
  exact .inl #[#[X,q,Gh _],o b H p]
theorem Qa{lo:Int}{n:Nat}{g:TG}{t:TS}{D:a9}{a:St}{H:Hp}(Pv:Nat->St->Hp->Prop)(j:Pv 0 a H)
  (k:∀i a H,i < n->Pv i a H->g (.int (lo+i)) a H λb f=>t { D with nx:=Pv (i+1),ct:=Pv (i+1),bk:=D.nx } b f) (l:∀a H,Pv n a H->D.nx a H):
  ∃W:Nat->Nat->St->Hp->Prop,(∃m,W 0 m a H)/\∀i m a H,W i m a H->
   ((uC lo n).stop i H/\D.nx a H)∨((uC lo n).go i H/\∃N:St->Hp->Prop,(∀c h,N c h->∃M,M < m/\W (i+1) M c h)/\∀x h,(uC lo n).yld i H x h->g x a h λb f=>t { D with nx:=N,ct:=N,bk:=D.nx } b f):=by
 refine#[λi m a H=>m=n - i/\i<=n/\Pv i a H,#[n,P5,Gp _,j],?_]
 rintro i m a H ⟨rfl,o,p⟩
 by_cases d:i < n
 ·refine .inr #[d,Pv (i+1),λc h P=>#[n - (i+1),P0,Z,d,P],λx h y=>?_]
  obtain⟨e,y⟩:=y
  subst e y
  exact k i a _ d p
 ·have e:i=n:=by omega
  subst e
  exact .inl #[Gh _,l a H p]
abbrev R2:=V->V->Hp->VK->Prop
def eN(X:Cx)(f:Value->Value->Sem Value)(r:R2):Prop:=
 ∀(p:List (Addr×Obj)) (s:Shared) (a:St) (H:Hp) (x y:V) (v u:Value) (Q:VK),ap X p a H s->aC x v->aC y u->r x y H Q->
  wpAny (model X.prog X.w) X.A (f v u) (EP X p a Q) X.xe s
def En(X:Cx)(f:Value->Sem Value)(r:V->Hp->VK->Prop):Prop:=
 ∀(p:List (Addr×Obj)) (s:Shared) (a:St) (H:Hp) (x:V) (v:Value) (Q:VK),ap X p a H s->aC x v->r x H Q->
  wpAny (model X.prog X.w) X.A (f v) (EP X p a Q) X.xe s
def dR(X:Cx)(f:Value)(r:List V->Hp->VK->Prop):Prop:=
 ∀(p:List (Addr×Obj)) (s:Shared) (a:St) (H:Hp) (x:List V) (u:List Value) (Q:VK),ap X p a H s->ax x u->r x H Q->
  wpAny (model X.prog X.w) X.A (call f u) (EP X p a Q) X.xe s
def Em(X:Cx)(r:V->Hp->(Bool->Hp->Prop)->Prop):Prop:=
 ∀(p:List (Addr×Obj)) (s:Shared) (a:St) (H:Hp) (x:V) (v:Value) (Q:Bool->Hp->Prop),ap X p a H s->aC x v->r x H Q->
  wpAny (model X.prog X.w) X.A (truthy v) (TP X p a Q) X.xe s
def dG(r:R2)(t T:TE):TE:=λa H Q=>t a H λx h=>T a h λy b=>r x y b Q
def FR(r:V->Hp->VK->Prop)(t:TE):TE:=λa H Q=>t a H λx h=>r x h Q
inductive rI(C:Int->Int->Prop)(g:Int->Int->V)(x y:V)(H:Hp)(Q:VK):Prop
 |mk(i j:_)(_:x= .int i)(_:y= .int j)(_:C i j)(_:Q (g i j) H)
inductive uG(g:Int->Int->V)(x y:V)(H:Hp)(Q:VK):Prop
 |mk(i j:_)(_:x= .int i)(_:y= .int j)(_:Q (g i j) H)
inductive rU(g:Int->V)(x:V)(H:Hp)(Q:VK):Prop
 |mk(i:_)(_:x= .int i)(_:Q (g i) H)
section
variable {X:Cx}{a b c:Expr}{ta tb tc:TE}{pos:Pos}
theorem yC(k:PE X a ta)(l:PE X b tb){R:V->V->Hp->Prop}(I:ap X p e H s)
  (h:ta e H λx j=>tb e j λy d=>R x y d)  {f:Value->Value->Sem Value}
  (m:∀v u i x y d,ap X p e d i->aC x v->aC y u->R x y d->wpAny (model X.prog X.w) X.A (f v u) Q X.xe i):
  wpAny (model X.prog X.w) X.A (eval a X.env) (λv S=>wpAny (model X.prog X.w) X.A (eval b X.env) (λu g=>wpAny (model X.prog X.w) X.A (f v u) Q X.xe g) X.xe S) X.xe s:=by
 refine aQ (k p s e H _ I h) λv n z=>?_
 obtain⟨x,j,o,r,q⟩:=z
 refine aQ (l p n e j _ o q) λu i z=>?_
 obtain⟨y,d,t,B,C⟩:=z
 exact m v u i x y d t r B C
theorem ju{o:Operator}{r:R2}(d:eN X (binaryOp o) r)(e:PE X a ta)(f:PE X b tb):PE X (.BinOp a o b pos) (dG r ta tb):=by
 intro p s g H Q I h
 exact wpAny_BinOp (yC e f I h λv u S x y i j R k q=>d p S g i x y v u Q j R k q)
theorem rY(e:En X (unaryOp o) r)(f:PE X a ta):PE X (.UnaryOp o a pos) (FR r ta):=by
 intro p s d H Q I h
 exact UnaryOp_ (aQ (f p s d H _ I h) λv S #[x,g,i,R,q]=>e p S d g x v Q i R q)
theorem D9{f:Value->Value->Sem Value}{C:Int->Int->Prop}{g:Int->Int->Int}
  (rule:∀(i j:Int) (t u:Tok) (s:Shared) (Q:Value->Shared->Prop) (E:Value->Shared->Prop),C i j->Q (.int (g i j) s.toks) { s with toks:=s.toks+1 }->wpAny (model X.prog X.w) X.A (f (.int i t) (.int j u)) Q E s):
  eN X f (rI C λi j=>.int (g i j)):=by
 intro p s e H x y v u Q I r R h
 obtain⟨i,j,rfl,rfl,d,q⟩:=h
 obtain⟨t,rfl⟩:=r
 obtain⟨T,rfl⟩:=R
 exact rule i j t T s _ _ d #[.int (g i j),H,I.tok _,#[_,Z],q]
theorem Dg{f:Value->Value->Sem Value}{g:Int->Int->Int}
  (rule:∀(i j:Int) (t u:Tok) (s:Shared) (Q:Value->Shared->Prop) (E:Value->Shared->Prop),Q (.int (g i j) s.toks) { s with toks:=s.toks+1 }->wpAny (model X.prog X.w) X.A (f (.int i t) (.int j u)) Q E s):
  eN X f (uG λi j=>.int (g i j)):=by
 intro p s d H x y v u Q I r R h
 obtain⟨i,j,rfl,rfl,q⟩:=h
 obtain⟨t,rfl⟩:=r
 obtain⟨T,rfl⟩:=R
 exact rule i j t T s _ _ #[.int (g i j),H,I.tok _,#[_,Z],q]
theorem AA{f:Value->Value->Sem Value}{g:Int->Int->Bool}
  (rule:∀(i j:Int) (t u:Tok) (s:Shared) (Q:Value->Shared->Prop) (E:Value->Shared->Prop),Q (.bool (g i j)) s->wpAny (model X.prog X.w) X.A (f (.int i t) (.int j u)) Q E s):
  eN X f (uG λi j=>.bl (g i j)):=by
 intro p s d H x y v u Q I r R h
 obtain⟨i,j,rfl,rfl,q⟩:=h
 obtain⟨t,rfl⟩:=r
 obtain⟨T,rfl⟩:=R
 exact rule i j t T s _ _ #[.bl (g i j),H,I,Z,q]
def Ed(i j:Int):Prop:=0<=j/\j<=1000000/\i.natAbs < 2 ^ 64
def uI(i j:Int):Prop:=(-(2 ^ 64) < i/\i < 2 ^ 64)∨(-(2 ^ 64) < j/\j < 2 ^ 64)
theorem uI.ok(h:uI i j):IntMulOk i j:=by
 rcases h with ⟨H,d⟩ | ⟨H,d⟩
 ·exact .of_left (intBits_le_64 H d)
 ·exact .of_right (intBits_le_64 H d)
theorem jY:eN X (binaryOp .Add) (uG λi j=>.int (i+j)):=Dg λ_ _ _ _ _ _ _ q=>add_int q
theorem kP:eN X (binaryOp .Sub) (uG λi j=>.int (i - j)):=Dg λ_ _ _ _ _ _ _ q=>sub_int q
theorem zi:eN X (binaryOp .Mult) (rI uI λi j=>.int (i*j)):=D9 λ_ _ _ _ _ _ _ h q=>mul_int q h.ok
theorem kQ:eN X (binaryOp .Mod) (rI (λ_ j=>0 < j) λi j=>.int (i % j)):=D9 λi j _ _ _ _ _ h q=>by
 have H:(0:Int) < j:=h
 exact mod_int' P0 (by rw[Int.fmod_eq_emod_of_nonneg i P0];exact q)
theorem J4:eN X (binaryOp .Pow) (rI Ed λi j=>.int (i ^ j.toNat)):=D9 λ_ _ _ _ _ _ _ h q=>pow_int_small h.1 h.2.1 h.2.2 q
theorem FV{f:Value->Sem Value}{g:Int->Int}
  (rule:∀(i:Int) (t:Tok) (s:Shared) (Q:Value->Shared->Prop) (E:Value->Shared->Prop),Q (.int (g i) s.toks) { s with toks:=s.toks+1 }->wpAny (model X.prog X.w) X.A (f (.int i t)) Q E s):
  En X f (rU λi=>.int (g i)):=by
 intro p s d H x v Q I r h
 obtain⟨i,rfl,q⟩:=h
 obtain⟨t,rfl⟩:=r
 exact rule i t s _ _ #[.int (g i),H,I.tok _,#[_,Z],q]
theorem XV:En X (unaryOp .USub) (rU λi=>.int (-i)):=FV λ_ _ _ _ _ q=>neg_int q
end
noncomputable def DG:V->V->Bool
 | .non,.non=>true | .non,.int _=>true | .int _,.non=>true | .non,.bl _=>true | .bl _,.non=>true | .non,.str _=>true | .str _,.non=>true
 | .int _,.int _=>true | .bl _,.bl _=>true | .str _,.str _=>true | .byt _,.byt _=>true
 | .int _,.str _=>true | .str _,.int _=>true | .bl _,.str _=>true | .str _,.bl _=>true
 |_,_=>false
def Do:R2:=λx y H Q=>DG x y=true/\Q (.bl (decide (x=y))) H
def FL:R2:=λx y H Q=>DG x y=true/\Q (.bl (!decide (x=y))) H
theorem YM:decide (V.int i=V.int j)=(i==j):=by
 rw[L9]
 simp
theorem pj:decide (V.bl i=V.bl j)=(i==j):=by
 rw[L9]
 simp
theorem YN:decide (V.str i=V.str j)=(i==j):=by
 rw[L9]
 simp
theorem YO:decide (V.byt i=V.byt j)=(i.toList==j.toList):=by
 rw[L9]
 cases i
 cases j
 simp
section
variable {X:Cx}{a b c:Expr}{ta tb tc:TE}{pos:Pos}
theorem jL{Q:VK}(I:ap X p d H s)(q:Q (.bl k) H)(e:k=f):EP X p d Q (.bool f) s:=by
 subst e
 exact#[.bl k,H,I,Z,q]
theorem qi:eN X (compareOp .Eq) Do:=by
 intro p s e H x y v u Q I R r h
 obtain⟨d,q⟩:=h
 cases x with
 |non=>
  cases R
  cases y with
  |non=>cases r;exact Pm (jL I q P5)
  |bl j=>cases r;exact Po (jL I q P5)
  |int j=>obtain⟨T,rfl⟩:=r;exact Pn (jL I q P5)
  |str j=>obtain⟨T,rfl⟩:=r;exact Pl (jL I q P5)
  |_=>exact absurd (show false=true from d) Gn
 |bl i=>
  cases R
  cases y with
  |non=>cases r;exact Pq (jL I q P5)
  |bl j=>cases r;exact eq_bool (jL I q pj)
  |str j=>obtain⟨T,rfl⟩:=r;exact O8 (jL I q P5)
  |_=>exact absurd (show false=true from d) Gn
 |int i=>
  obtain⟨t,rfl⟩:=R
  cases y with
  |non=>cases r;exact Pp (jL I q P5)
  |int j=>obtain⟨T,rfl⟩:=r;exact eq_int (jL I q YM)
  |str j=>obtain⟨T,rfl⟩:=r;exact O7 (jL I q P5)
  |_=>exact absurd (show false=true from d) Gn
 |str i=>
  obtain⟨t,rfl⟩:=R
  cases y with
  |non=>cases r;exact Pk (jL I q P5)
  |bl j=>cases r;exact O6 (jL I q P5)
  |int j=>obtain⟨T,rfl⟩:=r;exact O5 (jL I q P5)
  |str j=>obtain⟨T,rfl⟩:=r;exact eq_str (jL I q YN)
  |_=>exact absurd (show false=true from d) Gn
 |byt i=>
  obtain⟨t,rfl⟩:=R
  cases y with
  |byt j=>obtain⟨T,rfl⟩:=r;exact PySem.W.eq_bytes (jL I q YO)
  |_=>exact absurd (show false=true from d) Gn
 |_=>cases y<;>exact absurd (show false=true from d) Gn
theorem rW:eN X (compareOp .NotEq) FL:=by
 intro p s e H x y v u Q I R r h
 obtain⟨d,q⟩:=h
 cases x with
 |non=>
  cases R
  cases y with
  |non=>cases r;exact Pe (jL I q P5)
  |bl j=>cases r;exact Pg (jL I q P5)
  |int j=>obtain⟨T,rfl⟩:=r;exact Pf (jL I q P5)
  |str j=>obtain⟨T,rfl⟩:=r;exact Pd (jL I q P5)
  |_=>exact absurd (show false=true from d) Gn
 |bl i=>
  cases R
  cases y with
  |non=>cases r;exact Pj (jL I q P5)
  |bl j=>cases r;exact ne_bool (jL I q (HL not pj))
  |str j=>obtain⟨T,rfl⟩:=r;exact O4 (jL I q P5)
  |_=>exact absurd (show false=true from d) Gn
 |int i=>
  obtain⟨t,rfl⟩:=R
  cases y with
  |non=>cases r;exact Ph (jL I q P5)
  |int j=>obtain⟨T,rfl⟩:=r;exact ne_int (jL I q (HL not YM))
  |str j=>obtain⟨T,rfl⟩:=r;exact O3 (jL I q P5)
  |_=>exact absurd (show false=true from d) Gn
 |str i=>
  obtain⟨t,rfl⟩:=R
  cases y with
  |non=>cases r;exact Pb (jL I q P5)
  |bl j=>cases r;exact O2 (jL I q P5)
  |int j=>obtain⟨T,rfl⟩:=r;exact O1 (jL I q P5)
  |str j=>obtain⟨T,rfl⟩:=r;exact ne_str (jL I q (HL not YN))
  |_=>exact absurd (show false=true from d) Gn
 |byt i=>
  obtain⟨t,rfl⟩:=R
  cases y with
  |byt j=>obtain⟨T,rfl⟩:=r;exact PySem.W.ne_bytes (jL I q (HL not YO))
  |_=>exact absurd (show false=true from d) Gn
 |_=>cases y<;>exact absurd (show false=true from d) Gn
theorem K0:eN X (compareOp .Lt) (uG λi j=>.bl (decide (i < j))):=AA λ_ _ _ _ _ _ _ q=>lt_int q
theorem Jn:eN X (compareOp .Gt) (uG λi j=>.bl (decide (j < i))):=AA λ_ _ _ _ _ _ _ q=>gt_int q
theorem rV:eN X (compareOp .GtE) (uG λi j=>.bl (decide (j<=i))):=AA λ_ _ _ _ _ _ _ q=>ge_int q
theorem QB:eN X (compareOp .Is) (λx y H Q=>y= .non/\Q (.bl (decide (x= .non))) H):=by
 intro p s d H x y v u Q I r R h
 obtain⟨rfl,q⟩:=h
 cases R
 refine is_none_gen (jL I q ?_)
 cases x<;>first
  | (cases r;rfl)
  | (obtain⟨t,rfl⟩:=r;rfl)
theorem wg:eN X (compareOp .IsNot) (λx y H Q=>y= .non/\Q (.bl (!decide (x= .non))) H):=by
 intro p s d H x y v u Q I r R h
 obtain⟨rfl,q⟩:=h
 cases R
 refine isnot_none_gen (jL I q ?_)
 cases x<;>first
  | (cases r;rfl)
  | (obtain⟨t,rfl⟩:=r;rfl)
theorem aD(b:Expr)(h:o≠ .In:=by decide)(H:o≠ .NotIn:=by decide):behindInMarks o b=false:=by
 have e:(o==CmpOp.In)=false:=by cases o<;>first |rfl |exact absurd Z h
 have E:(o==CmpOp.NotIn)=false:=by cases o<;>first |rfl |exact absurd Z H
 cases b<;>simp [behindInMarks,e,E]
theorem JE(d:eN X (compareOp o) r)(e:PE X a ta)(f:PE X b tb)(g:behindInMarks o b=false):PE X (.Compare a [o] [b] pos) (dG r ta tb):=by
 intro p s i H Q I h
 exact wpAny_Compare1 (yC e f I h λv u S x y j k R l q=>d p S i j x y v u Q k R l q) g
inductive ua(Q:Bool->Hp->Prop)(x:V)(a:Hp):Prop
 |mk(k:_)(_:x= .bl k)(_:Q k a)
def iO(t:TE):TT:=λd H Q=>t d H (ua Q)
theorem jz{o:CmpOp}{r:R2}(f:eN X (compareOp o) r)(g:PE X a ta)(i:PE X b tb)(j:behindInMarks o b=false):PT X (.Compare a [o] [b] pos) (iO (dG r ta tb)):=by
 intro p s d H Q I h
 refine Oa (aQ (g p s d H _ I h) λv S #[x,l,m,R,q]=>aQ (i p S d l _ m q) λu n #[y,t,w,A,B]=>
  aQ (f p n d t x y v u _ w R A B) λc G #[z,C,D,E,k,e,F]=>?_) j
 subst e
 cases E
 exact LN #[C,D,F]
def Cn(K:Frag)(x:V)(H:Hp)(k:Bool):Prop:=
 match x with
 | .non=>k=false
 | .bl b=>k=b
 | .int i=>k=(i != 0)
 | .str y=>y.length<=sizeLine/\k=((y.length:Int) != 0)
 | .byt y=>y.size<=sizeLine/\k=((y.size:Int) != 0)
 | .ref p=>(∃d,aH K H p d/\k=!d.isEmpty)∨(∃d,aw K H p d/\k=!d.isEmpty)∨∃e,H p=some (.dK e)/\k=!e.isEmpty
 |_=>False
theorem X6{d:Type}{k:List (d×V)}{v:List (d×Value)}(r:KV k v):(!v.isEmpty)=!k.isEmpty:=by
 cases r<;>rfl
theorem Ko(r:ax x i):(!i.toArray.isEmpty)=!x.isEmpty:=by
 cases r<;>simp
theorem dW:(sizeLine:Nat) < 2 ^ 63:=by rw[Mr];decide
theorem BB:Em X (λx H Q=>∃k,Cn X.K x H k/\Q k H):=by
 intro o s B H x v Q I R h
 obtain⟨k,e,q⟩:=h
 have C:=dW
 have D:sizeLine=16777216:=Mr
 cases x with
 |non=>
  cases R
  have E:k=false:=e
  subst E
  exact truthy_none #[H,I,q]
 |bl b=>
  cases R
  have E:k=b:=e
  subst E
  exact LN #[H,I,q]
 |int i=>
  obtain⟨t,rfl⟩:=R
  have E:k=(i != 0):=e
  subst E
  exact PySem.P.truthy_int #[H,I,q]
 |str y=>
  obtain⟨t,rfl⟩:=R
  obtain⟨z,E⟩:y.length<=sizeLine/\k=((y.length:Int) != 0):=e
  subst E
  exact PySem.P.truthy_str P0 #[H,I.tok _,q]
 |byt y=>
  obtain⟨t,rfl⟩:=R
  obtain⟨z,E⟩:y.size<=sizeLine/\k=((y.size:Int) != 0):=e
  subst E
  exact PySem.W.truthy_bytes P0 #[H,I.tok _,q]
 |ref p=>
  cases R
  have E:(∃g,aH X.K H p g/\k=!g.isEmpty)∨(∃g,aw X.K H p g/\k=!g.isEmpty)∨∃d,H p=some (.dK d)/\k=!d.isEmpty:=e
  rcases E with ⟨g,j,E⟩ | ⟨g,j,E⟩ | ⟨d,j,E⟩
  ·subst E
   obtain⟨l,r,n,u⟩:=I.list j
   have f:=r.length
   exact wpAny_truthy_list n.isList (by simp only[Gj];omega) #[H,I.tok _,by rw[Ko r];exact q]
  ·subst E
   obtain⟨l,r,n,u⟩:=I.tuple j
   have f:=r.length
   exact truthy_tuple n (by simp only[Gj];omega) #[H,I.tok _,by rw[Ko r];exact q]
  ·subst E
   obtain⟨u,A,V,r,m⟩:d.length<=sizeLine/\(p==sysModules)=false/\∃V,KV d V/\s.heap.DictOf (aT X.prog X.w) p V:=I.hok p _ j
   have f:d.length=V.length:=Paired.length r
   exact wpAny_truthy_dict A m P0 #[H,I.tok _,by rw[X6 r];exact q]
 |_=>exact(show False from e).elim
theorem si(f:PE X a ta)(g:∀w,isTrue a X.env w=(do let v <- w;standAt a.pos;holding [v] (truthy v))):
  PT X a (λd H Q=>ta d H λx e=>∃k,Cn X.K x e k/\Q k e):=by
 intro p s d H Q I h
 exact isTrue_plain (aQ (f p s d H _ I h) λv S #[x,i,j,r,q]=>BB p S d i x v Q j r q) (g _)
theorem zw:eN X (binaryOp .Add) (λx y H Q=>∃i j,x= .str i/\y= .str j/\i.length+j.length<=sizeLine/\Q (.str (i++j)) H):=by
 intro p s e H x y v u Q I r R h
 obtain⟨i,j,rfl,rfl,d,q⟩:=h
 obtain⟨t,rfl⟩:=r
 obtain⟨T,rfl⟩:=R
 exact add_str (λT f=>#[.str (i++j),H,I.tok _,#[_,Z],q]) d
theorem eJ(r:ax [x] U):∃u,U=[u]/\aC x u:=by
 cases r with
 |cons R d=>cases d;exact#[_,Z,R]
theorem DX(r:ax [x,y] U):∃u w,U=[u,w]/\aC x u/\aC y w:=by
 cases r with
 |cons R d=>
  cases d with
  |cons e f=>cases f;exact#[_,_,Z,R,e]
theorem Jg:dR X (.type "int") (λx H Q=>(∃i,x=[.int i]/\Q (.int i) H)∨∃k,x=[.bl k]/\Q (.int (if k then 1 else 0)) H):=by
 intro p s d H x U Q I r h
 rcases h with ⟨i,rfl,q⟩ | ⟨k,rfl,q⟩
 ·obtain⟨u,rfl,t,rfl⟩:=eJ r
  exact call_int_int #[.int i,H,I,#[_,Z],q]
 ·obtain⟨u,rfl,R⟩:=eJ r
  cases R
  exact call_int_bool #[.int (if k then 1 else 0),H,I.tok _,#[_,Z],q]
end
structure mH(h:Heap)(x dx C:Addr)(mA:Str->Option Value):Prop where
 obj:h.get? x=some (instObj C dx)
 ns:h.Ns1 dx mA
 ne:dx≠x
theorem Zs{h:Heap}(n:h.Ns1 d m):∃O,h.get? d=some O/\∀name,lookIn name O=some (m name):=by
 obtain⟨o,E,j,b,c,f,_,g⟩:=n
 refine#[o,b,λname=>?_]
 have e:=g name
 unfold nsFind findBy at e
 rw[<- Array.find?_toList]at e
 unfold lookIn
 rw[c]
 dsimp only
 split
 ·rename_i y q
  rw[q]at e
  exact HL some e
 ·rename_i q
  rw[q]at e
  have a:E.toList.any (·.refKey)=false:=by
   rw[N4]
   intro y i
   obtain⟨z,t,H⟩:=f y (Array.mem_toList_iff.mp i)
   simp [DictEntry.refKey,H]
  have A:¬E.toList.any (·.refKey)=true:=by rw[a];exact Gn
  rw[GG A]
  exact HL some e
theorem mH.look(I:mH h x d C m):∃o,PySem.W.InstAt h x (instObj C d) C (some o)/\∀name,lookIn name o=some (m name):=
 let #[o,H,a]:=Zs I.ns
 #[o,#[I.obj,Z,Z,H],a]
section
variable {prog:Program}{w:World}{A:Around}{E:Value->Shared->Prop}{s:Shared}{K:Frag}{x dx C f:Addr}{mA:Str->Option Value}{name:Str}{v:Value}
theorem vq{Q:Value->Shared->Prop}(X:K.In s.heap)(I:mH s.heap x dx C mA)(a:plainGet K C name=true)(b:hasDictIn K C=true)
  (c:findIn K (.ref C) name=some none) (d:mA name=some v) (H:PySem.W.handedIn v=true) (h:Q v { s with toks:=s.toks+1 }):
  wpAny (model prog w) A (getAttr (.ref x) name e) Q E s:=by
 obtain⟨o,J,g⟩:=I.look
 exact PySem.W.get_value X J (Mh a).1 (PySem.W.findObj_own b c Z (by rw[g,d])) H h
theorem pP{Q:Value×List Value->Shared->Prop}(X:K.In s.heap)(I:mH s.heap x dx C mA)(H:plainGet K C name=true)
  (a:findIn K (.ref C) name=some (some (.ref f))) (b:isFn K (.ref f)=true) (c:mA name=none) (h:Q (.ref f,[.ref x]) s):
  wpAny (model prog w) A (getMethod (.ref x) name p) Q E s:=by
 obtain⟨o,J,d⟩:=I.look
 exact PySem.W.method_fn X J (Mh H).1 (Mh H).2 a (beq_iff_eq.mp b) (by show(lookIn name o).map (·.isSome)=some false;rw[d,c];rfl) h
theorem wW{Q:Unit->Shared->Prop}(X:K.In s.heap)(I:mH s.heap x dx C mA)
  (k:findIn K (.ref C) "__setattr__"=some (some (.builtin "object.__setattr__"))) (l:PySem.W.plainOver K C=true) (m:PySem.W.takerIn K C name=some none) (n:hasDictIn K C=true)
  (o:PySem.Within mA N) (p:N.length<=sizeLine)
  (h:∀d,mH d x dx C (λy=>if y=name then some v else mA y)->Heap.SameBut dx s.heap d->Q () { s with heap:=d,toks:=s.toks+2 }):
  wpAny (model prog w) A (setAttr (.ref x) name v) Q E s:=by
 obtain⟨O,J,B⟩:=I.look
 refine PySem.W.set_plain X J k (PySem.W.osa_open (s:={ s with toks:=s.toks+1 }) (r:=none) X J l m λb=>?_)
 obtain⟨D,q,e⟩:=PySem.W.any_some n
 have t:s.heap.get? x=some #[.ref C,some dx,.plain,(List.toArray [])]:=I.obj
 refine Gb (Ge (Gb (Gb (Nq t (Gb (O0 (s:={ s with toks:=s.toks+1 }) (PySem.W.looks_clsIn X q) ?_))))))
 rw[e]
 refine Ge (a:=some dx) (Gb (Ge (Gb ?_)))
 refine wpAny_nsSet1 (s:={ s with toks:=s.toks+1 }) I.ns λd H c=>?_
 obtain⟨F,u,z,g,i,j⟩:=H.count (Pa name v o)
 refine Gb (wpAny_lookBehind g (by rw[i];exact pastItsLine_dict (Gr j (by rw[GX];omega))) ?_)
 exact Ge (h _ #[(c.2 _ (G7 I.ne)).trans I.obj,H,I.ne] c)
theorem rg{R:Result->Shared->Prop}(X:K.In s.heap)(H:PySem.W.makesIn K C=true)
  (b:findIn K (.ref C) "__init__"=some (some (.ref f))) (c:typeIn K (.ref f)=some (.type "function"))
  (h:codeAny (model prog w) (A.under (.builtin "type.__call__" #[.ref C::a,k])) (.call (.ref f) #[.ref (s.heap.objs.size+1)::a,k]) (PySem.W.InitBack (s.heap.objs.size+1) R)
   { s with heap:=(s.heap.push emptyDict).push (instObj C s.heap.objs.size) }):
  codeAny (model prog w) A (.call (.ref C) #[a,k]) R s:=by
 obtain⟨e,g,d,t,os⟩:=s
 exact PySem.W.make_core (PySem.W.makes_of X H) (PySem.W.looks_findIn X b) (λS=>PySem.W.bind_fn X S c) (.inl Z) h
end
noncomputable def dX(f:Str)(v:V):List (Str×V)->List (Str×V)
 | []=>[(f,v)]
 | (g,x)::r=>if g=f then (g,v)::r else (g,x)::dX f v r
theorem Jq(f g:Str)(v:V):∀F:List (Str×V),(dX f v F).lookup g=if g=f then some v else F.lookup g
 | []=>by
  show List.lookup g [(f,v)]=_
  by_cases h:g=f
  ·have H:(g==f)=true:=beq_iff_eq.mpr h
   simp only[List.lookup,H,Gw h]
  ·have H:(g==f)=false:=beq_eq_false_iff_ne.mpr h
   simp only[List.lookup,H,GG h]
 | (k,x)::r=>by
  have i:=Jq f g v r
  rw[show dX f v ((k,x)::r)=(if k=f then (k,v)::r else (k,x)::dX f v r) from Z]
  by_cases a:k=f
  ·rw[Gw a]
   by_cases h:g=k
   ·have H:(g==k)=true:=beq_iff_eq.mpr h
    simp only[List.lookup,H,Gw (h.trans a)]
   ·have H:(g==k)=false:=beq_eq_false_iff_ne.mpr h
    simp only[List.lookup,H,GG (λe:g=f=>h (e.trans a.symm))]
  ·rw[GG a]
   by_cases h:g=k
   ·have H:(g==k)=true:=beq_iff_eq.mpr h
    simp only[List.lookup,H,GG (λe:g=f=>a (h.symm.trans e))]
   ·have H:(g==k)=false:=beq_eq_false_iff_ne.mpr h
    simp only[List.lookup,H]
    exact i
theorem Jh(f:Str)(v:V):∀F:List (Str×V),f∈(dX f v F).map (·.1)/\∀g,g∈F.map (·.1)->g∈(dX f v F).map (·.1)
 | []=>#[by simp [dX],λg h=>by simp at h]
 | (k,x)::r=>by
  obtain⟨i,I⟩:=Jh f v r
  rw[show dX f v ((k,x)::r)=(if k=f then (k,v)::r else (k,x)::dX f v r) from Z]
  by_cases H:k=f
  ·rw[Gw H]
   subst H
   exact#[P5,λg h=>by simpa using h]
  ·rw[GG H]
   refine#[?_,λg h=>?_]
   ·rw[HS]
    exact GJ _ i
   ·rw[HS]at h ⊢
    rcases List.mem_cons.mp h with e |e
    ·exact List.mem_cons.mpr (.inl e)
    ·exact GJ _ (I g e)
theorem Jr(f:Str)(v:V):∀F:List (Str×V),(dX f v F).length<=F.length+1
 | []=>by simp [dX]
 | (k,x)::r=>by
  have i:=Jr f v r
  rw[show dX f v ((k,x)::r)=(if k=f then (k,v)::r else (k,x)::dX f v r) from Z]
  by_cases h:k=f
  ·rw[Gw h,GX,GX];omega
  ·rw[GG h,GX,GX];omega
theorem dJ.some_of{v:V}{o:Option Value}(r:dJ (some v) o):∃u,o=some u/\aC v u:=by
 cases o with
 |none=>exact(show False from r).elim
 |some u=>exact#[u,Z,r]
theorem dJ.none_of(r:dJ none o):o=none:=by
 cases o with
 |none=>rfl
 |some u=>exact(show False from r).elim
theorem Zt(r:aC v u):PySem.W.handedIn u=true:=by
 cases v with
 |non=>cases (show u=Value.none from r);rfl
 |bl b=>cases (show u=Value.bool b from r);rfl
 |int i=>obtain⟨t,e⟩:=(show ∃t,u=Value.int i t from r);cases e;rfl
 |str x=>obtain⟨t,e⟩:=(show ∃t,u=Value.str x t from r);cases e;rfl
 |byt b=>obtain⟨t,e⟩:=(show ∃t,u=Value.bytes b t from r);cases e;rfl
 |flt b=>obtain⟨t,e⟩:=(show ∃t,u=Value.float b t from r);cases e;rfl
 |ref a=>cases (show u=Value.ref a from r);rfl
 |ty n=>cases (show u=Value.type n from r);rfl
section
variable {P:Program}{w:World}{H H':Hp}{h h':Heap}{a C dx:Addr}{fs fs':List (Str×V)}
theorem JF(b:eF P w H h)(e:H a=some (.ins C dx fs)):∃m,mH h a dx C m/\(∀f,dJ (fs.lookup f) (m f))/\PySem.Within m (fs.map (·.1))/\fs.length<=1000/\H dx=some (.own a):=by
 obtain⟨d,z,N,o,m,n,r,q⟩:=(show aK P w H h a (.ins C dx fs) from b a _ e)
 exact#[m,#[o,n,N],r,q,z,d]
end
structure ou(K:Frag)(C:Addr):Prop where
 pg:plainGet K C Str.empty=true
 hd:hasDictIn K C=true
 po:PySem.W.plainOver K C=true
 sa:findIn K (.ref C) "__setattr__"=some (some (.builtin "object.__setattr__"))
theorem ou.get{K:Frag}(c:ou K C)(f:Str):plainGet K C f=true:=c.pg
def aV(K:Frag)(C:Addr)(f:Str):Prop:=findIn K (.ref C) f=some none
theorem aV.taker{K:Frag}(n:aV K C f):PySem.W.takerIn K C f=some none:=by
 unfold PySem.W.takerIn
 rw[show findIn K (.ref C) f=some none from n]
 rfl
structure a5(K:Frag)(C:Addr)(m:Str)(f:Addr):Prop where
 at_:findIn K (.ref C) m=some (some (.ref f))
 fn:isFn K (.ref f)=true
 kp:keepIn K (.ref f)=true
section
variable {X:Cx}{pins:List (Addr×Obj)}{σ:St}{H:Hp}{s:Shared}{a C dx:Addr}{fs:List (Str×V)}{f:Str}{v:V}{A:Around}{E:Value->Shared->Prop}
theorem Kq{Q:Value->Shared->Prop}(I:ap X pins σ H s)(e:H a=some (.ins C dx fs))(c:ou X.K C)(n:aV X.K C f)(l:fs.lookup f=some v)
  (h:∀u S,ap X pins σ H S->aC v u->Q u S):wpAny (model X.prog X.w) A (getAttr (.ref a) f b) Q E s:=by
 obtain⟨m,O,r,_,_,_⟩:=JF I.hok e
 obtain⟨u,d,R⟩:=dJ.some_of (v:=v) (o:=m f) (by rw[<- l];exact r f)
 exact vq I.kIn O (c.get f) c.hd n d (Zt R) (h u _ (I.tok _) R)
theorem Kr{Q:Value×List Value->Shared->Prop}(I:ap X pins σ H s)(e:H a=some (.ins C dx fs))(c:ou X.K C)(k:a5 X.K C m g)(l:fs.lookup m=none)
  (h:Q (.ref g,[.ref a]) s):wpAny (model X.prog X.w) A (getMethod (.ref a) m p) Q E s:=by
 obtain⟨M,O,r,_,_,_⟩:=JF I.hok e
 have b:M m=none:=dJ.none_of (by rw[<- l];exact r m)
 exact pP I.kIn O (c.get m) k.at_ k.fn b h
theorem Ks{Q:Unit->Shared->Prop}(I:ap X pins σ H s)(e:H a=some (.ins C dx fs))(c:ou X.K C)(n:aV X.K C f)(F:fs.length < 1000)(R:aC y u)
  (h:∀S,ap X pins σ (af H a (.ins C dx (dX f y fs))) S->Q () S):wpAny (model X.prog X.w) A (setAttr (.ref a) f u) Q E s:=by
 obtain⟨m,O,r,W,_,i⟩:=JF I.hok e
 have j:(fs.map (·.1)).length<=sizeLine:=by rw[Gg,Mr];omega
 refine wW I.kIn O c.sa c.po n.taker c.hd W j λk d l=>h _ ?_
 have p:∃o,k.get? dx=some o:=let #[o,_,_,t,_]:=d.ns;#[o,t]
 refine I.write (x:=a) (e:=dx) (by rw[e];exact True.intro) (.inr i) (λb q B z=>(l.2 b B).trans z) p ?_
 refine#[by rw[ji O.ne];exact i,?_,O.ne,d.obj,_,d.ns,λg=>?_,λg D=>?_]
 ·have:=Jr f y fs;omega
 ·show dJ ((dX f y fs).lookup g) (if g=f then some u else m g)
  rw[Jq]
  by_cases q:g=f
  ·rw[Gw q,Gw q];exact R
  ·rw[GG q,GG q];exact r g
 ·by_cases q:g=f
  ·rw[q];exact(Jh f y fs).1
  ·refine(Jh f y fs).2 g (W g λz=>D ?_)
   show(if g=f then some u else m g)=none
   rw[GG q];exact z
theorem ap.made(I:ap X pins σ H s):ap X pins σ (af (af H s.heap.objs.size (.own (s.heap.objs.size+1))) (s.heap.objs.size+1) (.ins C s.heap.objs.size []))
  { s with heap:=(s.heap.push emptyDict).push (instObj C s.heap.objs.size) }:=by
 have c:(s.heap.push emptyDict).get? s.heap.objs.size=some emptyDict:=Gm s.heap Z
 have d:((s.heap.push emptyDict).push (instObj C s.heap.objs.size)).get? (s.heap.objs.size+1)=some (instObj C s.heap.objs.size):=by
  have:=Gm (s.heap.push emptyDict) (o:=instObj C s.heap.objs.size) Z
  rwa [Hl]at this
 have g:(s.heap.push emptyDict).Ns s.heap.objs.size (λ_=>none):=#[emptyDict,(List.toArray []),_,c,Z,(λe h=>absurd h P5),λ_=>Z]
 have i:=I.laid (a:=s.heap.objs.size) (o:=.own (s.heap.objs.size+1)) (h':=s.heap.push emptyDict) (t':=s.toks) (λb u q=>Gf _ q) (Gh _) #[_,c]
 refine i.laid (a:=s.heap.objs.size+1) (o:=.ins C s.heap.objs.size []) (t':=s.toks) (λb u q=>Gf _ q) (MD (Hl _ _)) ?_
 have n:s.heap.objs.size≠s.heap.objs.size+1:=Go (HR _)
 refine#[by rw[ji n,jc],Gp _,n,d,λ_=>none,(Heap.Ns1.of_empty g).at λo q=>Gf _ q,λ_=>True.intro,λy j=>absurd Z j]
theorem uY{f:Str}{s:Shared}(c:attributeBase e f b (eval e b)=eval e b)
  (h:wpAny (model p w) A (eval e b) (λo S=>wpAny (model p w) A (getAttr o f true) Q E S) E s):wpAny (model p w) A (eval (.Attribute e f d) b) Q E s:=
 Attribute_any_ h (by rw[arm_eval_Attribute,c])
end
inductive yl(K:Frag)(f:Str)(Q:VK)(x:V)(b:Hp):Prop
 |mk(a C c d v:_)(_:x= .ref a)(_:b a=some (.ins C c d))(_:ou K C)(_:aV K C f)(_:d.lookup f=some v)(_:Q v b)
def ES(K:Frag)(t:TE)(f:Str):TE:=λa H Q=>t a H (yl K f Q)
inductive yd(K:Frag)(f:Str)(D:a9)(e:St)(y x:V)(b:Hp):Prop
 |mk(a C c d:_)(_:x= .ref a)(_:b a=some (.ins C c d))(_:ou K C)(_:aV K C f)(_:d.length < 1000)(_:D.nx e (af b a (.ins C c (dX f y d))))
def EF(K:Frag)(t T:TE)(f:Str):TS:=λD a H=>T a H λy h=>t a h (yd K f D a y)
def Cb(X:Cx)(o:Operator)(r:V->V->Hp->VK->Prop):Prop:=
 ∀(p:List (Addr×Obj)) (s:Shared) (a:St) (H:Hp) (x y:V) (u v:Value) (Q:VK),ap X p a H s->aC x u->aC y v->r x y H Q->wpAny (model X.prog X.w) X.A (inplaceOp o u v) (EP X p a Q) X.xe s
inductive lO(K:Frag)(g:TE)(e:V->V->Hp->VK->Prop)(f:Str)(D:a9)(h:St)(x:V)(b:Hp):Prop
 |mk(a C c d v:_)(_:x= .ref a)(_:b a=some (.ins C c d))(_:ou K C)(_:aV K C f)(_:d.lookup f=some v)(_:g h b λy H2=>e v y H2 λz H3=>∃dx' fs',H3 a=some (.ins C dx' fs')/\fs'.length < 1000/\D.nx h (af H3 a (.ins C dx' (dX f z fs'))))
def wJ(K:Frag)(t T:TE)(r:V->V->Hp->VK->Prop)(f:Str):TS:=λD a H=>t a H (lO K T r f D a)
section
variable {X:Cx}{o e value:Expr}{f:Str}{pos pos' tpos:Pos}{ta tv:TE}
theorem kM(b:PE X e ta)(d:attributeBase e f X.env (eval e X.env)=eval e X.env):PE X (.Attribute e f pos) (ES X.K ta f):=by
 intro p s g H Q I h
 refine uY d (aQ (b p s g H _ I h) λu S z=>?_)
 obtain⟨x,i,j,r,a,C,D,F,v,E,k,c,n,l,q⟩:=z
 subst E
 obtain rfl:u=Value.ref a:=r
 exact Kq j k c n l λU t m R=>#[v,i,m,R,q]
theorem zW(d:PE X o ta)(g:PE X value tv)(i:swapsWith value (some (.Attribute o f pos')) pos.line X.env=pure false):PS X (.Assign [.Attribute o f pos'] value pos) (EF X.K ta tv f):=by
 intro p s b H D I h
 refine plainObj_wpAny_Assign_Attribute (aQ (g p s b H _ I h) λu S #[y,j,k,r,q]=>aQ (d p S b j _ k q) λO w z=>?_) i
 obtain⟨x,A,m,R,a,C,B,F,E,t,c,n,l,Q⟩:=z
 subst E
 obtain rfl:O=Value.ref a:=R
 exact Ks m t c n l r λG v=>#[b,_,v,Q]
theorem Zu{O:Operator}{r:V->V->Hp->VK->Prop}(i:PE X o ta)(j:PE X value tv)(g:Cb X O r):PS X (.AugAssign (.Attribute o f tpos) O value pos) (wJ X.K ta tv r f):=by
 intro p s d H D I h
 refine wpAny_AugAssign_AttributeAny (aQ (i p s d H _ I h) λk s1 b=>?_)
 obtain⟨x,m,t,R,a,C,dx,fs,v,w,A,c,n,l,q⟩:=b
 subst w
 obtain rfl:k=Value.ref a:=R
 refine Kq t A c n l λu S B F=>aQ (j p S d m _ B q) λW G #[y,J,L,M,Q]=>aQ (g p G d J v y u W _ L F M Q) λw4 s4 b=>?_
 obtain⟨z,H3,N,P,T,U,E,Y,q4⟩:=b
 exact Ks N E c n Y P λs5 I5=>#[d,_,I5,q4]
inductive Dn(x y:V)(H:Hp)(Q:VK):Prop
 |mk(i j:_)(_:x= .int i)(_:y= .int j)(_:Q (.int (i+j)) H)
theorem yS:Cb X .Add Dn:=by
 rintro p s a H x y u v Q I r R ⟨i,j,rfl,rfl,q⟩
 obtain⟨t,rfl⟩:=(show ∃t,u=Value.int i t from r)
 obtain⟨T,rfl⟩:=(show ∃T,v=Value.int j T from R)
 exact Pt #[.int (i+j),H,I.tok _,#[_,Z],q]
end
section
variable {X:Cx}{pins:List (Addr×Obj)}{σ:St}{H:Hp}{s:Shared}{A:Around}{E:Value->Shared->Prop}{Q:Value->Shared->Prop}{c:Value}{b:Bool}
inductive gq(K:Frag)(H:Hp):V->Value->Prop where
 |non:gq K H .non (.type "NoneType")
 |bl (x:Bool):gq K H (.bl x) (.type "bool")
 |int (i:Int):gq K H (.int i) (.type "int")
 |str (x:Str):gq K H (.str x) (.type "str")
 |flt (x:UInt64):gq K H (.flt x) (.type "float")
 |lst {a:Addr} {xs:List V} (e:H a=some (.lst xs)):gq K H (.ref a) (.type "list")
 |frz {a:Addr} {o:Obj} {xs:List V} (e:H a=some (.frz o (.lst xs))):gq K H (.ref a) (.type "list")
 |tup {a:Addr} {xs:List V} (e:H a=some (.tup xs)):gq K H (.ref a) (.type "tuple")
 |dK {a:Addr} {kvs:List (bh×V)} (e:H a=some (.dK kvs)):gq K H (.ref a) (.type "dict")
 |dT {a:Addr} {kvs:List (List bh×V)} (e:H a=some (.dT kvs)):gq K H (.ref a) (.type "dict")
 |ins {a C dx:Addr} {fs:List (Str×V)} (e:H a=some (.ins C dx fs)) (cl:ou K C) (ha:findIn K (.ref C) "__class__"=some (some (.builtin "object.__class__")))
   (hn:specialIn K (.builtin "object.__class__") "__get__"=some (some (.builtin "getset_descriptor.__get__"))) (htk:PySem.W.takesIn K (.builtin "object.__class__")=some true)
   (hm:mroIn K C (.type "object")=some true):gq K H (.ref a) (.ref C)
theorem Zv(I:ap X pins σ H s)(r:aC x u)(T:gq X.K H x t)(e:kitOne X.K t c=some b)(h:∀v,Q (.bool b) { s with toks:=v }):
  wpAny (model X.prog X.w) A (call (.builtin "isinstance") [u,c]) Q E s:=by
 cases T with
 |non=>cases (show u=Value.none from r);exact Lr PySem.W.kitx_none I.kIn True.intro e (λz=>nomatch z) h
 |bl y=>cases (show u=Value.bool y from r);exact Lr PySem.W.kitx_bool I.kIn True.intro e (λz=>nomatch z) h
 |int i=>obtain⟨t,q⟩:=(show ∃t,u=Value.int i t from r);cases q;exact Lr PySem.W.kitx_int I.kIn True.intro e (λz=>nomatch z) h
 |str y=>obtain⟨t,q⟩:=(show ∃t,u=Value.str y t from r);cases q;exact Lr PySem.W.kitx_str I.kIn True.intro e (λz=>nomatch z) h
 |flt y=>obtain⟨t,q⟩:=(show ∃t,u=Value.float y t from r);cases q;exact Lr PySem.W.kitx_float I.kIn True.intro e (λz=>nomatch z) h
 | @lst a g d=>
  cases (show u=Value.ref a from r)
  obtain⟨_,_,n,_,f⟩:=(show aK X.prog X.w H s.heap a (.lst g) from I.hok a _ d)
  exact Lr Nx I.kIn #[_,f,Z] e (λz=>nomatch z) h
 | @frz a B g d=>
  cases (show u=Value.ref a from r)
  obtain⟨_,_,_,n,_,f⟩:=(show aK X.prog X.w H s.heap a (.frz B (.lst g)) from I.hok a _ d)
  exact Lr Nx I.kIn #[_,f,Z] e (λz=>nomatch z) h
 | @tup a g d=>
  cases (show u=Value.ref a from r)
  obtain⟨_,_,_,p⟩:=(show aK X.prog X.w H s.heap a (.tup g) from I.hok a _ d)
  obtain⟨o,f,j,_⟩:=p
  exact Lr PySem.W.kitx_tuple I.kIn #[o,f,j] e (λz=>nomatch z) h
 | @dK a k d=>
  cases (show u=Value.ref a from r)
  obtain⟨_,_,V,_,p⟩:=(show aK X.prog X.w H s.heap a (.dK k) from I.hok a _ d)
  obtain⟨o,D,F,f,j,_⟩:=p
  exact Lr Ny I.kIn #[o,f,j.1] e (λz=>nomatch z) h
 | @dT a k d=>
  cases (show u=Value.ref a from r)
  obtain⟨_,_,g,_,o,D,F,f,j,_⟩:=(show aK X.prog X.w H s.heap a (.dT k) from I.hok a _ d)
  exact Lr Ny I.kIn #[o,f,j.1] e (λz=>nomatch z) h
 | @ins a C N P d m G L l M=>
  cases (show u=Value.ref a from r)
  obtain⟨R,O,_⟩:=JF I.hok d
  obtain⟨S,J,_⟩:=O.look
  exact Lr (PySem.W.kitx_own (m.get _) m.hd G L l M) I.kIn J e (λz=>nomatch z) h
end
structure bH(k:Nat)(A:Around):Prop where
 hd:A.handled=none
 dp:A.depth+3*k+5 < recursionLimit
 un:A.units+16*k+200 < cLine
theorem bH.mono(r:bH k A)(h:j<=k):bH j A:=#[r.hd,by have:=r.dp;omega,by have:=r.un;omega]
theorem bH.deeper(r:bH (k+1) A)(e:Env):bH k (A.deeper e):=
 #[r.hd,by have:=r.dp;show A.depth+1+3*k+5 < _;omega,by have:=r.un;show A.units+3+16*k+200 < _;omega]
theorem X7{A:Around}:(A.under (.builtin "type.__call__" #[.ref C::u,k])).depth=A.depth+1:=by
 first |rfl |simp [Around.under,Code.weight,Code.isCreation,Code.isGuard,Code.isCaller,Code.frames,Code.isFrame,guardIds]
theorem X8{A:Around}:(A.under (.builtin "type.__call__" #[.ref C::u,k])).units=A.units+1:=by
 first |rfl |simp [Around.under,Code.cUnits,Code.frames,Code.isFrame]
theorem bH.make(r:bH (k+1) A)(C:Addr)(u:List Value)(K:List (Str×Value)):bH k (A.under (.builtin "type.__call__" #[.ref C::u,K])):=
 #[r.hd,by have:=r.dp;rw[X7];omega,by have:=r.un;rw[X8];omega]
theorem bH.depth(r:bH k A):A.depth < recursionLimit:=by have:=r.dp;omega
theorem bH.units(r:bH k A):A.units+64 < cLine:=by have:=r.un;omega
def aO:TA:=λ_ H Q=>Q [] H
def am(t:TE)(T:TA):TA:=λa H Q=>t a H λx h=>T a h λX b=>Q (x::X) b
section
variable {X:Cx}{e:Expr}{es:List Expr}{te:TE}{t:TA}{pos:Pos}
theorem jb:PA X [] aO:=λ_ _ _ _ H Q I h=>II #[[],H,I,.nil,h]
theorem ja(b:PE X e te)(c:PA X es t)(d:starEach (e::es) X.env=(false,eval e X.env)::starEach es X.env:=by rfl):PA X (e::es) (am te t):=by
 intro pos p s a H Q I h
 rw[d]
 show wpAny _ _ (spliced ((false,eval e X.env)::backTo pos (starEach es X.env))) _ _ s
 refine Im (aQ (b p s a H _ I h) λu S z=>?_)
 obtain⟨x,f,i,r,q⟩:=z
 exact aQ (c pos p S a f _ i q) λU m #[g,j,k,R,l]=>#[x::g,j,k,.cons r R,l]
def bX(t:TA):TE:=λa H Q=>t a H λx h=>x.length<=sizeLine/\∀p,h p=none->Q (.ref p) (af h p (.tup x))
def mj(t:TA):TE:=λa H Q=>t a H λx h=>x.length<=sizeLine/\∀p,h p=none->Q (.ref p) (af h p (.lst x))
theorem jh{x}(h:PA X es t):PE X (.Tuple es x pos) (bX t):=by
 intro p s c H Q I d
 refine wpAny_Tuple_spliced (aQ (h pos p s c H _ I d) λU S #[f,a,i,r,z,q]=>#[by rw[<- r.length];exact z,?_])
 have g:a S.heap.objs.size=none:=i.hok.fresh (Gh _)
 refine#[.ref S.heap.objs.size,af a S.heap.objs.size (.tup f),i.laid (t':=S.toks) (λb u e=>Gf _ e) (Gh _) ?_,Z,q _ g]
 exact#[z,U,r,#[_,Gm _ Z,Z,_,Z]]
theorem jF(h:PA X es t):PE X (.List es pos) (mj t):=by
 intro p s c H Q I d
 refine wpAny_List_spliced (aQ (h pos p s c H _ I d) λU S #[x,a,i,r,z,q]=>#[by rw[<- r.length];exact z,?_])
 have f:a S.heap.objs.size=none:=i.hok.fresh (Gh _)
 refine#[.ref S.heap.objs.size,af a S.heap.objs.size (.lst x),i.laid (t':=S.toks) (λb u e=>Gf _ e) (Gh _) ?_,Z,q _ f]
 exact#[z,U,0,r,Gm _ Z]
end
abbrev Sp:=List V->Hp->VK->XK->Prop
abbrev nB:=List Env->Hp->Shared->XK->Value->Shared->Prop
structure mz(P:Program)(w:World)(K:Frag)(mg:Str->Option Value)(base:Heap)(A:Around)(outer:List Env)(s:Shared)(H:Hp):Prop where
 frames:A.frames=some outer
 mod:Mod K mg base
 bs:∀b o,base.get? b=some o->s.heap.get? b=some o/\H b=none
 bsz:base.objs.size<=s.heap.objs.size
 funs:s.heap.FunFrames base outer
 frf:∀b∈iH outer,H b=none
 hok:eF P w H s.heap
 bare:AllBare s.gens
def CE(o:List Env)(P:Program)(w:World)(H:Hp)(s:Shared)(Q:VK)(u:Value)(S:Shared):Prop:=
 ∃v h,S.os=s.os/\AllBare S.gens/\Un (iH o) [] H h s.heap S.heap/\eF P w h S.heap/\aC v u/\Q v h
def CR(C:nB)(o:List Env)(P:Program)(w:World)(H:Hp)(s:Shared)(Q:VK)(E:XK)(r:Result)(S:Shared):Prop:=
 match r with
 | .ok (.ret u)=>CE o P w H s Q u S
 | .ok _=>False
 | .error e=>C o H s E e S
structure ah(P:Program)(w:World)(K:Frag)(mg:Str->Option Value)(base:Heap)(CX:nB)(k:Nat)(f:Addr)(fd:FuncData)(ps:List Str)(sp:Sp):Prop where
 len:∀vs H Q E,sp vs H Q E->vs.length=ps.length
 run:∀(A:Around) (outer:List Env) (s:Shared) (H:Hp) (args:Args) (us:List Value) (vs:List V) (Q:VK) (E:XK),bH k A->mz P w K mg base A outer s H->BindsTo s fd args (ps.zip us)->ax vs us->sp vs H Q E->
  codeAny (model P w) A (.call (.ref f) args) (CR CX outer P w H s Q E) s
theorem ah.imp{P:Program}{K:Frag}{S:Sp}(F:ah P w K m b C k f c p d)
  (h:∀v H Q E,S v H Q E->d v H Q E):ah P w K m b C k f c p S:=
 #[λv H Q E q=>F.len v H Q E (h _ _ _ _ q),λA o s H a u v Q E e g i j l=>F.run A o s H a u v Q E e g i j (h _ _ _ _ l)]
theorem mz.make{P:Program}{K:Frag}(e:mz P w K m b A o s H)(C:Addr)(u:List Value)(k:List (Str×Value)):
  mz P w K m b (A.under (.builtin "type.__call__" #[.ref C::u,k])) o s H:=#[by first |exact e.frames | (simpa [Around.under,Code.envs,Code.isFrame,pushEnvs] using e.frames),e.mod,e.bs,e.bsz,e.funs,e.frf,e.hok,e.bare]
section
variable {X:Cx}{pins:List (Addr×Obj)}{σ:St}{H:Hp}{s s':Shared}
theorem ap.env0(I:ap X pins σ H s):mz X.prog X.w X.K X.mg X.base X.A X.stack s H:=
 #[I.ok.frames,I.ok.mod,I.bs,Gr I.ok.bsz I.sz,I.stack,I.stkFree,I.hok,I.bare]
theorem ap.after(I:ap X pins σ H s)(h:CE X.stack X.prog X.w H s Q u s'):EP X pins σ Q u s':=by
 obtain⟨v,c,os,B,U,a,r,q⟩:=h
 obtain⟨e,g,d,t,o⟩:=s'
 obtain rfl:o=s.os:=os
 exact#[v,c,I.call (h':=e) (g':=g) (d':=d) (t':=t) (ch:=[]) U a B (λb z=>absurd z P5),r,q]
end
def dF(s:Sp)(d:List V)(E:XK)(t:TA):TE:=λa H Q=>t a H λv h=>s (v++d) h Q E
inductive tY(C:Addr)(m:Str)(f:Sp)(b:List V)(E:XK)(t:TA)(g:St)(Q:VK)(x:V)(c:Hp):Prop
 |mk(a d e:_)(_:x= .ref a)(_:c a=some (.ins C d e))(_:e.lookup m=none)(_:t g c λvs H2=>f (x::(vs++b)) H2 Q E)
def tX(C:Addr)(m:Str)(s:Sp)(d:List V)(E:XK)(T:TE)(t:TA):TE:=λa H Q=>T a H (tY C m s d E t a Q)
def DU(C:Addr)(s:Sp)(D:List V)(E:XK)(t:TA):TE:=λa H Q=>t a H λb h=>∀x d,h x=none->h d=none->d≠x->
 s (.ref x::(b++D)) (af (af h d (.own x)) x (.ins C d [])) (λv c=>v= .non/\Q (.ref x) c) E
def au(K:Frag)(f:FuncData)(p:List Str)(d:List Value):Prop:=
 ∀(s:Shared) (u:List Value),K.In s.heap->(u++d).length=p.length->BindsTo s f #[u,[]] (p.zip (u++d))
theorem au.all{K:Frag}{p:List Str}(h:∀u:List Value,u.length=p.length->bindArgs f #[u,[]]=pure (p.zip u)):au K f p []:=λs u _ H=>by
 rw[LZ]at H ⊢
 exact .of_eq (h u H)
def dj(C:nB)(X:Cx)(E:XK):Prop:=∀(p:List (Addr×Obj)) (a:St) (H:Hp) (s:Shared) (e:Value) (S:Shared),ap X p a H s->C X.stack H s E e S->X.xe e S
section
variable {X:Cx}{CX:nB}{k:Nat}{f C:Addr}{fd:FuncData}{ps:List Str}{sp:Sp}{dvs:List V}{ds:List Value}{E:XK}{x m:Str}{p pos apos:Pos}{e o:Expr}{es:List Expr}{ta:TE}{t:TA}
theorem QC{us:List Value}{vs:List V}(F:ah X.prog X.w X.K X.mg X.base CX k f fd ps sp)(d:bH k X.A)(g:au X.K fd ps ds)(i:ax dvs ds)(j:dj CX X E)
  (I:ap X a c H s) (r:ax vs us) (h:sp (vs++dvs) H Q E):wpAny (model X.prog X.w) X.A (call (.ref f) us) (EP X a c Q) X.xe s:=by
 have R:ax (vs++dvs) (us++ds):=r.append i
 have l:(us++ds).length=ps.length:=by rw[<- R.length];exact F.len _ _ _ _ h
 refine Nt (IK (F.run X.A X.stack s H #[us,[]] (us++ds) (vs++dvs) Q E d I.env0 (g s us I.kIn l) R h) λr S b=>?_)
 cases r with
 |error e=>exact j a c H s e S I b
 |ok n=>
  cases n with
  |ret u=>exact I.after b
  |next=>exact False.elim b
  |brk=>exact False.elim b
  |cont=>exact False.elim b
theorem kC(F:ah X.prog X.w X.K X.mg X.base CX k f fd ps sp)(c:bH k X.A)(d:Gl X x)(g:X.mg x=some (.ref f))(j:keepIn X.K (.ref f)=true)(l:au X.K fd ps ds)(n:ax dvs ds)(u:dj CX X E)
  (v:PA X (e::es) t) (a:(x==("__debug__":Str))=false:=by decide) (y:starEach (e::es) X.env=(false,eval e X.env)::starEach es X.env:=by rfl) (b:(backTo pos (starEach es X.env)).any (·.1)=false:=by rfl):
  PE X (.Call (.Name x p) (e::es) [] pos) (dF sp dvs E t):=by
 intro P s z H Q I h
 refine Hu (zJ I d g ?_ a)
 refine MJ (h₀:=X.base) I.ok.mod.kin j (aQ (v pos P s z H _ I h) λU S #[B,D,i,r,q]=>#[i.kIn,?_]) y b
 exact QC F c l n u i r q
theorem j4(v:PE X o ta)(c:ou X.K C)(g:a5 X.K C m f)(F:ah X.prog X.w X.K X.mg X.base CX k f fd ps sp)(y:bH k X.A)(B:au X.K fd ps ds)(D:ax dvs ds)(G:dj CX X E)(J:PA X (e::es) t)
  (b:starEach (e::es) X.env=(false,eval e X.env)::starEach es X.env:=by rfl) (d:(backTo pos (starEach es X.env)).any (·.1)=false:=by rfl)
  (L:eval (.Call (.Attribute o m apos) (e::es) [] pos) X.env=(do
   let O <- eval o X.env
   standAt apos.atName
   let (f,first) <- holding [O] (getMethod O m pl)
   callWith pos f first (backTo pos (starEach (e::es) X.env)) (backToKw pos (keywordEach [] X.env))):=by rfl):
  PE X (.Call (.Attribute o m apos) (e::es) [] pos) (tX C m sp dvs E ta t):=by
 intro P s i H Q I h
 refine LD (pl:=pl) (aQ (v P s i H _ I h) λu S z=>?_) L
 obtain⟨x,M,j,R,a,W,Y,N,T,l,q⟩:=z
 subst N
 obtain rfl:u=Value.ref a:=R
 refine Kr j T c g l ?_
 refine MJ (first:=[.ref a]) (h₀:=X.base) I.ok.mod.kin g.kp (aQ (J pos P S i M _ j q) λus s2 #[vs,H2,n,r,U]=>#[n.kIn,?_]) b d
 exact QC (us:=.ref a::us) (vs:=.ref a::vs) F y B D G n (.cons Z r) U
theorem Xc(d:PE X o ta)(c:ou X.K C)(b:a5 X.K C m f)(F:ah X.prog X.w X.K X.mg X.base CX k f fd ps sp)(g:bH k X.A)(j:au X.K fd ps ds)(n:ax dvs ds)(r:dj CX X E)
  (v:eval (.Call (.Attribute o m apos) [] [] pos) X.env=(do
   let O <- eval o X.env
   standAt apos.atName
   let (f,first) <- holding [O] (getMethod O m pl)
   callWith pos f first (backTo pos (starEach [] X.env)) (backToKw pos (keywordEach [] X.env))):=by rfl):
  PE X (.Call (.Attribute o m apos) [] [] pos) (tX C m sp dvs E ta aO):=by
 intro P s y H Q I h
 refine LD (pl:=pl) (aQ (d P s y H _ I h) λu S z=>?_) v
 obtain⟨x,G,i,R,a,J,L,B,D,l,q⟩:=z
 subst B
 obtain rfl:u=Value.ref a:=R
 refine Kr i D c b l ?_
 exact Ni (first:=[.ref a]) i.kIn b.kp (QC (us:=[.ref a]) (vs:=[.ref a]) F g j n r i (.cons Z .nil) q)
structure Mk(K:Frag)(C f:Addr):Prop where
 makes:PySem.W.makesIn K C=true
 init:findIn K (.ref C) "__init__"=some (some (.ref f))
 fn:isFn K (.ref f)=true
 kp:keepIn K (.ref C)=true
theorem su(M:Mk X.K C f)(F:ah X.prog X.w X.K X.mg X.base CX k f fd ps sp)(l:bH (k+1) X.A)(n:au X.K fd ps ds)(q:ax dvs ds)
  (y:dj CX X E) (I:ap X b c H s) (r:ax g U)
  (h:∀x d,H x=none->H d=none->d≠x->sp (.ref x::(g++dvs)) (af (af H d (.own x)) x (.ins C d [])) (λv z=>v= .non/\Q (.ref x) z) E):
  wpAny (model X.prog X.w) X.A (call (.ref C) U) (EP X b c Q) X.xe s:=by
 have j:=h (s.heap.objs.size+1) s.heap.objs.size (I.hok.fresh (Ic _)) (I.hok.fresh (Gh _)) (Go (HR _))
 have i:=ap.made (C:=C) I
 have R:ax (V.ref (s.heap.objs.size+1)::(g++dvs)) (Value.ref (s.heap.objs.size+1)::(U++ds)):=.cons Z (r.append q)
 have B:(Value.ref (s.heap.objs.size+1)::U++ds).length=ps.length:=by
  have e:=R.length
  rw[F.len _ _ _ _ j]at e
  exact e.symm
 refine Nt (rg (f:=f) I.kIn M.makes M.init (beq_iff_eq.mp M.fn) (IK (F.run _ X.stack _ _ #[Value.ref (s.heap.objs.size+1)::U,[]] (Value.ref (s.heap.objs.size+1)::(U++ds)) _ _ E (l.make C U [])
  (i.env0.make C U []) (n _ (Value.ref (s.heap.objs.size+1)::U) i.kIn B) R j) λr S a=>?_))
 cases r with
 |error e=>exact y b c _ _ e S i a
 |ok D=>
  cases D with
  |ret u=>
   obtain⟨v,G,J,L,N,O⟩:=i.after a
   subst N
   exact#[L,#[V.ref (s.heap.objs.size+1),G,J,Z,O]]
  |next=>exact False.elim a
  |brk=>exact False.elim a
  |cont=>exact False.elim a
theorem QN(M:Mk X.K C f)(F:ah X.prog X.w X.K X.mg X.base CX k f fd ps sp)(c:bH (k+1) X.A)(d:Gl X x)(g:X.mg x=some (.ref C))(j:au X.K fd ps ds)(l:ax dvs ds)(n:dj CX X E)
  (u:PA X (e::es) t) (a:(x==("__debug__":Str))=false:=by decide) (v:starEach (e::es) X.env=(false,eval e X.env)::starEach es X.env:=by rfl) (b:(backTo pos (starEach es X.env)).any (·.1)=false:=by rfl):
  PE X (.Call (.Name x p) (e::es) [] pos) (DU C sp dvs E t):=by
 intro P s y H Q I h
 refine Hu (zJ I d g ?_ a)
 refine MJ (h₀:=X.base) I.ok.mod.kin M.kp (aQ (u pos P s y H _ I h) λU S #[z,B,i,r,q]=>#[i.kIn,?_]) v b
 exact su M F c j l n i r q
end
structure aj(N P:List Str)(sc:Scope):Prop where
 kind:sc.kind= .function
 co:sc.isCoroutine=false
 gen:sc.isGenerator=false
 nd:N.Nodup
 pre:N.take P.length=P
 par:∀x∈P,sc.names.lookup x=some .local∨sc.names.lookup x=some .cell
 nofree:∀y∈sc.names,y.2≠ .free
theorem Qb{kindOf:Str->Option NameKind}:∀{b:List (Str×Value)} {m:Str->Option Value},(∀v,(x,v)∉b)->bindL kindOf b m x=m x
 | [],_,_=>rfl
 | (n,v)::r,m,h=>by
  unfold bindL
  rw[Qb λw H=>h w (GJ _ H)]
  split
  ·have:x≠n:=by rintro rfl;exact h v GF
   simp [this]
  ·rfl
theorem Qc{kindOf:Str->Option NameKind}:∀{b:List (Str×Value)} {m:Str->Option Value},(∀v,(x,v)∉b)->bindC kindOf b m x=m x
 | [],_,_=>rfl
 | (n,v)::r,m,h=>by
  unfold bindC
  rw[Qc λw H=>h w (GJ _ H)]
  split
  ·rfl
  ·have:x≠n:=by rintro rfl;exact h v GF
   simp [this]
theorem Qd{kindOf:Str->Option NameKind}:∀{P:List Str} {V:List Value} {i:Nat} {m:Str->Option Value},P.Nodup->P[i]?=some x->V[i]?=some v->kindOf x=some .local->
  bindL kindOf (P.zip V) m x=some v
 | [],_,_,_,_,h,_,_=>by simp at h
 |_::_,[],_,_,_,_,h,_=>by simp at h
 |p::P,w::V,0,m,n,H,a,b=>by
  simp at H a;subst H;subst a
  show bindL kindOf ((p,w)::P.zip V) m p=_
  unfold bindL
  rw[Qb λv c=>(List.nodup_cons.mp n).1 (LX c).1,Gw b]
  simp
 |p::P,w::V,i+1,m,n,H,a,b=>by
  show bindL kindOf ((p,w)::P.zip V) m x=_
  unfold bindL
  exact Qd (i:=i) (List.nodup_cons.mp n).2 (by simpa using H) (by simpa using a) b
theorem Qe{kindOf:Str->Option NameKind}:∀{P:List Str} {V:List Value} {i:Nat} {m:Str->Option Value},P.Nodup->P[i]?=some x->V[i]?=some v->kindOf x≠some .local->
  bindC kindOf (P.zip V) m x=some v
 | [],_,_,_,_,h,_,_=>by simp at h
 |_::_,[],_,_,_,_,h,_=>by simp at h
 |p::P,w::V,0,m,n,H,a,b=>by
  simp at H a;subst H;subst a
  show bindC kindOf ((p,w)::P.zip V) m p=_
  unfold bindC
  rw[Qc λv c=>(List.nodup_cons.mp n).1 (LX c).1,GG b]
  simp
 |p::P,w::V,i+1,m,n,H,a,b=>by
  show bindC kindOf ((p,w)::P.zip V) m x=_
  unfold bindC
  exact Qe (i:=i) (List.nodup_cons.mp n).2 (by simpa using H) (by simpa using a) b
noncomputable def gf(N:List Str)(v:List V):St:=v.map some++List.replicate (N.length - v.length) none
noncomputable def eY(C:nB)(P:Program)(w:World)(K:Frag)(mg:Str->Option Value)(base:Heap)(N:List Str)(q:Str)(S:Scope)(f:Addr)(c:Value)(A:Around)(outer:List Env)(s:Shared)(H:Hp)(E:XK):Cx where
 prog:=P
 w:=w
 K:=K
 mg:=mg
 base:=base
 A:=A.deeper (envOfC q S s.heap.objs.size f c)
 N:=N
 s₀:=s
 H₀:=H
 env:=envOfC q S s.heap.objs.size f c
 outer:=outer
 stack:=envOfC q S s.heap.objs.size f c::outer
 ex:=[]
 calm:=true
 fn:=λ_=>true
 pn:=[]
 xe:=λe b=>wpAny (model P w) (A.deeper (envOfC q S s.heap.objs.size f c)) (leaving (envOfC q S s.heap.objs.size f c) e) (λ_ a=>C outer H s E e a) (λd a=>C outer H s E d a) b
theorem Xd{s:Scope}{n:Nat}(h:s.names.lookup x=some .cell):∃c,(cellsFrom n s.names []).lookup x=some c:=by
 have q:=M4 s.names n [] (.inl h)
 exact Option.isSome_iff_exists.mp q
theorem Zw{P:Program}{K:Frag}{A:Around}{l:List V}
  (S:aj N t d) (O:A.handled=none) (j:mz P w K M B A o s H) (hl:l.length=t.length) (r:ax l U)
  (x:InCallC s s.heap.objs.size (bindL (envOfC Q d s.heap.objs.size f I).kindOf (t.zip U) λ_=>none) (cellsFrom (s.heap.objs.size+1) d.names []) (bindC (envOfC Q d s.heap.objs.size f I).kindOf (t.zip U) λ_=>none) T):
  ap (eY Y P w K M B N Q d f I A o s H E) [] (gf N l) H T:=by
 have R:t.length<=N.length:=by have:=HL List.length S.pre;rw[GV]at this;omega
 obtain⟨F,tk,rfl,J⟩:=x.done
 have m:∀b:Addr,b∉(eY Y P w K M B N Q d f I A o s H E).ex:=λb z=>absurd (show b∈([]:List Addr) from z) P5
 refine#[#[j.mod,S.kind,Z,Z,Gh _,λy z c F g=>?_,λy hy=>?_,λy c _ h=>?_,λ_=>O,Around.frames_deeper j.frames,.inr #[Z,Z],λb z=>absurd z (m b),j.bs,j.bsz,λb _ _=>m b,λb z=>absurd z (m b),j.funs,j.frf],
  rfl,j.bare,Un.kept J,#[_,x.toInCall.ns,λi y v F g h3=>?_],λy c h=>#[_,x.cell y c h],j.hok.fresh (Gh _),λy c h=>?_,λp C=>absurd (show p∈([]:List (Addr×Obj)) from C) P5,j.hok.kept J,?_]
 ·exact name_of_addr x.apart (HU F) (HU g)
 ·have hy:d.names.lookup y=some .cell∨d.names.lookup y=some .free:=hy
  rcases hy with hy |hy
  ·exact Xd hy
  ·exact absurd Z (S.nofree _ (HU hy))
 ·exact IV (x.above y c (HU h))
 ·have G:i < l.length:=by
   unfold gf at g
   by_cases G:i < l.length
   ·exact G
   ·rw[Io (by simpa using G)]at g
    rw[Ng]at g
    split at g<;>cases g
  have W:l[i]?=some v:=by
   unfold gf at g
   rw[Iv (by simpa using G),Gz]at g
   cases e:l[i]? with
   |none=>rw[e]at g;cases g
   |some a=>rw[e]at g;cases g;rfl
  obtain⟨u,L,X⟩:=r.get W
  have C:t[i]?=some y:=by
   rw[<- S.pre,List.getElem?_take_of_lt P0];exact F
  have D:t.Nodup:=by rw[<- S.pre];exact S.nd.sublist (Ix _ _)
  refine#[u,X,?_]
  rcases S.par y (GP C) with k |k
  ·exact .inl #[k,Qd D C L k]
  ·obtain⟨c,e⟩:=Xd (n:=s.heap.objs.size+1) k
   refine .inr #[.inl k,c,e,?_]
   have q:=x.cell y c e
   rw[Qe D C L (by show d.names.lookup y≠_;rw[k];decide)]at q
   exact q
 ·exact j.hok.fresh (IV (x.above y c (HU h)))
 ·unfold gf
  show _=N.length
  rw[Gi,Gg,Me]
  omega
theorem xS{P:Program}{K:Frag}{kV:Value}
    {G:Sp} (lk:K.lookup f=some #[oc,od,.func (fnOf name c p h a dV kV L pm an C ct),o1]) (M:codeIn K C c=true) (S:aj N T a)
  (len:∀d H Q E,G d H Q E->d.length=T.length)
  (j:∀(A:Around) (O:List Env) (s:Shared) (H:Hp) (d:List V) (Q:VK) (E:XK),bH k (A.deeper (envOfC c a s.heap.objs.size f C))->G d H Q E->
   ∃t,lH (eY U P w K Y B N c a f C A O s H E) h t/\t { nx:=λ_ i=>Q .non i,rt:=Q } (gf N d) H):
  ah P w K Y B U (k+1) f (fnOf name c p h a dV kV L pm an C ct) T G:=by
 refine#[len,λA O s H a0 us d Q E R z hb r D=>?_]
 have hl:=len _ _ _ _ D
 have KX:K.In s.heap:=z.mod.kin.keeps λb o e=>(z.bs b o e).1
 have X:s.heap.NoLimit:=z.mod.nolimit.keeps λb o e=>(z.bs b o e).1
 have l:∀y∈T.zip us,a.names.lookup y.1=some .local∨(a.names.lookup y.1=some .cell/\((cellsFrom (s.heap.objs.size+1) a.names []).lookup y.1).isSome=true):=λ#[n,v] hy=>by
  rcases S.par n (LX hy).1 with q |q
  ·exact .inl q
  ·exact .inr #[q,M4 _ _ _ (.inl q)]
 refine codeAny_call_function R.depth (KX _ _ lk) Z S.co S.gen Z (PySem.W.codeRec_of KX M) (hb _ _ _ _ ?_)
 refine wpAny_newFunctionEnv_cells S.kind l λe1 he s1 x=>?_
 subst he
 refine#[X.keeps x.toInCall.keep,codeAny_func ?_]
 obtain⟨t,ht,hq⟩:=j A O s H d Q E (R.deeper _) D
 have I:ap (eY U P w K Y B N c a f C A O s H E) [] (gf N d) H s1:=Zw S R.hd z hl r x
 refine HI (ht [] s1 (gf N d) H _ I hq) (λfl s' m=>?_) λe s' m=>m
 have F:∀{g:St} {i:Hp} {v:V} {u:Value},ap (eY U P w K Y B N c a f C A O s H E) [] g i s'->aC v u->Q v i->CE O P w H s Q u s':=
  λ{g i v u} J rv q=>#[v,i,J.os,J.bare,J.base,J.hok,rv,q]
 cases fl with
 |ret u=>
  obtain⟨v,g,i,J,rv,q⟩:=m
  exact F J rv q
 |next=>
  obtain⟨g,i,J,q⟩:=m
  exact F (v:=V.non) (u:=Value.none) J Z q
 |brk=>
  obtain⟨_,_,_,q⟩:=m
  exact False.elim q
 |cont=>
  obtain⟨_,_,_,q⟩:=m
  exact False.elim q
section
variable {X:Cx}{x:Str}{p pos:Pos}{e:Expr}{es:List Expr}{t:TA}{id T:String}{r:List V->Hp->VK->Prop}
def Eb(r:List V->Hp->VK->Prop)(t:TA):TE:=λa H Q=>t a H λv h=>r v h Q
theorem jN(d:dR X (.builtin id) r)(f:Gl X x)(g:X.mg x=none)(i:bootBuiltins x=some (.builtin id))(j:PA X (e::es) t)(k:x≠"__name__":=by decide)(a:(x==("__debug__":Str))=false:=by decide)
  (l:starEach (e::es) X.env=(false,eval e X.env)::starEach es X.env:=by rfl) (b:(backTo pos (starEach es X.env)).any (·.1)=false:=by rfl):PE X (.Call (.Name x p) (e::es) [] pos) (Eb r t):=by
 intro P s c H Q I h
 refine Hu (zh I f g i ?_ k a)
 exact Pw (aQ (j pos P s c H _ I h) λu S #[v,m,n,R,q]=>d P S c m v u Q n R q) l b
theorem jD(d:dR X (.type T) r)(f:Gl X x)(g:X.mg x=none)(i:bootBuiltins x=some (.type T))(j:PA X (e::es) t)(k:x≠"__name__":=by decide)(a:(x==("__debug__":Str))=false:=by decide)
  (l:starEach (e::es) X.env=(false,eval e X.env)::starEach es X.env:=by rfl) (b:(backTo pos (starEach es X.env)).any (·.1)=false:=by rfl):PE X (.Call (.Name x p) (e::es) [] pos) (Eb r t):=by
 intro P s c H Q I h
 refine Hu (zh I f g i ?_ k a)
 exact Hh (aQ (j pos P s c H _ I h) λu S #[v,m,n,R,q]=>d P S c m v u Q n R q) l b
end
end _L
namespace HT
open PySem PyProof.Rows
theorem eqAt_int(A:Around)(s:Shared)(a:Int)(t:Tok)(c:Int)(u:Tok):∃e,SeqAt.EqAt A s (.int a t) (.int c u) e/\(e=true↔a=c):=
 #[(a==c),M' a t c u,P5]
section
variable {prog:Program}{w:World}{A:Around}{E:Value->Shared->Prop}{s:Shared}
theorem cat_tup{v W:List Value}{Q:Value->Shared->Prop}(m:IsTup s.heap t v.toArray)(o:IsTup s.heap b W.toArray)(i:v≠[])
  (p:W=[]->Q (.ref t) s) (q:W≠[]->Q (.ref s.heap.objs.size) { s with heap:=s.heap.push { cls:=.type "tuple",data:=.seq (v++W).toArray } })
  (g:v.length+W.length<=sizeLine):wpAny (model prog w) A (binaryOp .Add (.ref t) (.ref b)) Q E s:=by
 obtain⟨⟨cls,D,data,j⟩,c,k,n,l⟩:=id m
 obtain⟨⟨C,d,data2,S⟩,h,H,N,a⟩:=id o
 simp only at k l H a
 subst k l H a
 have e:v.toArray++W.toArray=(v++W).toArray:=by simp
 by_cases f:W=[]
 ·exact NV #[_,c,Z] #[_,h,Z] M3 NE LA Ls (Lp _ _)
   (tuple_addW1 t b v.toArray W.toArray n N D d j S (by simpa using i) (by simp [f])) #[c,h,p f]
 ·refine NV #[_,c,Z] #[_,h,Z] M3 NE LA Ls (Lp _ _)
   (tuple_addW2 t b v.toArray W.toArray n N D d j S (by simpa using i) (by simpa using f) (by rw[Gj,Gj];exact g)) #[c,h,?_]
  rw[e]
  exact q f
noncomputable def sIx(n d:Nat):Option Int->Nat
 |none=>d
 |some v=>if v < 0 then (v+(n:Int)).toNat else min v.toNat n
theorem sIx_none(n d:Nat):sIx n d none=d:=rfl
theorem sIx_nat(n d k:Nat):sIx n d (some (k:Int))=min k n:=by
 show(if (k:Int) < 0 then ((k:Int)+(n:Int)).toNat else min (k:Int).toNat n)=min k n
 rw[GG P0,Hq]
theorem A8(n d:Nat)(H:d<=n)(o:Option Int):sIx n d o<=n:=by
 cases o with
 |none=>exact H
 |some v=>
  show(if v < 0 then (v+(n:Int)).toNat else min v.toNat n)<=n
  by_cases h:v < 0
  ·rw[Gw h];omega
  ·rw[GG h];exact Nat.min_le_right _ _
theorem YQ(v:Int)(n d:Nat):(if v < 0 then max (v+(n:Int)) 0 else min v (n:Int))=((sIx n d (some v):Nat):Int):=by
 show(if v < 0 then max (v+(n:Int)) 0 else min v (n:Int))=(((if v < 0 then (v+(n:Int)).toNat else min v.toNat n):Nat):Int)
 by_cases h:v < 0
 ·simp only[Gw h];omega
 ·simp only[GG h];omega
theorem X9(lo h:Option Int)(n:Nat):Builtin.Slice.sliceAdjust lo h 1 (n:Int)=(((sIx n 0 lo:Nat):Int),((sIx n n h:Nat):Int)):=by
 have H:¬((1:Int) < 0):=by omega
 unfold Builtin.Slice.sliceAdjust
 simp only[H,HW]
 refine Prod.ext ?_ ?_
 ·cases lo with
  |none=>rfl
  |some v=>exact YQ v n 0
 ·cases h with
  |none=>rfl
  |some v=>exact YQ v n n
theorem Ya(i j:Nat):Builtin.Slice.slicePlaces (i:Int) (j:Int) 1=j - i:=by
 unfold Builtin.Slice.slicePlaces
 have h:(1:Int) > 0:=by omega
 simp only[h,Ln,Int.ediv_one]
 split<;>omega
theorem Kt{Q:Option Int->Shared->Prop}(p:IsPart v o)(h:Q o s):wpAny (model prog w) A (Builtin.Slice.slicePartIndex v) Q E s:=by
 cases p with
 |none=>exact PJ h
 |int i t=>exact slicePart_int h
theorem sliceApplied_gen{lo:Option Int}{Q:Int×Int×Nat->Shared->Prop}(d:s.heap.IsSliceOf e v c .none)(p:IsPart v lo)(P:IsPart c b)
  (h:Q (((sIx n 0 lo:Nat):Int),1,sIx n n b - sIx n 0 lo) s):wpAny (model prog w) A (Builtin.Slice.sliceApplied (.ref e) (pure (n:Int))) Q E s:=by
 obtain⟨os,H,f,a⟩:=id d
 unfold Builtin.Slice.sliceApplied Builtin.Slice.sliceFields
 refine Gb (Gb (GL H a (x:=v) Z (Gb (GL H a (x:=c) Z (Gb (GL H a (x:=.none) Z (Ge ?_)))))))
 refine Gb (PJ ?_)
 show wpAny _ _ (if ((1:Int)==0)=true then _ else _) _ _ s
 rw[GG PZ]
 refine Gb (Kt p (Gb (Kt P (Gb (Ge ?_)))))
 show wpAny _ _ (match Builtin.Slice.sliceAdjust lo b 1 (n:Int) with | (lo,b)=>pure (lo,(1:Int),Builtin.Slice.slicePlaces lo b 1)) _ _ s
 rw[X9 lo b n]
 show wpAny _ _ (pure (((sIx n 0 lo:Nat):Int),(1:Int),Builtin.Slice.slicePlaces ((sIx n 0 lo:Nat):Int) ((sIx n n b:Nat):Int) 1)) _ _ s
 rw[Ya]
 exact Ge h
theorem sg(X:Array Value)(i k:Nat):((List.range k).filterMap λ(m:Nat)=>X[((i:Int)+(m:Int)*1).toNat]?).toArray=((X.toList.drop i).take k).toArray:=by
 have e:(λ(m:Nat)=>X[((i:Int)+(m:Int)*1).toNat]?)=λm=>X[i+m]?:=by
  funext m
  have:((i:Int)+(m:Int)*1).toNat=i+m:=by omega
  rw[this]
 rw[e]
 have:=pick_run X i k
 rw[List.filterMap_map]at this
 have a:((λx=>X[x]?) ∘ λx=>i+x)=λm=>X[i+m]?:=rfl
 rw[a]at this
 rw[this]
theorem getItem_tuple_cut{lo:Option Int}{Q:Value->Shared->Prop}(ht:IsTup s.heap t items)(hs:s.heap.IsSliceOf sl vl vu .none)(pl:IsPart vl lo)(pu:IsPart vu hi)
  (hw:¬(sIx items.size 0 lo=0/\sIx items.size items.size hi=items.size))
  (h:Q (.ref s.heap.objs.size) { s with heap:=s.heap.push { cls:=.type "tuple",data:=.seq ((items.toList.drop (sIx items.size 0 lo)).take (sIx items.size items.size hi - sIx items.size 0 lo)).toArray } })
  (hsz:items.size<=sizeLine):wpAny (model prog w) A (getItem (.ref t) (.ref sl)) Q E s:=by
 have htake:sizeOk (.seq ((items.toList.drop (sIx items.size 0 lo)).take (sIx items.size items.size hi - sIx items.size 0 lo)).toArray):=by
  show((items.toList.drop (sIx items.size 0 lo)).take (sIx items.size items.size hi - sIx items.size 0 lo)).toArray.size<=sizeLine
  rw[Gj,GV,Ik,GK]
  omega
 have hj:sIx items.size items.size hi<=items.size:=A8 _ _ (Gh _) hi
 obtain⟨os,hos,hcs,hds⟩:=id hs
 have hTs:s.TypeIs (.ref sl) "slice":=#[os,hos,hcs]
 unfold getItem
 try with_reducible refine GN ?_
 first |refine Gb (Ge ?_) |skip
 refine Gb (MP ht.typeIs PZ ?_)
 refine Gb (Hd (name:=Str.ofString "__getitem__") ht.typeIs Ir
  (Hi Ir ht.typeIs entry_tuple_getitem ?_ (args_tuple_getitem _ _)))
 show wpAny _ _ (Builtin.Tuple.tupleItemsOf (.ref t) >>= _) _ _ s
 refine Gb (tupleItemsOf_ ht ?_)
 refine Gb (Iq hTs ?_)
 rw[Gw PZ]
 refine Gb (sliceApplied_gen hs pl pu ?_)
 have hno:¬((((sIx items.size 0 lo:Nat):Int)==0&&(1:Int)==1&&(sIx items.size items.size hi - sIx items.size 0 lo)==items.size)=true):=by
  intro q
  rw[Hy,Hy]at q
  have q1:((sIx items.size 0 lo:Nat):Int)=0:=eq_of_beq q.1.1
  have q2:sIx items.size items.size hi - sIx items.size 0 lo=items.size:=eq_of_beq q.2
  exact hw #[P0,P0]
 show wpAny _ _ (if (((sIx items.size 0 lo:Nat):Int)==0&&(1:Int)==1&&(sIx items.size items.size hi - sIx items.size 0 lo)==items.size)=true then _ else _) _ _ s
 rw[GG hno,sg]
 first
  |exact Gb (m:=Builtin.Tuple.tupleExact _) (Hf (Ge #[_,Z,Ge h]) htake)
  |exact Gb (m:=Builtin.Tuple.tupleExact _) (Hf (Gb (Ge (Ge #[_,Z,Ge h]))) htake)
  |exact Gb (Gb (m:=Builtin.Tuple.tupleExact _) (Hf (Ge (Ge #[_,Z,Ge h])) htake))
  |exact Gb (Gb (m:=Builtin.Tuple.tupleExact _) (Hf (Ge #[_,Z,Ge h]) htake))
end
end HT
namespace _L
open PySem PySem.Spec PyProof.Rows
abbrev TO:=St->Hp->(Option Int->Hp->Prop)->Prop
def PO(X:Cx)(e:Option Expr)(t:TO):Prop:=
 ∀(p:List (Addr×Obj)) (s:Shared) (a:St) (H:Hp) (Q:Option Int->Hp->Prop),ap X p a H s->t a H Q->
  wpAny (model X.prog X.w) X.A (evalPart e X.env) (λu S=>∃o h,ap X p a h S/\IsPart u o/\Q o h) X.xe s
def lE:TO:=λ_ H Q=>Q none H
inductive t9(Q:Option Int->Hp->Prop)(x:V)(a:Hp):Prop
 |mk(i:_)(_:x= .int i)(_:Q (some i) a)
def mn(t:TE):TO:=λa H Q=>t a H (t9 Q)
section
variable {X:Cx}{e:Expr}{te:TE}{lo hi:Option Expr}{tl th:TO}{pos p2:Pos}
theorem jU:PO X none lE:=by
 intro p s a H Q I h
 rw[evalPart_none]
 exact Ge #[none,H,I,.none,h]
theorem jE(h:PE X e te):PO X (some e) (mn te):=by
 intro p s a H Q I b
 rw[evalPart_some]
 refine aQ (h p s a H _ I b) λu S z=>?_
 obtain⟨x,c,d,r,f⟩:=z
 obtain⟨i,rfl,q⟩:=f
 obtain⟨t,rfl⟩:=r
 exact#[some i,c,d,.int i t,q]
def D4(X:Cx)(r:V->Option Int->Option Int->Hp->VK->Prop):Prop:=
 ∀(p:List (Addr×Obj)) (s:Shared) (a:St) (H:Hp) (x:V) (v b c:Value) (lo hi:Option Int) (S:Addr) (Q:VK),ap X p a H s->aC x v->s.heap.IsSliceOf S b c .none->IsPart b lo->IsPart c hi->r x lo hi H Q->
  ∃T id,typeLookup (.type T) "__getitem__"=pure (some (.builtin id))/\s.TypeIs v T/\wpAny (model X.prog X.w) X.A (getItem v (.ref S)) (EP X p a Q) X.xe s
def BR(r:V->Option Int->Option Int->Hp->VK->Prop)(te:TE)(tl th:TO):TE:=λa H Q=>te a H λx h=>tl a h λl b=>th a b λu c=>r x l u c Q
theorem jG{r:V->Option Int->Option Int->Hp->VK->Prop}(g:D4 X r)(i:PE X e te)(j:PO X lo tl)(k:PO X hi th):PE X (.Subscript e (.Slice lo hi none p2) pos) (BR r te tl th):=by
 intro p s a H Q I h
 refine OH (aQ (i p s a H _ I h) λv m z=>?_)
 obtain⟨x,n,o,R,t⟩:=z
 refine wpAny_Slice (aQ (j p m a n _ o t) λc y #[l,B,C,P,D]=>aQ (k p y a B _ C D) λd S z=>?_)
 obtain⟨u,f,E,F,G⟩:=z
 rw[evalPart_none]
 refine Ge ?_
 have J:ap X p a f { S with heap:=S.heap.push { cls:=.type "slice",data:=.fields (List.toArray [c,d,.none]) } }:=E.kept (t':=S.toks) λb O q=>Gf _ q
 obtain⟨T,id,K,L,M⟩:=g p { S with heap:=S.heap.push { cls:=.type "slice",data:=.fields (List.toArray [c,d,.none]) } } a f x v c d l u S.heap.objs.size Q J R (MO ..) P F G
 show wpAny (model X.prog X.w) X.A (subscriptTail e (.Slice lo hi none p2) v (.ref S.heap.objs.size)) (EP X p a Q) X.xe { S with heap:=S.heap.push { cls:=.type "slice",data:=.fields (List.toArray [c,d,.none]) } }
 exact tail_any (ops:=[.ref S.heap.objs.size,v]) L K M (by with_unfolding_all rfl)
noncomputable def aX(x:List V)(lo hi:Option Int):List V:=(x.drop (HT.sIx x.length 0 lo)).take (HT.sIx x.length x.length hi - HT.sIx x.length 0 lo)
theorem kY(x:List V)(lo hi:Option Int):(aX x lo hi).length<=x.length:=by
 unfold aX
 rw[GV,Ik]
 omega
inductive Dt(K:Frag)(x:V)(c b:Option Int)(H:Hp)(Q:VK):Prop
 |mk(a d:_)(_:x= .ref a)(_:aw K H a d)(_:¬(HT.sIx d.length 0 c=0/\HT.sIx d.length d.length b=d.length))(_:∀p,H p=none->Q (.ref p) (af H p (.tup (aX d c b))))
theorem Bq:D4 X (Dt X.K):=by
 intro p s n H x v V t lo hi S Q I R j P k h
 obtain⟨a,d,rfl,l,m,q⟩:=h
 cases R
 obtain⟨i,r,f,g⟩:=I.tuple l
 have c:i.toArray.size=d.length:=by rw[Gj];exact r.length.symm
 refine#["tuple",_,PyProof.Rows.slot_tuple_getitem.lookup,f.typeIs,?_]
 refine HT.getItem_tuple_cut f j P k (by rw[c];exact m) ?_ (by rw[c];exact g)
 rw[c]
 refine#[.ref s.heap.objs.size,_,I.laid (t':=s.toks) (o:=.tup (aX d lo hi)) (λb O q=>Gf _ q) (Gh _) ?_,Z,q _ (I.hok.fresh (Gh _))]
 exact#[Gr (kY d lo hi) g,_,(r.drop (HT.sIx d.length 0 lo)).take (HT.sIx d.length d.length hi - HT.sIx d.length 0 lo),N5 _ _]
inductive ya(K:Frag)(x y:V)(H:Hp)(Q:VK):Prop
 |mk(a b c d:_)(_:x= .ref a)(_:y= .ref b)(_:aw K H a c)(_:aw K H b d)(_:c≠[])(_:c.length+d.length<=sizeLine)(_:d=[]->Q (.ref a) H)(_:d≠[]->∀p,H p=none->Q (.ref p) (af H p (.tup (c++d))))
theorem ax.nil_iff(r:ax x u):u=[]↔x=[]:=by
 cases r with
 |nil=>simp
 |cons _ _=>simp
theorem wf:eN X (binaryOp .Add) (ya X.K):=by
 intro p s A H x y v u Q I d f h
 obtain⟨a,b,g,Y,rfl,rfl,j,k,l,c,m,n⟩:=h
 cases d
 cases f
 obtain⟨t,R,P,_⟩:=I.tuple j
 obtain⟨i,r,p2,_⟩:=I.tuple k
 refine HT.cat_tup P p2 (λz=>l (R.nil_iff.mp z)) (λz=>#[.ref a,H,I,Z,m (r.nil_iff.mp z)]) (λz=>?_) (by rw[<- R.length,<- r.length];exact c)
 refine#[.ref s.heap.objs.size,_,I.laid (t':=s.toks) (o:=.tup (g++Y)) (λb O q=>Gf _ q) (Gh _) ?_,Z,n (λw=>z (r.nil_iff.mpr w)) _ (I.hok.fresh (Gh _))]
 exact#[by rw[Gi];exact c,_,R.append r,N5 _ _]
end
noncomputable def mN(n:Nat)(i:Int):Option Nat:=if 0<=i then (if i < n then some i.toNat else none) else if -(n:Int)<=i then some (i+n).toNat else none
noncomputable def dA{a:Type}(x:List a)(i:Int):Option a:=(mN x.length i).bind λj=>x[j]?
theorem YR(h:mN n i=some j):seqIndex? i n=some j/\j < n/\ -(n:Int)<=i/\i < n:=by
 unfold mN at h
 by_cases a:0<=i
 ·rw[Gw a]at h
  by_cases H:i < n
  ·rw[Gw H]at h
   have e:i.toNat=j:=Hg h
   exact#[by rw[Oj a H,e],P0,P0,H]
  ·rw[GG H]at h;cases h
 ·rw[GG a]at h
  by_cases H: -(n:Int)<=i
  ·rw[Gw H]at h
   have e:(i+n).toNat=j:=Hg h
   exact#[by rw[NT P0 H,e],P0,H,P0]
  ·rw[GG H]at h;cases h
theorem QO{a:Type}{x:List a}{v:a}(h:dA x i=some v):∃j,seqIndex? i x.length=some j/\x[j]?=some v/\j < x.length/\ -(x.length:Int)<=i/\i < x.length:=by
 unfold dA at h
 cases e:mN x.length i with
 |none=>rw[e]at h;cases h
 |some j=>
  rw[e]at h
  obtain⟨H,b,c,d⟩:=YR e
  exact#[j,H,h,b,c,d]
theorem jH{a:Type}{x:List a}{j:Nat}{v:a}(h:x[j]?=some v):dA x (j:Int)=some v:=by
 have H:j < x.length:=(List.getElem?_eq_some_iff.mp h).1
 have e:mN x.length (j:Int)=some j:=by
  unfold mN
  rw[Gw P0,Gw P0];simp
 unfold dA;rw[e];exact h
def uS(b:Expr):Prop:=∀o i,subscripted b false o i=operate [o,i] (getItem o i)
def D3(X:Cx)(r:R2):Prop:=
 ∀(a S:Expr) (p:List (Addr×Obj)) (s:Shared) (b:St) (H:Hp) (x y:V) (v u:Value) (Q:VK),ap X p b H s->aC x v->aC y u->r x y H Q->
  subscripted S false v u=operate [v,u] (getItem v u)->wpAny (model X.prog X.w) X.A (subscriptTail a S v u) (EP X p b Q) X.xe s
def Eh(X:Cx)(id:String)(r:V->List V->Hp->VK->Prop):Prop:=
 ∀(p:List (Addr×Obj)) (s:Shared) (a:St) (H:Hp) (x:V) (b:List V) (v:Value) (u:List Value) (Q:VK),ap X p a H s->aC x v->ax b u->r x b H Q->
  wpAny (model X.prog X.w) X.A (call (.builtin id) (v::u)) (EP X p a Q) X.xe s
section
variable {X:Cx}{a b:Expr}{ta tb:TE}{pos:Pos}
theorem jr{r:R2}(c:D3 X r)(d:PE X a ta)(e:PE X b tb)(f:uS b):PE X (.Subscript a b pos) (dG r ta tb):=by
 intro p s g H Q I h
 exact OH (yC d e I h λv u S x y i j R k q=>c a b p S g i x y v u Q j R k q (f _ _))
inductive iE(K:Frag)(x y:V)(H:Hp)(Q:VK):Prop
 |mk(p a i v:_)(_:x= .ref p)(_:y= .int i)(_:aH K H p a)(_:dA a i=some v)(_:Q v H)
inductive fc(K:Frag)(x y:V)(H:Hp)(Q:VK):Prop
 |mk(p a i v:_)(_:x= .ref p)(_:y= .int i)(_:aw K H p a)(_:dA a i=some v)(_:Q v H)
inductive wB(x y:V)(H:Hp)(Q:VK):Prop
 |mk(z i c:_)(_:x= .str z)(_:y= .int i)(_:z.length<=sizeLine)(_:dA z.cps.toList i=some c)(_:Q (.str #[(List.toArray [c])]) H)
theorem jq:D3 X (iE X.K):=by
 intro V S P s k H x y v u Q I n o h l
 obtain⟨p,L,i,z,rfl,rfl,A,B,q⟩:=h
 cases n
 obtain⟨t,rfl⟩:=o
 obtain⟨d,r,e,M⟩:=I.list A
 obtain⟨j,c,C,N,D,F⟩:=QO B
 obtain⟨w,E,R⟩:=r.get C
 have G:=r.length
 have O:=dW
 have f:EP X P k Q w s:=#[z,H,I,R,q]
 by_cases m:0<=i
 ·have g:i.toNat=j:=by
   rw[Oj m F]at c
   exact Hg c
  exact item_listR e.isList m P0 (by rw[g];simpa using E) f l
 ·have g:(i+(d.toArray.size:Int)).toNat=j:=by
   rw[NT P0 D]at c
   rw[Gj,<- G]
   exact Hg c
  exact NR (x:=w) e.isList.typeIs slot_list_getitem.lookup
   (wpAny_getItem_list_neg (Q:=λr J=>r=w/\EP X P k Q r J) e.isList P0 (by rw[Gj]<;>omega) P0 (by rw[g];simpa using E) #[Z,f]) l
theorem jM:D3 X (fc X.K):=by
 intro V S P s c H x y v u Q I e g h k
 obtain⟨p,D,i,z,rfl,rfl,l,m,q⟩:=h
 cases e
 obtain⟨t,rfl⟩:=g
 obtain⟨n,r,d,F⟩:=I.tuple l
 obtain⟨j,o,A,G,J,L⟩:=QO m
 obtain⟨w,E,R⟩:=r.get A
 have B:=r.length
 have M:=dW
 have f:EP X P c Q w s:=#[z,H,I,R,q]
 exact NR (x:=w) d.typeIs slot_tuple_getitem.lookup
  (getItem_tuple (j:=j) (Q:=λr C=>r=w/\EP X P c Q r C) d P0 P0 (by rw[Gj,<- B];exact o) (by simpa using E) #[Z,f]) k
theorem J5:D3 X wB:=by
 intro V S p s o H x y v u Q I r R h e
 obtain⟨z,i,c,rfl,rfl,w,f,q⟩:=h
 obtain⟨t,rfl⟩:=r
 obtain⟨T,rfl⟩:=R
 obtain⟨j,d,g,A,k,l⟩:=QO f
 have m:z.cps.toList.length=z.length:=by simp [Str.length]
 rw[m]at d k l
 have B:=dW
 exact tail_any (typeIs_str s z t) slot_str_getitem.lookup (getItem_str (c:=c) (by
  have E:decide (i < -(2 ^ 63:Int))=false:=GH P0
  have n:decide (i≥2 ^ 63)=false:=GH P0
  rw[E,n,Li]) (by rw[d];simpa using g) #[.str #[(List.toArray [c])],H,I.tok _,#[_,Z],q]) e
theorem Yb(i:List Value)(n j:Nat)(u:Value):Obj.mapSeq (·.setIfInBounds j u) { cls:=.type "list",data:=.seq i.toArray n }={ cls:=.type "list",data:=.seq (i.set j u).toArray n }:=by
 simp [Obj.mapSeq]
theorem ap.lst(I:ap X c d H s)(h:H p=some (.lst x)):
  ∃(i:List Value) (n:Nat),ax x i/\s.heap.get? p=some { cls:=.type "list",data:=.seq i.toArray n }/\x.length<=sizeLine:=by
 obtain⟨z,i,n,r,e⟩:=I.hok p _ h
 exact#[i,n,r,e,z]
theorem ap.lstUpd{c i:List Value}{f:Obj->Obj}(I:ap X d j H s)(h:H p=some (.lst o))
  (k:s.heap.get? p=some { cls:=.type "list",data:=.seq c.toArray n }) (g:f { cls:=.type "list",data:=.seq c.toArray n }={ cls:=.type "list",data:=.seq i.toArray N }) (r:ax y i) (l:y.length<=sizeLine) (t:Nat):
  ap X d j (af H p (.lst y)) { s with heap:=s.heap.update p f,toks:=t }:=by
 have e:(s.heap.update p f).get? p=some { cls:=.type "list",data:=.seq i.toArray N }:=by
  rw[Heap.get?_update_self f k (by rw[g]<;>rfl),g]
 refine I.write (x:=p) (e:=p) (by rw[h];trivial) (.inl Z) (λb u m q=>(Heap.get?_update_other _ _ (Ne.symm m)).trans q) #[_,e] ?_
 exact#[l,i,N,r,e]
inductive nL(o i v:V)(H:Hp)(Q:Hp->Prop):Prop
 |mk(p a k j:_)(_:o= .ref p)(_:i= .int k)(_:H p=some (.lst a))(_:mN a.length k=some j)(_:Q (af H p (.lst (a.set j v))))
theorem zn:Cj X nL:=by
 intro P s z H o i v O F u Q I R A B h
 obtain⟨p,C,k,j,rfl,rfl,l,D,q⟩:=h
 cases R
 obtain⟨t,rfl⟩:=A
 obtain⟨c,n,r,e,E⟩:=I.lst l
 obtain⟨d,G,m,w⟩:=YR D
 have f:=r.length
 have J:=dW
 have x:ap X P z (af H p (.lst (C.set j v))) { s with heap:=s.heap.update p (Obj.mapSeq (·.setIfInBounds j u)) }:=
  I.lstUpd l e (Yb c n j u) (r.set B j) (by rw[LY];exact E) s.toks
 by_cases y:0<=k
 ·have g:k.toNat=j:=by
   rw[Oj y w]at d
   exact Hg d
  exact PySem.W.ki_setAt e y P0 (by rw[Gj,<- f];exact w) (by rw[g];exact#[_,x,q])
 ·have g:(k+(c.toArray.size:Int)).toNat=j:=by
   rw[NT P0 m]at d
   rw[Gj,<- f]
   exact Hg d
  exact PySem.W.ki_setBack e P0 (by rw[Gj,<- f];exact m) P0 (by rw[g];exact#[_,x,q])
theorem QX(lo H:Option Int)(n:Nat):(sliceBounds lo H none n).1=((HT.sIx n 0 lo:Nat):Int)/\(sliceBounds lo H none n).2.1=((HT.sIx n n H:Nat):Int)/\(sliceBounds lo H none n).2.2=1:=by
 refine#[?_,?_,Z]
 ·cases lo with
  |none=>simp [sliceBounds,HT.sIx]
  |some i=>
   simp only[sliceBounds,HT.sIx,Mw,show(1:Int) > 0 by decide,Ln]
   by_cases h:i < 0
   ·simp only[h,Ln]<;>omega
   ·simp only[h,HW]<;>omega
 ·cases H with
  |none=>simp [sliceBounds,HT.sIx]
  |some i=>
   simp only[sliceBounds,HT.sIx,Mw,show(1:Int) > 0 by decide,Ln]
   by_cases h:i < 0
   ·simp only[h,Ln]<;>omega
   ·simp only[h,HW]<;>omega
theorem KJ(i:List Value)(lo h:Option Int):slicePick i.toArray lo h none=((i.drop (HT.sIx i.length 0 lo)).take (HT.sIx i.length i.length h - HT.sIx i.length 0 lo)).toArray:=by
 obtain⟨H,c,d⟩:=QX lo h i.toArray.size
 unfold slicePick
 rw[H,c,d]
 simp only[sliceRange_one,pick_run,Gj]<;>rfl
inductive wC(K:Frag)(x:V)(c b:Option Int)(H:Hp)(Q:VK):Prop
 |mk(a d:_)(_:x= .ref a)(_:aH K H a d)(_:∀p,H p=none->Q (.ref p) (af H p (.lst (aX d c b))))
theorem kh:D4 X (wC X.K):=by
 intro p s m H x v V n lo e S Q I R g P i h
 obtain⟨a,c,rfl,j,q⟩:=h
 cases R
 obtain⟨k,r,f,l⟩:=I.list j
 have d:=r.length
 refine#["list",_,slot_list_getitem.lookup,f.isList.typeIs,?_]
 refine wpAny_getItem_list_slice f.isList g P i .none P5 ?_ (by rw[Gj]<;>omega)
 rw[KJ,<- d]
 refine#[.ref s.heap.objs.size,_,I.laid (t':=s.toks) (o:=.lst (aX c lo e)) (λb O q=>Gf _ q) (Gh _) ?_,Z,q _ (I.hok.fresh (Gh _))]
 exact#[Gr (kY c lo e) l,_,0,(r.drop (HT.sIx c.length 0 lo)).take (HT.sIx c.length c.length e - HT.sIx c.length 0 lo),Gm _ Z]
noncomputable def cq:V->Bool
 | .non=>true
 | .bl _=>true
 | .int _=>true
 | .str _=>true
 |_=>false
noncomputable def mw:V->V->Bool
 | .non,.non=>true
 | .bl a,.bl b=>a==b
 | .bl a,.int b=>(if a then 1 else 0)==b
 | .int a,.bl b=>a==(if b then 1 else 0)
 | .int a,.int b=>a==b
 | .str a,.str b=>a==b
 |_,_=>false
theorem pC(R:aC y u)(r:aC x v)(F:cq y=true)(f:cq x=true):SeqAt.EqAt A s u v (mw y x):=by
 cases y with
 |non=>
  cases R
  cases x with
  |non=>cases r;exact SeqAt.EqAt.same _
  |bl b=>cases r;exact SeqAt.EqAt.none_bool b
  |int b=>obtain⟨t,rfl⟩:=r;exact SeqAt.EqAt.none_int b t
  |str b=>obtain⟨t,rfl⟩:=r;exact SeqAt.EqAt.none_str b t
  |_=>exact absurd (show false=true from f) Gn
 |bl a=>
  cases R
  cases x with
  |non=>cases r;exact SeqAt.EqAt.bool_none a
  |bl b=>cases r;exact SeqAt.EqAt.bool_bool a b
  |int b=>obtain⟨t,rfl⟩:=r;exact SeqAt.EqAt.bool_int a b t
  |str b=>obtain⟨t,rfl⟩:=r;exact SeqAt.EqAt.bool_str a b t
  |_=>exact absurd (show false=true from f) Gn
 |int a=>
  obtain⟨T,rfl⟩:=R
  cases x with
  |non=>cases r;exact SeqAt.EqAt.int_none a T
  |bl b=>cases r;exact SeqAt.EqAt.int_bool a T b
  |int b=>obtain⟨t,rfl⟩:=r;exact M' a T b t
  |str b=>obtain⟨t,rfl⟩:=r;exact M9 a T b t
  |_=>exact absurd (show false=true from f) Gn
 |str a=>
  obtain⟨T,rfl⟩:=R
  cases x with
  |non=>cases r;exact SeqAt.EqAt.str_none a T
  |bl b=>cases r;exact SeqAt.EqAt.str_bool a T b
  |int b=>obtain⟨t,rfl⟩:=r;exact M8 a T b t
  |str b=>obtain⟨t,rfl⟩:=r;exact SeqAt.EqAt.str_str a T b t
  |_=>exact absurd (show false=true from f) Gn
 |_=>exact absurd (show false=true from F) Gn
noncomputable def mM(x:V)(u:Value):Bool:=match u with
 | .none=>mw .non x
 | .bool b=>mw (.bl b) x
 | .int i _=>mw (.int i) x
 | .str z _=>mw (.str z) x
 |_=>false
theorem pF(r:aC y u)(f:cq y=true):mM x u=mw y x:=by
 cases y with
 |non=>cases r;rfl
 |bl b=>cases r;rfl
 |int i=>obtain⟨t,rfl⟩:=r;rfl
 |str z=>obtain⟨t,rfl⟩:=r;rfl
 |_=>exact absurd (show false=true from f) Gn
theorem qI:∀{c:List V} {U:List Value},ax c U->c.all cq=true->U.any (mM x)=c.any λy=>mw y x
 |_,_,.nil,_=>rfl
 |y::c,u::U,.cons r t,f=>by
  rw[Nc,Hy]at f
  rw[Lz,Lz,pF r f.1,qI t f.2]
theorem zZ(R:aC x v)(F:cq x=true):∀{c:List V} {U:List Value},ax c U->c.all cq=true->∀u∈U,SeqAt.EqAt A s u v (mM x u)
 |_,_,.nil,_=>λu hu=>by cases hu
 |y::c,u::U,.cons r t,f=>λd hu=>by
  rw[Nc,Hy]at f
  rcases List.mem_cons.mp hu with rfl |hu
  ·rw[pF r f.1];exact pC r R f.1 F
  ·exact zZ R F t f.2 d hu
noncomputable def nH(x:V)(c:List V):Bool:=c.any λy=>mw y x
inductive Dr(K:Frag)(a:Bool)(x y:V)(H:Hp)(Q:VK):Prop
 |mk(p b:_)(_:y= .ref p)(_:aH K H p b∨aw K H p b)(_:cq x=true)(_:b.all cq=true)(_:Q (.bl (if a then !nH x b else nH x b)) H)
theorem zg:eN X (compareOp .In) (Dr X.K false):=by
 intro d s j H x y v u Q I R e h
 obtain⟨p,k,rfl,hq,F,f,q⟩:=h
 cases e
 rcases hq with hq |hq
 ·obtain⟨i,r,P,g⟩:=I.list hq
  refine SeqAt.in_listAt (mM x) P.isList (λw c=>zZ R F r f w (by simpa using c)) #[.bl _,H,I,Z,?_]
  rw[show i.toArray.any (mM x)=i.any (mM x) by simp,qI r f]
  exact q
 ·obtain⟨i,r,P,g⟩:=I.tuple hq
  refine SeqAt.in_tupleAt (mM x) P (λw c=>zZ R F r f w (by simpa using c)) #[.bl _,H,I,Z,?_]
  rw[show i.toArray.any (mM x)=i.any (mM x) by simp,qI r f]
  exact q
theorem qS:eN X (compareOp .NotIn) (Dr X.K true):=by
 intro d s j H x y v u Q I R e h
 obtain⟨p,k,rfl,hq,F,f,q⟩:=h
 cases e
 rcases hq with hq |hq
 ·obtain⟨i,r,P,g⟩:=I.list hq
  refine SeqAt.notIn_listAt (mM x) P.isList (λw c=>zZ R F r f w (by simpa using c)) #[.bl _,H,I,Z,?_]
  rw[show i.toArray.any (mM x)=i.any (mM x) by simp,qI r f]
  exact q
 ·obtain⟨i,r,P,g⟩:=I.tuple hq
  refine SeqAt.notIn_tupleAt (mM x) P (λw c=>zZ R F r f w (by simpa using c)) #[.bl _,H,I,Z,?_]
  rw[show i.toArray.any (mM x)=i.any (mM x) by simp,qI r f]
  exact q
theorem jK:dR X (.builtin "len") (λx H Q=>∃p y,x=[.ref p]/\(aH X.K H p y∨aw X.K H p y)/\Q (.int y.length) H):=by
 intro d s g H x U Q I r h
 obtain⟨p,y,rfl,hq,q⟩:=h
 obtain⟨u,rfl,e⟩:=eJ r
 cases e
 have j:=dW
 rcases hq with hq |hq
 ·obtain⟨i,R,P,f⟩:=I.list hq
  have c:=R.length
  exact Calls.call_len_list P.isList (by simp only[Gj]<;>omega) #[.int y.length,H,I.tok _,#[s.toks+1,by rw[Gj,c]],q]
 ·obtain⟨i,R,P,f⟩:=I.tuple hq
  have c:=R.length
  exact len_tuple P (by simp only[Gj]<;>omega) #[.int y.length,H,I.tok _,#[s.toks+1,by rw[Gj,c]],q]
theorem qT:dR X (.type "list") (λx H Q=>∃p y,x=[.ref p]/\(aH X.K H p y∨aw X.K H p y)/\∀l,H l=none->Q (.ref l) (af H l (.lst y))):=by
 intro P s z H x U Q I r h
 obtain⟨p,y,rfl,hq,q⟩:=h
 obtain⟨u,rfl,A⟩:=eJ r
 cases A
 have f:∀(i:List Value),ax y i->y.length<=sizeLine->∀(c:Heap) (C:Nat),(∀b O,s.heap.get? b=some O->c.get? b=some O)->
   c.get? s.heap.objs.size=some { cls:=.type "list",dict:=none,data:=.seq i.toArray C,slots:=(List.toArray []) }->EP X P z Q (.ref s.heap.objs.size) { s with heap:=c }:=λi R d c C k e=>
  #[.ref s.heap.objs.size,_,I.laid (t':=s.toks) k (Gh _) (show aK X.prog X.w _ c _ (.lst y) from #[d,i,C,R,e]),Z,q _ (I.hok.fresh (Gh _))]
 rcases hq with hq |hq
 ·obtain⟨i,R,j,d⟩:=I.list hq
  have g:=R.length
  obtain⟨o,m,t,n,v⟩:=j.isList
  exact call_list_seq p (.inl Z) m t v (λc C k e=>f i R d c C k e) (by simp only[Gj]<;>omega)
 ·obtain⟨i,R,j,d⟩:=I.tuple hq
  have g:=R.length
  obtain⟨o,m,t,n,v⟩:=j
  exact call_list_seq p (.inr Z) m t v (λc C k e=>f i R d c C k e) (by simp only[Gj]<;>omega)
theorem jI:dR X (.type "tuple") (λx H Q=>∃p y,x=[.ref p]/\((aH X.K H p y/\∀l,H l=none->Q (.ref l) (af H l (.tup y)))∨(aw X.K H p y/\Q (.ref p) H))):=by
 intro P s g H x U Q I r h
 obtain⟨p,y,rfl,h⟩:=h
 obtain⟨u,rfl,n⟩:=eJ r
 cases n
 rcases h with ⟨d,q⟩ | ⟨d,q⟩
 ·obtain⟨i,R,f,j⟩:=I.list d
  have k:=R.length
  refine call_tuple_list f.isList (λc t=>?_) (by simp only[Gj]<;>omega)
  have m:ap X P g H { s with heap:=c }:=I.kept (t':=s.toks) t
  have v:ap X P g (af H c.objs.size (.tup y)) { s with heap:=c.push { cls:=.type "tuple",data:=.seq i.toArray } }:=
   m.laid (t':=s.toks) (λb o e=>Gf _ e) (Gh _) (show aK X.prog X.w _ _ _ (.tup y) from #[j,i,R,N5 _ _])
  exact#[.ref c.objs.size,_,v,Z,q _ (m.hok.fresh (Gh _))]
 ·obtain⟨i,R,f,j⟩:=I.tuple d
  exact call_tuple_same f #[.ref p,H,I,Z,q]
def EW(K:Frag)(T:String)(x:V)(H:Hp):Prop:=match x with
 | .str _=>T="str"
 | .int _=>T="int"
 | .ref p=>(T="list"/\∃c,aH K H p c)∨(T="tuple"/\∃o,K.lookup p=some o/\o.cls= .type "tuple"/\o.dict=none)∨
   (T="dict"/\((∃k,H p=some (.dK k))∨∃k,H p=some (.dT k)))∨(T="set"/\∃S n,H p=some (.set S n))
 |_=>False
theorem um(I:ap X j u H s)(r:aC x v)(d:EW X.K T x H):
  s.TypeIs v T/\∀a,v= .ref a->∃O,s.heap.get? a=some O/\O.dict=none:=by
 cases x with
 |str z=>
  obtain⟨t,rfl⟩:=r
  cases (show T="str" from d)
  exact#[typeIs_str s z t,λ_ e=>nomatch e]
 |int i=>
  obtain⟨t,rfl⟩:=r
  cases (show T="int" from d)
  exact#[typeIs_int s i t,λ_ e=>nomatch e]
 |ref p=>
  cases r
  rcases d with ⟨rfl,w,l⟩ | ⟨rfl,o,h,m,f⟩ | ⟨rfl,h⟩ | ⟨rfl,S,n,h⟩
  ·obtain⟨q,_,P,_⟩:=I.list l
   refine#[P.isList.typeIs,λa e=>?_]
   cases e
   obtain⟨o,n,e,c,f,_⟩:=P
   exact#[o,e,f]
  ·refine#[#[o,I.kIn p o h,m],λa e=>?_]
   cases e
   exact#[o,I.kIn _ o h,f]
  ·have z:∃o,s.heap.get? p=some o/\o.ExactDict:=by
    rcases h with ⟨k,h⟩ | ⟨k,h⟩
    ·obtain⟨_,_,_,_,o,_,_,e,E,_⟩:=I.hok p _ h
     exact#[o,e,E]
    ·obtain⟨_,_,_,_,o,_,_,e,E,_⟩:=I.hok p _ h
     exact#[o,e,E]
   obtain⟨o,e,E⟩:=z
   refine#[#[o,e,E.1],λa g=>?_]
   cases g
   exact#[o,e,E.2.1]
  ·obtain⟨o,_,_,_,e,E,_⟩:=I.hok p _ h
   refine#[#[o,e,E.1],λa g=>?_]
   cases g
   exact#[o,e,E.2.1]
 |_=>exact False.elim d
def EQ(K:Frag)(T:String)(r:V->List V->Hp->VK->Prop)(t:TE):TE:=λc H Q=>t c H λx h=>EW K T x h/\r x [] h Q
def EO(K:Frag)(T:String)(r:V->List V->Hp->VK->Prop)(d:TE)(t:TA):TE:=λc H Q=>d c H λx h=>EW K T x h/\t c h λe f=>r x e f Q
variable {o e:Expr}{es:List Expr}{to:TE}{t:TA}{name:Str}{apos cpos:Pos}{T id:String}{r:V->List V->Hp->VK->Prop}
theorem AR(P:PlainAttrs T)(S:Slot T name id)(f:typeOf (.builtin id)=pure (.type "method_descriptor"))(j:Eh X id r)(k:PE X o to)
  (c:attributeBase o name X.env (eval o X.env)=eval o X.env:=by rfl) (d:(apos.endLine==cpos.line)=true:=by rfl):PE X (.Call (.Attribute o name apos) [] [] cpos) (EQ X.K T r to):=by
 intro p s g H Q I h
 refine wpAny_Call_method0_late c d (aQ (k p s g H _ I h) λv l z=>?_)
 obtain⟨x,m,i,R,n,q⟩:=z
 obtain⟨u,w⟩:=um i R n
 exact#[T,id,P,S,f,u,w,LL Z (PySem.evalArgs_none (j p l g m x [] v [] Q i R .nil q))]
theorem kn(P:PlainAttrs T)(S:Slot T name id)(i:typeOf (.builtin id)=pure (.type "method_descriptor"))(m:Eh X id r)(n:PE X o to)(q:PA X (e::es) t)
  (d:attributeBase o name X.env (eval o X.env)=eval o X.env:=by rfl)
  (g:((backTo cpos (starEach (e::es) X.env)).all (λx=>!x.1)&&(backToKw cpos (keywordEach [] X.env)).all (λx=>x.1.isSome)
   &&decide ((e::es).length+([]:List Keyword).length+(if ([]:List Keyword).isEmpty then 0 else 1) < 30))=true:=by rfl)
  (f:(apos.endLine==cpos.line)=true:=by rfl) (u:starEach (e::es) X.env=(false,eval e X.env)::starEach es X.env:=by rfl) (c:(backTo cpos (starEach es X.env)).any (·.1)=false:=by rfl):
  PE X (.Call (.Attribute o name apos) (e::es) [] cpos) (EO X.K T r to t):=by
 intro p s j H Q I h
 refine wpAny_Call_method_late d g f Z (aQ (n p s j H _ I h) λv w z=>?_)
 obtain⟨x,y,k,R,A,B⟩:=z
 obtain⟨C,D⟩:=um k R A
 refine#[T,id,P,S,i,C,D,?_]
 have l:=q cpos p w j y _ k B
 rw[u]at l ⊢
 refine LL (by show(false||(backTo cpos (starEach es X.env)).any (·.1))=false;rw[c]<;>rfl) (Nw ?_)
 exact aQ l λU E #[F,G,J,L,M]=>m p E j G x F v U Q J R L M
end
def Cc(X:Cx)(id:String)(r:V->List V->Hp->VK->Prop):Prop:=
 ∀(p:List (Addr×Obj)) (s:Shared) (a:St) (H:Hp) (x:V) (b:List V) (v:Value) (u:List Value) (Q:VK),ap X p a H s->aC x v->ax b u->r x b H Q->
  wpAny (model X.prog X.w) X.A (call (.builtin id) (v::u)) (EP X p a Q) X.xe s
theorem ax.one:∀{x:V} {U:List Value},ax [x] U->∃u,U=[u]/\aC x u
 |_,_,.cons r .nil=>#[_,Z,r]
theorem ax.zero:∀{u:List Value},ax [] u->u=[]
 |_,.nil=>rfl
theorem ax.dropLast(h:ax x u):ax x.dropLast u.dropLast:=by
 induction h with
 |nil=>exact .nil
 |cons r t i=>
  cases t with
  |nil=>exact .nil
  |cons q T=>exact .cons r i
theorem ax.reverse(h:ax x u):ax x.reverse u.reverse:=by
 induction h with
 |nil=>exact .nil
 |cons r t i=>rw[Lu,Lu];exact ax.append i (.cons r .nil)
theorem Yc{c:Type}(l:List c):l.eraseIdx (l.length - 1)=l.dropLast:=by
 induction l with
 |nil=>rfl
 |cons a r i=>
  cases r with
  |nil=>rfl
  |cons b r=>
   have e:(a::b::r).length - 1=((b::r).length - 1)+1:=by
    have h:(a::b::r).length=r.length+2:=rfl
    have H:(b::r).length=r.length+1:=rfl
    omega
   rw[e,List.eraseIdx_cons_succ,i]
   all_goals rfl
section
variable {X:Cx}{pins:List (Addr×Obj)}{σ:St}{H:Hp}{s:Shared}{l b:Addr}{xs ys zs:List V}
theorem ap.lset{i its':List Value}{f:Array Value->Array Value}{t':Nat}(I:ap X pins σ H s)(h:H l=some (.lst xs))
  (e:s.heap.get? l=some { cls:=.type "list",data:=.seq i.toArray n }) (a:f i.toArray=its'.toArray) (c:ax ys its') (d:ys.length<=sizeLine):
  ap X pins σ (af H l (.lst ys)) { s with heap:=s.heap.update l (Obj.mapSeq f),toks:=t' }:=by
 have q:=PySem.IsL.update e f
 rw[a]at q
 refine I.write (x:=l) (e:=l) (by rw[h];exact trivial) (.inl Z) (λB u g j=>(Gv s.heap (Obj.mapSeq f) (G7 g)).trans j) #[_,q] ?_
 exact#[d,its',_,c,q]
theorem ap.lnew{t':Nat}(I:ap X pins σ H s)(h:ax ys i)(a:ys.length<=sizeLine):
  ap X pins σ (af H s.heap.objs.size (.lst ys)) { s with heap:=s.heap.push { cls:=.type "list",data:=.seq i.toArray },toks:=t' }:=
 I.laid (λ_ _ q=>Gf _ q) (Gh _) #[a,i,0,h,Gm _ Z]
theorem ap.fresh(I:ap X pins σ H s):H s.heap.objs.size=none:=I.hok.fresh (Gh _)
theorem ap.lstM(I:ap X pins σ H s)(h:H l=some (.lst xs)):xs.length<=sizeLine/\∃(i:List Value) (n:Nat),ax xs i/\xs.length=i.length/\s.heap.get? l=some { cls:=.type "list",data:=.seq i.toArray n }:=by
 obtain⟨z,i,n,r,e⟩:=I.hok l _ h
 exact#[z,i,n,r,r.length,e]
theorem fb(h:n<=sizeLine):Builtin.List.listTooLong n=false:=by
 unfold Builtin.List.listTooLong
 exact GH P0
end
section
variable {X:Cx}
inductive iT(x:V)(a:List V)(H:Hp)(Q:VK):Prop
 |mk(l b y:_)(_:x= .ref l)(_:a=[y])(_:H l=some (.lst b))(_:b.length < sizeLine)(_:Q .non (af H l (.lst (b++[y]))))
theorem jR:Cc X "list.append" iT:=by
 intro p s d H x V v U Q I R b h
 obtain⟨l,f,y,rfl,rfl,a,g,q⟩:=h
 cases R
 obtain⟨u,rfl,c⟩:=b.one
 obtain⟨z,i,n,r,j,e⟩:=I.lstM a
 refine MH F.slot_list_append #[_,e,Z] F.entry_list_append (F.args_list_append_2 _ _) (PySem.list_append l i.toArray n u (by rw[Gj];omega)) #[e,?_]
 refine#[.non,_,I.lset (its':=i++[u]) a e P5 (r.append (.cons c .nil)) ?_,Z,q]
 rw[Gi,IH]
 omega
inductive nK(x:V)(a:List V)(H:Hp)(Q:VK):Prop
 |mk(l b c d:_)(_:x= .ref l)(_:a=[.ref b])(_:H l=some (.lst c))(_:H b=some (.lst d))(_:c.length+d.length<=sizeLine)(_:Q .non (af H l (.lst (c++d))))
theorem Ji:Cc X "list.extend" nK:=by
 intro p s t H x V v U Q I R g h
 obtain⟨l,b,w,y,rfl,rfl,f,j,A,q⟩:=h
 cases R
 obtain⟨u,rfl,k⟩:=g.one
 cases k
 obtain⟨z,a,n,r,B,e⟩:=I.lstM f
 obtain⟨C,i,N,m,o,E⟩:=I.lstM j
 have d:a.toArray.size+i.toArray.size<=sizeLine:=by rw[Gj,Gj];omega
 have c:¬(!a.toArray.isEmpty&&Builtin.List.listTooLong (a.toArray.size+i.toArray.size))=true:=by
  rw[fb d,Mj]
  exact Gn
 refine MH Oq #[_,e,Z] Of (N6 _ _)
  (AutoSeq1.list_extend_list_list_0 l a.toArray n b i.toArray N c (by rw[Gj];omega) P0) #[e,E,?_]
 refine#[.non,_,I.lset (its':=a++i) f e P5 (r.append m) ?_,Z,q]
 rw[Gi]
 omega
inductive Ds(x:V)(a:List V)(H:Hp)(Q:VK):Prop
 |mk(l b y:_)(_:x= .ref l)(_:a=[])(_:H l=some (.lst b))(_:b[b.length - 1]?=some y)(_:Q y (af H l (.lst b.dropLast)))
theorem Aa:Cc X "list.pop" Ds:=by
 intro p s m H x V v U Q I R d h
 obtain⟨l,o,y,rfl,rfl,c,f,q⟩:=h
 cases R
 have a:=d.zero
 subst a
 obtain⟨z,i,n,r,g,e⟩:=I.lstM c
 obtain⟨u,j,k⟩:=r.get f
 have b:i.toArray[i.toArray.size - 1]?=some u:=by
  show i.toArray[i.length - 1]?=some u
  rw[<- Ip,<- g]
  exact j
 refine MH F.slot_list_pop #[_,e,Z] F.entry_list_pop (F.args_list_pop_1 _) (MeetsSeq.list_pop_last l i.toArray n u b (by rw[Gj];omega)) #[e,?_]
 refine#[y,_,I.lset (its':=i.dropLast) c e ?_ r.dropLast ?_,k,q]
 ·show i.toArray.eraseIdxIfInBounds (i.toArray.size - 1)=i.dropLast.toArray
  rw[Gj,List.eraseIdxIfInBounds_toArray,Yc]
 ·rw[List.length_dropLast]
  omega
inductive wA(x y:V)(H:Hp)(Q:VK):Prop
 |mk(l b a c:_)(_:x= .ref l)(_:y= .ref b)(_:H l=some (.lst a))(_:H b=some (.lst c))(_:a.length+c.length<=sizeLine)(_:∀p,H p=none->Q (.ref p) (af H p (.lst (a++c))))
theorem zX:eN X (binaryOp .Add) wA:=by
 intro p s m H x y v u Q I R c h
 obtain⟨l,b,o,t,rfl,rfl,d,f,w,q⟩:=h
 cases R
 cases c
 obtain⟨z,a,n,r,A,e⟩:=I.lstM d
 obtain⟨B,i,N,g,j,E⟩:=I.lstM f
 refine PySem.P.add_list e E ?_ (by rw[Gj,Gj];omega)
 have k:a.toArray++i.toArray=(a++i).toArray:=by simp
 rw[k]
 exact#[.ref _,_,I.lnew (t':=s.toks) (r.append g) (by rw[Gi];omega),Z,q _ I.fresh]
end
section
variable {prog:Program}{w:World}{A:Around}{E:Value->Shared->Prop}{s:Shared}
theorem Zx(i I : List Value)(a c : Nat) : i.toArray.extract 0 a ++ I.toArray ++ i.toArray.extract c i.toArray.size = (i.take a ++ I ++ i.drop c).toArray := by
  apply Array.toList_inj.mp
  first
    | (simp
       exact Ii P5)
    | simp [Ii]
    | simp
theorem Yd{a c n:Nat}(hac:a<=c)(hc:c<=n):sliceBounds (some (a:Int)) (some (c:Int)) none n=((a:Int),(c:Int),1):=by
 simp only[sliceBounds,Mw]
 have h1:¬((a:Int) < 0):=by omega
 have h2:¬((c:Int) < 0):=by omega
 simp only[h1,h2,HW,show(1:Int) > 0 by decide,Ln]
 congr 1
 ·omega
 ·congr 1;omega
set_option maxRecDepth 100000 in
theorem KK{a c : Nat}{Q : Unit -> Shared -> Prop}
    (e : s.heap.get? l = some { cls := .type "list", data := .seq i n }) (y : s.heap.get? b = some { cls := .type "list", data := .seq N I }) (q : l ≠ b)
    (C : s.heap.IsSliceOf p z B .none) (P : IsPart z (some (a : Int))) (D : IsPart B (some (c : Int))) (r : a <= c) (F : c <= i.size)
    (f : i.size + N.size <= sizeLine) (h : Q () { s with heap := s.heap.update l (Obj.mapSeq λX => X.extract 0 a ++ N ++ X.extract c X.size) }) :
    wpAny (model prog w) A (setItem (.ref l) (.ref p) (.ref b)) Q E s := by
  have t : s.heap.IsList l i := Nv e
  have G : s.heap.IsList b N := Nv y
  obtain ⟨os, d, u, g⟩ := id C
  have k : s.TypeIs (.ref p) "slice" := #[os, d, u]
  have j : ¬ ((rawPart none == rawInt 0) = true) := Gn
  have H : Builtin.List.listSameRef (.ref l) (.ref b) = false := by
    unfold Builtin.List.listSameRef
    exact beq_eq_false_iff_ne.mpr q
  have o : (max (a : Int) (c : Int)).toNat = c := by omega
  have v : ((λX : Array Value => X.extract 0 a ++ N ++ X.extract c X.size) i).size <= sizeLine + 1 := by
    simp only [Mv, Array.size_extract]
    omega
  unfold setItem
  try with_reducible refine GN ?_
  first | refine Gb (Ge ?_) | skip
  refine Gb (MP t.typeIs PZ ?_)
  refine Gb (Hd (name := Str.ofString "__setitem__") t.typeIs OQ
    (Hi OQ t.typeIs entry_list_setitem ?_ (args_list_setitem _ _ _)))
  show wpAny _ _ (Builtin.List.listSubscript? (.ref p) >>= _) _ _ s
  refine Gb ?_
  unfold Builtin.List.listSubscript?
  refine Gb (Ij k slice_no_index ?_)
  simp only [NA, Ln]
  refine Ge ?_
  show wpAny _ _ (typeOf (.ref p) >>= _) _ _ s
  refine Gb (Iq k ?_)
  first
    | rw [GG PZ]
    | refine LS PZ ?_
  rw [listSliceParts_eq]
  refine Gb (Gb (GL d g (x := .none) Z (Gb (Nr .none ?_))))
  rw [GG j]
  refine Gb (GL d g (x := z) Z (Gb (Nr P ?_)))
  refine Gb (GL d g (x := B) Z (Gb (Nr D (Ge ?_))))
  first
    | simp only [H, Gs, HW]
    | refine LS H ?_
    | (dsimp only
       rw [GG (by rw [H]; exact Gn)])
  refine Gb (m := Builtin.List.listAllItems (.ref b) "must assign iterable to extended slice") ?_
  unfold Builtin.List.listAllItems
  refine Gb (Iq G.typeIs ?_)
  first
    | refine PR PZ ?_
    | rw [Gw PZ]
    | simp only [Lq, Mx, Ln]
  unfold Builtin.List.listItems
  refine Gb (Hs y Z (Ge ?_))
  refine Gb (Gb (Hs e Z (Ge ?_)))
  refine Gb (LP ((sliceIndices_raw (some (a : Int)) (some (c : Int)) none i.size P5).trans (HL (pure : Int × Int × Int -> Sem (Int × Int × Int)) (Yd r F))) ?_)
  show wpAny _ _ (if ((1 : Int) == 1) = true then _ else _) _ _ s
  rw [Gw PZ]
  refine Gb (Iw ?_)
  first
    | simp only [fb f, Gs, HW]
    | refine LS (fb f) ?_
  first | refine Gb (Ge ?_) | skip
  show wpAny _ _ (updateSeq l (λX => X.extract 0 ((a : Int)).toNat ++ N ++ X.extract (max (a : Int) (c : Int)).toNat X.size) >>= _) _ _ s
  rw [o, Hq]
  refine Gb (Ml (hz := Gr (Il _ _) f) (_hz' := v) e Z ?_)
  refine Gb (Oi ?_)
  first
    | exact Gb (Ge (Ge #[.none, Z, Ge h]))
    | exact Ge #[.none, Z, Ge h]
end
section
variable {X:Cx}
theorem Zy{Q:Unit->Shared->Prop}(I:ap X p o H s)
  (k:H l=some (.lst x)) (q:H b=some (.lst y)) (f:l≠b) (t:s.heap.IsSliceOf u v B .none) (R:aC (.int a) v) (D:aC (.int c) B) (m:0<=a) (g:a<=c) (J:c<=x.length)
  (K:x.length+y.length<=sizeLine) (h:∀S,ap X p o (af H l (.lst (x.take a.toNat++y++x.drop c.toNat))) S->Q () S):
  wpAny (model X.prog X.w) X.A (setItem (.ref l) (.ref u) (.ref b)) Q X.xe s:=by
 obtain⟨T,rfl⟩:=R
 obtain⟨L,rfl⟩:=D
 obtain⟨z,d,n,r,M,e⟩:=I.lstM k
 obtain⟨N,i,O,E,F,G⟩:=I.lstM q
 obtain⟨j,rfl⟩:=Nk m
 obtain⟨C,rfl⟩:=Nk (Int.le_trans m g)
 simp only[Hq]at h
 refine KK (a:=j) (c:=C) e G f t (.int _ _) (.int _ _) P0 (by rw[Gj];omega) (by rw[Gj,Gj];omega) (h _ ?_)
 refine I.lset (its':=d.take j++i++d.drop C) (t':=s.toks) k e ?_ (ax.append (ax.append (r.take _) E) (r.drop _)) ?_
 ·exact Zx d i j C
 ·rw[Gi,Gi,GV,Ik]
  omega
end
end _L
namespace Att
open PySem PySem.W PySem.Calls PyProof.Rows
theorem Jz{P:Params}:∀(N:List Int) (v:List Value),WellAll P h v (N.map WData.int)->IntsAre v N:=by
 intro N
 induction N with
 |nil=>
  intro v w
  rw[OU]at w
  cases w
  exact .nil
 |cons n N i=>
  intro v w
  rw[HS]at w
  cases w with
  |cons a b=>
   cases a
   exact .cons _ _ (i _ b)
theorem Zz{l:OpenLaw}(k:l.most=some n){P:Params}
  (H:l.row.toRowW.claim.pre args=true) (g:WellAll P h v args):
  ∃a V N,v=[Value.ref a]/\args=[WData.list (N.map WData.int)]/\h.get? a=some { cls:=.type "list",data:=.seq V.toArray }/\IntsAre V N/\N.length<=n:=by
 have i:WShape.hasAll [] args [.list .int]=true:=(pre_splitW H).1
 have j:l.pre.holds [] { args:=args }=true:=(pre_splitW H).2
 obtain⟨d,r,rfl,m,o⟩:=hasAllW_cons i
 obtain rfl:=hasAllW_nil o
 obtain⟨x,rfl,p⟩:=hasW_list m
 obtain⟨N,rfl⟩:=items_int p
 have b:N.length<=n:=by
  unfold OpenLaw.pre at j
  have e:(WTm.not (.lt (.lit (.int (n:Int))) (.len (.arg 0)))).holds [] { args:=[.list (N.map .int)] }=true:=by
   have e:=(holds_andW j).1
   rw[k]at e
   exact e
  have f:=condW_of e (w_not (w_lt w_lit (w_len_list (w_arg Z))))
  rw[Gg]at f
  refine LJ λq=>?_
  have Q:(n:Int) < ((N.length:Nat):Int):=by omega
  first
   | (rw[G8 Q]at f;exact absurd f PZ)
   | (simp at f;omega)
 cases g with
 |cons w W=>
  cases W
  cases w with
  |list s c=>exact#[_,_,N,Z,Z,s,Jz N _ c,b]
theorem ZA(l:OpenLaw)(args:List WData):l.row.toRowW.claim.post args (.bool true) args=true:=
 postW_of (r:=l.row.toRowW) (X:=(true==true))
  (show WShape.has [] (.bool true) .bool=true by first |rfl |decide |simp [WShape.has,WShape.arms,WShape.armsAll])
  (show(WTm.eq .res (.lit (.bool true))).value [] { args:=args,res:=some (.bool true),after:=args }=some (.bool (true==true)) from w_eq_bool (w_res Z) w_lit) Z
theorem attach_call{l:OpenLaw}{y:World->Heap->Prop}{d:DefRec}
  (x:l.most=some n) (g:d.params.defaults=[])
  (call:∀(w:World) (S s:Shared) (m M:Str->Option Value) (F:Addr) (o:Obj) (p C D:Value) (a:Addr) (v:List Value) (N:List Int),
   Ground q L [] z w S m M s.heap->y w s.heap->
   s.heap.get? F=some o->o.data= .func (docDef d.name d.params d.body d.scope p C D)->s.heap.CodeRec C d.name->m d.name=some (.ref F)->
   s.heap.get? a=some { cls:=.type "list",data:=.seq v.toArray }->IntsAre v N->N.length<=n->s.gens=(List.toArray [])->
   codeAny (model l.prog w) callerA (.call (.ref F) #[[.ref a],[]]) (λr e=>r= .ok (.ret (.bool true))/\OldK s.heap e.heap/\e.os=s.os/\AllBare e.gens) s):
  WalkO q L z y l.row.toRowW d [] (λf v=>PySem.call f v):=by
 intro w S s m M G Y F o p C D B kV E I i t j J A V W H u K k O
 obtain rfl:B= .none:=Dflts.none t g
 obtain rfl:kV= .none:=Dflts.noKw t
 obtain⟨a,v,N,rfl,rfl,b,h,c⟩:=Zz x H k
 refine enter_call (IK (call w S s m M F o p C D a v N G Y E (fd_plain I) i j b h c J) λr e P=>?_)
 obtain⟨rfl,Q,R,T⟩:=P
 exact#[.inl #[.bool true,.bool true,[],Z,λ_=>Z,.bool true,ZA l _,λ_=>#[List.Pairwise.nil,λ_ U=>(nomatch U)]],Q,R,T]
end Att
namespace _L
open PySem PySem.Spec PyProof.Rows
theorem Qg:∀{v:List Value} {N:List Int},IntsAre v N->ax (N.map V.int) v
 |_,_,.nil=>.nil
 |_,_,.cons n t h=>.cons #[t,Z] (Qg h)
def yu(H:Hp):Prop:=∀b,H b=none∨∃o x,H b=some (.frz o (.lst x))
theorem re{P:Program}{K:Frag}{S:Shared}{i:List Value}
  (Y:K.In S.heap) (l:S.heap.Ns mainGlobals M) (c:S.heap.Ns builtinsNs mb) (Q:∀x:Str,x≠"__name__"->mb x=bootBuiltins x) (p:S.heap.NoLimit) (hg:S.gens=(List.toArray []))
  (J:S.heap.get? a=some { cls:=.type "list",data:=.seq i.toArray }) (hi:IntsAre i O) (hl:O.length<=sizeLine) (hr:bH k callerA)
  (F:∀f:Heap,K.In f->f.Ns mainGlobals M->ah P w K M f CX k fa fd [x] sp) (j:∀(s:Shared) (u:Value),BindsTo s fd #[[u],[]] [(x,u)])
  (R:∀H:Hp,yu H->aH K H a (O.map V.int)->sp [.ref a] H (λv _=>v= .bl true) λ_ _ _=>False)
  (T:∀H e g,CX [] H S (λ_ _ _=>False) e g->False):
  codeAny (model P w) callerA (.call (.ref fa) #[[.ref a],[]]) (λr g=>r= .ok (.ret (.bool true))/\OldK S.heap g.heap/\g.os=S.os/\AllBare g.gens) S:=by
 have rv:=Qg hi
 have L:=hi.length
 have C:∀H:Hp,yu H->aH K H a (O.map V.int)->eF P w H S.heap->(∀b,H b≠none->b=a)->(H a≠none->K.lookup a=none)->
   codeAny (model P w) callerA (.call (.ref fa) #[[.ref a],[]]) (λr g=>r= .ok (.ret (.bool true))/\OldK S.heap g.heap/\g.os=S.os/\AllBare g.gens) S:=by
  intro H hO hS t hA hK
  have B:∀{b:Addr} {o:Obj},S.heap.get? b=some o->H b=none->(iQ S.heap H).get? b=some o:=λe n=>pU e n
  have U:∀{b:Addr} {o:Obj} {E:Array DictEntry} {y:Nat},S.heap.get? b=some o->o.data= .dict E y->H b=none:=λ{b o E y} e d=>by
   cases q:H b with
   |none=>rfl
   |some u=>
    have W:b=a:=hA b (by rw[q];simp)
    subst W
    rw[J]at e;cases e
    have d':Data.seq i.toArray _=Data.dict E y:=d
    cases d'
  have N:∀{b:Addr} {m:Str->Option Value},S.heap.Ns b m->(iQ S.heap H).Ns b m:=λ{b m} #[o,E,y,e,d,r]=>#[o,E,y,B e (U e d),d,r]
  have A:K.In (iQ S.heap H):=λb o e=>B (Y b o e) (by
   cases q:H b with
   |none=>rfl
   |some u=>
    have W:b=a:=hA b (by rw[q];simp)
    subst W
    rw[hK (by rw[q];simp)]at e;cases e)
  have hM:Mod K M (iQ S.heap H):=#[A,N l,#[mb,N c,Q],let #[mc,h1,h2]:=p;#[mc,N h1,h2]]
  have e0:mz P w K M (iQ S.heap H) callerA [] S H:=#[Z,hM,λb o e=>vP e,MD (Zo _ _),trivial,λb c=>absurd (show b∈([]:List Addr) from c) P5,t,.of_eq hg]
  refine IK ((F _ A (N l)).run callerA [] S H #[[.ref a],[]] [.ref a] [.ref a] _ _ hr e0 (j S (.ref a)) (.cons Z .nil) (R H hO hS)) λr g h=>?_
  cases r with
  |error e=>exact(T H e g h).elim
  |ok fl=>
   cases fl with
   |next=>exact False.elim h
   |brk=>exact False.elim h
   |cont=>exact False.elim h
   |ret u=>
    obtain⟨v,H',os,D,un,G,r',q⟩:=h
    have q':v= .bl true:=q
    subst q'
    obtain rfl:u=Value.bool true:=r'
    refine#[Z,OldK.of_keep λb o e=>?_,os,D]
    cases q:H b with
    |none=>exact un.keep b o e q (by intro z;exact absurd (show b∈([]:List Addr) from z) P5) P5
    |some u=>
     rcases hO b with z | ⟨ob,xs,z⟩
     ·rw[q]at z;cases z
     ·have z2:=un.frzs b ob _ z
      obtain⟨e1,_⟩:=t b _ z
      obtain⟨e2,_⟩:=G b _ z2
      rw[e]at e1;cases e1
      exact e2
 cases X:K.lookup a with
 |some o=>
  have e:=Y a o X
  rw[J]at e
  cases e
  refine C (λ_=>none) (λ_=>.inl Z) (.inr #[_,i.toArray,_,X,Z,Z,Z,by rw[Gj,L];exact hl,by simpa using rv]) (λb u z=>by have I:(none:Option HO)=some u:=z;cases I) (λb z=>absurd Z z) λz=>absurd Z z
 |none=>
  refine C (λb=>if b=a then some (.frz { cls:=.type "list",data:=.seq i.toArray } (.lst (O.map V.int))) else none) (λb=>?_) (.inl (.inr #[{ cls:=.type "list",data:=.seq i.toArray },Gw Z])) (λb u z=>?_) (λb z=>?_) λ_=>X
  ·by_cases c:b=a
   ·exact .inr #[_,_,Gw c]
   ·exact .inl (GG c)
  ·by_cases c:b=a
   ·have I:=(Gw c).symm.trans z
    cases I
    subst c
    exact#[J,by rw[Gg];exact hl,i,_,rv,J]
   ·have I:=(GG c).symm.trans z
    cases I
  ·by_cases c:b=a
   ·exact c
   ·exact absurd (GG c) z
theorem xq{l:PySem.W.OpenLaw}{n k:Nat}{E:World->Heap->Prop}{d:DefRec}{K:Params->Frag}{CX:World->nB}{sp:World->Sp}{x:Str}
  (O:l.most=some n) (r:n<=sizeLine) (t:d.params.defaults=[]) (P:bH k callerA)
  (Q:∀(w:World) (h:Heap),E w h->(K w.params).In h)
  (F:∀(w:World) (m:Str->Option Value) (p:Addr) (h:Heap),(K w.params).In h->h.Ns mainGlobals m->m d.name=some (.ref p)->
   ∃y:FuncData,(∀(s:Shared) (u:Value),BindsTo s y #[[u],[]] [(x,u)])/\
    ∀B:Heap,(K w.params).In B->B.Ns mainGlobals m->ah l.prog w (K w.params) m B (CX w) k p y [x] (sp w))
  (z:∀(w:World) (H:Hp) (a:Addr) (N:List Int),N.length<=n->yu H->aH (K w.params) H a (N.map V.int)->sp w [.ref a] H (λv _=>v= .bl true) λ_ _ _=>False)
  (A:∀(w:World) (H:Hp) (s:Shared) (e:Value) (C:Shared),CX w [] H s (λ_ _ _=>False) e C->False):
  PySem.W.WalkO q L XP E l.row.toRowW d [] (λf I=>PySem.call f I):=by
 refine Att.attach_call O t λw J S m mb p o pm cd R a I N G Y ho hd U D j i c X=>?_
 have M:=Q w _ Y
 obtain⟨y,hb,hF⟩:=F w m p _ M G.T.g D
 exact re M G.T.g G.T.b G.T.builtins G.T.nolimit X j i (Gr c r) P hF hb (λH hO hS=>z w H a N c hO hS) λH e C=>A w H S e C
noncomputable def bE(s:Stmt)(j:Nat):Stmt:=match s with
 | .ClassDef _ _ _ b _ _ _ _ _ _ _=>b.getD j (.Pass #[0,0,0,0])
 |_=>.Pass #[0,0,0,0]
noncomputable def bJ(s:Stmt):Arguments:=match s with
 | .FunctionDef _ a _ _ _ _ _ _ _ _=>a
 |_=>{ posonlyargs:=[],args:=[],vararg:=none,kwonlyargs:=[],kw_defaults:=[],kwarg:=none,defaults:=[] }
noncomputable def bo(s:Stmt):List Stmt:=match s with
 | .FunctionDef _ _ b _ _ _ _ _ _ _=>b
 |_=>[]
noncomputable def aa(s:Stmt):Scope:=match s with
 | .FunctionDef _ _ _ _ _ _ S _ _ _=>S
 |_=>{ kind:=.function,names:=[],isGenerator:=false,isCoroutine:=false }
abbrev ay:nB:=λ_ _ _ _ _ _=>False
abbrev E0:XK:=λ_ _ _=>False
theorem a6{X:Cx}:dj ay X E0:=λ_ _ _ _ _ _ _ h=>h.elim
structure aN(K:Frag)(x qual:Str)(st:Stmt)(f:Addr)(fd:FuncData):Prop where
 ex:∃(oc:Value) (od:Option Addr) (kV doc pm:Value) (an:Option Addr) (cdv ct:Value) (osl:Array (Option Value)),
  fd=fnOf x qual (bJ st) (bo st) (aa st) .none kV doc pm an cdv ct/\K.lookup f=some #[oc,od,.func fd,osl]/\codeIn K cdv qual=true
 kp:keepIn K (.ref f)=true
section
variable {P:Program}{w:World}{K:Frag}{mg:Str->Option Value}{base:Heap}
theorem aN.ok{st:Stmt}{d:Sp}(F:aN K x a st f i)(S:aj N p (aa st))(len:∀v H Q E,d v H Q E->v.length=p.length)
  (b:∀(c:Value) (A:Around) (o:List Env) (s:Shared) (H:Hp) (v:List V) (Q:VK) (E:XK),bH k (A.deeper (envOfC a (aa st) s.heap.objs.size f c))->d v H Q E->
   ∃t,lH (eY ay P w K mg base N a (aa st) f c A o s H E).nox (bo st) t/\t { nx:=λ_ j=>Q .non j,rt:=Q } (gf N v) H):ah P w K mg base ay (k+1) f i p d:=by
 obtain⟨m,n,kV,D,r,u,c,C,O,rfl,lk,e⟩:=F.ex
 refine xS lk e S len λA o s H v Q E l g=>?_
 obtain⟨t,h,q⟩:=b c A o s H v Q E l g
 exact#[t,h.nox,q]
theorem aN.binds{st:Stmt}{p:List Str}(F:aN K x q st f b)
  (h:∀(kV d a:Value) (A:Option Addr) (c C:Value) (u:List Value),u.length=p.length->bindArgs (fnOf x q (bJ st) (bo st) (aa st) .none kV d a A c C) #[u,[]]=pure (p.zip u)):au K b p []:=by
 obtain⟨O,e,kV,d,a,A,c,C,o,rfl,lk,H⟩:=F.ex
 exact .all (h kV d a A c C)
theorem pM{st:Stmt}{kV:Value}(l:K.lookup f=some #[O,e,.func (fnOf x q (bJ st) (bo st) (aa st) .none kV d p a C b),o])
  (c:codeIn K C q=true) (k:keepIn K (.ref f)=true):aN K x q st f (fnOf x q (bJ st) (bo st) (aa st) .none kV d p a C b):=#[#[O,e,kV,d,p,a,C,b,o,Z,l,c],k]
end
theorem zc(h:bH k A):A.units+1 < cLine:=HZ (NK (by decide:1<=64) _) h.units
section
variable {X:Cx}
theorem pv(i:Nat){x:Str}{p:Pos}(H:X.N[i]?=some x:=by rfl)(a:D6 X.env.scope x:=by first |exact Or.inl Z |exact Or.inr (Or.inl Z) |exact Or.inr (Or.inr Z))(b:(x==("__debug__":Str))=false:=by decide)
  (h:(x==("__classdict__":Str))=false:=by decide):PE X (.Name x p) (a7 i):=AT H a b h
end
theorem vA{A B:Prop}(h:B):if false=true then A else B:=by
 rw[GG Gn]
 exact h
theorem yW{A B:Prop}(h:A):if true=true then A else B:=by
 rw[Gw Z]
 exact h
theorem bP{c A B:Prop}[Decidable c](H:c->A)(a:¬c->B):if c then A else B:=by
 by_cases h:c
 ·rw[Gw h]
  exact H h
 ·rw[GG h]
  exact a h
def ae(H h:Hp):Prop:=∀b o,H b=some o->h b=some o
theorem ae.refl(H:Hp):ae H H:=λ_ _ h=>h
theorem ae.trans(a:ae H d)(b:ae d e):ae H e:=λc o h=>b c o (a c o h)
theorem ae.free(e:ae H a)(h:a l=Option.none):H l=Option.none:=by
 cases q:H l with
 |none=>rfl
 |some o=>
  rw[e l o q]at h
  cases h
theorem ae.seq{K:Frag}(e:ae H b)(h:aH K H a x):aH K b a x:=by
 rcases h with (h | ⟨o,h⟩) |h
 ·exact .inl (.inl (e _ _ h))
 ·exact .inl (.inr #[o,e _ _ h])
 ·exact .inr h
section
variable {prog:Program}{w:World}{A:Around}{R:Result->Shared->Prop}{s:Shared}
abbrev xH:Value->Shared->Prop:=λ_ _=>False
theorem ZB{iter:Expr}(I:Nat->Shared->Prop)
  (T:∀n s,I n s->wpAny (model prog w) A (pyNext B) (λr S=>match r with
   |none=>R (.ok .next) S
   |some v=>wpAny (model prog w) A (letOwnedTupleGo t B v) (λ_ b=>wpAny (model prog w) A (assign t e v) (λ_ d=>
     wpAny (model prog w) A (forIn l true λc r=>if r=true then do let o <- isTrue c e (eval c e);pure (ForInStep.yield o) else pure (ForInStep.yield r)) (λo a=>
      if o=true then wpAny (model prog w) A (eval E e) (λx g=>
       wpAny (model prog w) A (call (.builtin "list.append") [p,x]) (λ_ i=>∃m,m < n/\I m i) xH g) xH a
      else ∃m,m < n/\I m a) xH d) xH b) xH S) xH s)
  (n:Nat) (h:I n s):
  codeAny (model prog w) A (.compLoop (.ListComp E [#[t,iter,l,0]] k C) 0 B p e) R s:=by
 refine codeAny_loop Z I (λn s D=>?_) n h
 show wpAny _ A ((compTurn (.ListComp E [#[t,iter,l,0]] k C) 0 B p e).onRaise (λx=>do noteFrame x e;theTreesLotGoes x)) _ _ s
 refine wpAny_noted ?_
 rw[compTurn_list]
 refine Gb (IN (Gb (HI (T n s D) (λr S H=>?_) λ_ _ f=>f.elim)))
 cases r with
 |none=>exact Ge H
 |some v=>
  refine Gb (HI H (λ_ b q=>?_) λ_ _ f=>f.elim)
  refine Gb (HI q (λ_ d u=>Gb (HI u (λo a j=>?_) λ_ _ f=>f.elim)) λ_ _ f=>f.elim)
  cases o with
  |false=>exact Ge #[Z,j]
  |true=>
   exact Gb (Gb (HI j (λx g y=>Gb (HI y (λ_ i z=>Ge (Ge #[Z,z])) λ_ _ f=>f.elim)) λ_ _ f=>f.elim))
end
noncomputable def bf(X:Cx)(s:Scope)(M:List Str)(c:List (Str×Addr))(C:Addr)(f:List Addr)(S:Shared)(H:Hp):Cx where
 prog:=X.prog
 w:=X.w
 K:=X.K
 mg:=X.mg
 base:=X.base
 A:=X.A
 N:=M
 s₀:=S
 H₀:=H
 env:=compEnvC s c C X.env
 outer:=X.stack
 stack:=X.stack
 ex:=f
 fn:=λ_=>false
 calm:=X.calm
 pn:=[]
 xe:=λ_ _=>False
noncomputable def BQ(n:Nat)(I:List Nat)(a:St):St:=List.replicate n none++I.map λi=>(a[i]?).getD none
structure bG(N:List Str)(sc scope:Scope)(M:List Str)(nT:Nat)(ix:List Nat):Prop where
 cell:∀y∈scope.names,y.2≠ .cell
 kind:scope.kind= .function
 loc:∀y∈scope.names,y.2= .local->scope.names.lookup y.1=some .local
 fre:∀y∈scope.names,y.2= .free->sc.names.lookup y.1=some .cell
 nms:M.drop nT=ix.map λi=>N.getD i Str.empty
 len:M.length=nT+ix.length
 vis:∀i∈ix,scope.names.lookup (N.getD i Str.empty)=some .free
theorem qU{E:Env}(c:E.scope.kind= .function):∀{N:List (Str×NameKind)} {y:Str},N.lookup y=some .free->E.kindOf y=some .cell->
  (N.map λ(n,k)=>if (k==NameKind.free&&E.scope.kind== .function&&E.kindOf n==some .cell) then (n,NameKind.cell) else (n,k)).lookup y=some .cell
 | [],_,h,_=>by simp at h
 | (n,k)::r,y,h,b=>by
  have i:=@qU E c r y
  show List.lookup y ((if (k==NameKind.free&&E.scope.kind== .function&&E.kindOf n==some .cell)=true then (n,NameKind.cell) else (n,k))::_)=_
  cases H:y==n with
  |true=>
   simp only[Hw,H]at h
   cases h
   have e:y=n:=by simpa using H
   subst e
   rw[Gw (by rw[c,b];rfl)]
   simp [Hw]
  |false=>
   simp only[Hw,H]at h
   by_cases a:(k==NameKind.free&&E.scope.kind== .function&&E.kindOf n==some .cell)=true
   ·rw[Gw a];simp only[Hw,H];exact i h b
   ·rw[GG a];simp only[Hw,H];exact i h b
theorem Ku{E:Env}:∀{N:List (Str×NameKind)} {y:Str} {K:NameKind},
  (N.map λ(n,k)=>if (k==NameKind.free&&E.scope.kind== .function&&E.kindOf n==some .cell) then (n,NameKind.cell) else (n,k)).lookup y=some K->
  ∃k,N.lookup y=some k/\(K=k∨k= .free)
 | [],_,_,h=>by simp at h
 | (n,k)::r,y,K,h=>by
  have i:=@Ku E r y K
  have h:List.lookup y ((if (k==NameKind.free&&E.scope.kind== .function&&E.kindOf n==some .cell)=true then (n,NameKind.cell) else (n,k))::_)=some K:=h
  cases a:y==n with
  |true=>
   refine#[k,by simp only[Hw,a],?_]
   by_cases H:(k==NameKind.free&&E.scope.kind== .function&&E.kindOf n==some .cell)=true
   ·right
    simp only[Hy]at H
    simpa using H.1.1
   ·rw[GG H]at h;simp only[Hw,a]at h;left;exact(Hg h).symm
  |false=>
   have b:List.lookup y (r.map λ(n,k)=>if (k==NameKind.free&&E.scope.kind== .function&&E.kindOf n==some .cell) then (n,NameKind.cell) else (n,k))=some K:=by
    by_cases H:(k==NameKind.free&&E.scope.kind== .function&&E.kindOf n==some .cell)=true
    ·rw[Gw H]at h;simp only[Hw,a]at h;exact h
    ·rw[GG H]at h;simp only[Hw,a]at h;exact h
   obtain⟨c,e,q⟩:=i b
   exact#[c,by simp only[Hw,a];exact e,q]
noncomputable def aW(e:Env):List (Str×NameKind)->List (Str×Addr)->List (Str×Addr)
 | [],a=>a
 | (n,k)::r,a=>if k== .free then aW e r ((n,(e.cells.lookup n).getD 0)::a) else aW e r a
theorem zN{E:Env}:∀{N:List (Str×NameKind)} {acc:List (Str×Addr)},(∀y∈N,y.2= .free->∃c,E.cells.lookup y.1=some c)->(∀x c,acc.lookup x=some c->E.cells.lookup x=some c)->
  ∀x c,(aW E N acc).lookup x=some c->E.cells.lookup x=some c
 | [],_,_,b,x,c,h=>b x c h
 | (n,k)::r,acc,f,b,x,c,h=>by
  unfold aW at h
  by_cases g:(k==NameKind.free)=true
  ·rw[Gw g]at h
   refine zN (λy H=>f y (GJ _ H)) (λX j a=>?_) x c h
   obtain⟨C,d⟩:=f (n,k) GF (by simpa using g)
   have d:E.cells.lookup n=some C:=d
   simp only[Hw]at a
   cases i:X==n with
   |true=>
    rw[i]at a
    have e:X=n:=by simpa using i
    subst e
    rw[d]at a
    rw[d]
    exact a
   |false=>rw[i]at a;exact b _ _ a
  ·rw[GG g]at h
   exact zN (λy H=>f y (GJ _ H)) b x c h
theorem qe:∀{a:List (Str×Addr)},(∃c,(x,c)∈a)->∃c,a.lookup x=some c
 | [],h=>by obtain⟨_,h⟩:=h;cases h
 | (n,c)::r,h=>by
  simp only[Hw]
  cases H:x==n with
  |true=>exact#[c,Z]
  |false=>
   obtain⟨C,h⟩:=h
   rcases List.mem_cons.mp h with e |h
   ·injection e with E _
    subst E
    simp at H
   ·exact qe #[C,h]
theorem qw:∀{N:List (Str×NameKind)} {a:List (Str×Addr)},((∃c,(x,c)∈a)∨(x,NameKind.free)∈N)->∃c,(x,c)∈aW E N a
 | [],_,h=>by
  rcases h with h |h
  ·exact h
  ·cases h
 | (n,k)::r,a,h=>by
  unfold aW
  by_cases H:(k==NameKind.free)=true
  ·rw[Gw H]
   refine qw ?_
   rcases h with ⟨c,h⟩ |h
   ·exact .inl #[c,GJ _ h]
   ·rcases List.mem_cons.mp h with e |h
    ·injection e with b _
     subst b
     exact .inl #[_,GF]
    ·exact .inr h
  ·rw[GG H]
   refine qw ?_
   rcases h with h |h
   ·exact .inl h
   ·rcases List.mem_cons.mp h with e |h
    ·injection e with _ d
     subst d
     exact absurd Z H
    ·exact .inr h
theorem qk{e:Env}:∀(N:List (Str×NameKind)) (A:List (Str×Addr)),(∀y∈N,y.2= .free->∃c,e.cells.lookup y.1=some c)->
  (forIn N A (λx r=>match x with | (name,K)=>if (K==NameKind.free)=true then (do let a <- cellOf e name;pure (ForInStep.yield ((name,a)::r))) else pure (ForInStep.yield r)):Sem (List (Str×Addr)))=pure (aW e N A)
 | [],A,_=>rfl
 | (n,k)::r,A,b=>by
  have i:=λA=>qk r A λy H=>b y (GJ _ H)
  rw[IG]
  unfold aW
  by_cases h:(k==NameKind.free)=true
  ·obtain⟨C,E⟩:=b (n,k) GF (by simpa using h)
   have E:e.cells.lookup n=some C:=E
   have d:cellOf e n=pure C:=by unfold cellOf;rw[E]
   rw[Gw h]
   simp only[h,Ln,d,E]
   exact i _
  ·rw[GG h]
   simp only[h]
   exact i _
theorem ql{e:Env}{S:Scope}(H:∀y∈S.names,y.2= .free->∃c,e.cells.lookup y.1=some c):closureFor S e=pure (aW e S.names []):=by
 have h:=qk S.names [] H
 exact HL (λt:Sem (List (Str×Addr))=>t >>= λs=>pure s) h
section
variable {X:Cx}{pins:List (Addr×Obj)}{σ:St}{H:Hp}{s:Shared}
theorem qO(I:ap X pins σ H s)(S:bG X.N X.env.scope a M n i):∀y∈a.names,y.2= .free->∃c,X.env.cells.lookup y.1=some c:=
 λy h e=>I.ok.has y.1 (.inl (S.fre y h e))
theorem oW{g:Heap}(I:ap X pins σ H s)(F:∀b∈Y,eX X pins H b)(P:∀b∈Y,b < s.heap.objs.size)
  (S:bG X.N X.env.scope a M n G) (Q:s.heap.objs.size<=C) (O:∀b o,s.heap.get? b=some o->g.get? b=some o) (R:g.Ns C m):
  ap (bf X a M (aW X.env a.names []) C Y s H) [] (BQ n G σ) H { s with heap:=g,toks:=tk }:=by
 have sub:∀x c,(aW X.env a.names []).lookup x=some c->X.env.cells.lookup x=some c:=zN (qO I S) (λx c h=>by simp at h)
 have j:∀x,a.names.lookup x=some .free->∃c,(aW X.env a.names []).lookup x=some c:=λx e=>qe (qw (.inr (HU e)))
 have hex:∀x K,(relabel a X.env).names.lookup x=some K->(K= .cell∨K= .free)->a.names.lookup x=some .free:=λx K e A=>by
  obtain⟨k,t,q⟩:=Ku e
  rcases q with q |q
  ·rcases A with z |z
   ·exact absurd (q.symm.trans z) (S.cell (x,k) (HU t))
   ·rw[t,<- q,z]
  ·rw[t,q]
 refine#[#[I.ok.mod,S.kind,I.ok.glob,I.ok.blt,Q,λx y c h1 h2=>I.ok.inj x y c (sub x c h1) (sub y c h2),λx hx=>?_,λx c hx=>?_,I.ok.hd,I.ok.frames,.inl Z,λb w=>#[λz=>?_,λx c e=>?_],I.bs,Gr I.ok.bsz I.sz,λb o e w=>?_,λb w hz=>?_,I.stack,I.stkFree],
  rfl,I.bare,Un.kept O,#[m,R,λk y v t E _=>?_],λx c e=>?_,I.hok.fresh Q,λx c e=>I.freeC x c (sub x c e),λp hp=>absurd (show p∈([]:List (Addr×Obj)) from hp) P5,I.hok.kept O,?_]
 ·rcases hx with hx |hx
  ·exact j x (hex x _ hx (.inl Z))
  ·exact j x (hex x _ hx (.inr Z))
 ·exact absurd (show false=true from hx) PZ
 ·have z':b=C:=z
  have:=P b w
  rw[z']at this
  exact absurd this (Nat.not_lt.mpr Q)
 ·exact(F b w).2.2.2.2.1 x c (sub x c e)
 ·rcases(F b w).2.2.2.1 with z |z
  ·exact I.ok.noex b o e z
  ·exact absurd (Gu (Gk e) (Gr I.ok.bsz z)) (HE _)
 ·rcases List.mem_cons.mp (I.stkSub b hz) with z |z
  ·exact(F b w).2.1 z
  ·exact(F b w).2.2.1 z
 ·have E:(BQ n G σ)[k]?=some (some v):=E
  have t:M[k]?=some y:=t
  unfold BQ at E
  by_cases A:k < n
  ·rw[Iv (by simpa using A),Ng]at E
   simp [A]at E
  ·have B:n<=k:=LJ A
   rw[Io (by simpa using B),Me,Gz]at E
   cases J:G[k - n]? with
   |none=>rw[J]at E;cases E
   |some i=>
    rw[J]at E
    have L:(σ[i]?).getD none=some v:=Hg E
    have V:σ[i]?=some (some v):=by
     cases W:σ[i]? with
     |none=>rw[W]at L;cases L
     |some o=>rw[W]at L;exact HL some L
    have hi:i < X.N.length:=by rw[<- I.len];exact(List.getElem?_eq_some_iff.mp V).1
    have e7:y=X.N.getD i Str.empty:=by
     have q:(M.drop n)[k - n]?=some y:=by rw[List.getElem?_drop];rw[NJ B];exact t
     rw[S.nms,Gz,J]at q
     exact(Hg q).symm
    have e8:X.N[i]?=some y:=by rw[e7,Gc hi,IQ,Gc hi];rfl
    have d:a.names.lookup y=some .free:=by rw[e7];exact S.vis i (GP J)
    have f:X.env.scope.names.lookup y=some .cell:=S.fre (y,.free) (HU d) Z
    obtain⟨m',_,hl⟩:=I.loc
    obtain⟨u,r,l⟩:=hl i y v e8 V (.inr (.inl f))
    refine#[u,r,?_]
    rcases l with ⟨l,_⟩ | ⟨_,c,ec,o,T,U⟩
    ·have l:X.env.scope.names.lookup y=some .local:=l
     rw[f]at l
     cases l
    ·obtain⟨c',D⟩:=j y d
     have q:=sub y c' D
     rw[ec]at q
     cases q
     exact .inr #[.inl (qU I.ok.kind d f),c,D,o,O _ _ T,U]
 ·obtain⟨v,o,T,U⟩:=I.cell x c (sub x c e)
  exact#[v,o,O _ _ T,U]
 ·show(BQ n G σ).length=M.length
  rw[S.len]
  simp [BQ]
theorem ap.track(I:ap X pins σ H s)(f:eX X pins H D)(G:X.s₀.heap.objs.size<=D)(a:aK X.prog X.w (af H D o) s.heap D o):ap X pins σ (af H D o) s:=by
 have n:=f.1
 have N:∀b u,H b=some u->b≠D:=λb u e=>jk e n
 refine#[I.ok,I.os,I.bare,#[I.base.keep,I.base.slot,λb O e q i=>?_,I.base.there,λb d e=>?_,λb O u e=>?_,λb P e=>?_],I.loc,I.cell,?_,λx c e=>?_,λp h=>?_,λb u e=>?_,I.len]
 ·rw[ji (Go (Gu (Gk e) G))]
  exact I.base.free b O e q i
 ·have q:=I.base.tups b d e
  rw[ji (N _ _ q)]
  exact q
 ·have q:=I.base.frzs b O u e
  rw[ji (N _ _ q)]
  exact q
 ·obtain⟨m,q⟩:=I.base.tbls b P e
  exact#[m,by rw[ji (N _ _ q)];exact q]
 ·rw[ji (G7 f.2.1)]
  exact I.free
 ·rw[ji (f.2.2.2.2.1 x c e)]
  exact I.freeC x c e
 ·obtain⟨e,q,r⟩:=I.pin p h
  exact#[e,by rw[ji (f.2.2.2.2.2 p h)];exact q,r]
 ·by_cases g:b=D
  ·subst g
   rw[jc]at e
   cases e
   exact a
  ·rw[ji g]at e
   exact(I.hok b u e).stay (λ_ _ _ q=>q) (λc q=>by rw[ji (N _ _ q)];exact q) λc d q=>by rw[ji (N _ _ q)];exact q
noncomputable abbrev iB(u:List Value):Obj:={ cls:=.type "list",data:=.seq u.toArray u.length }
theorem ZC(u:List Value)(y:Value):({ cls:=.type "list",data:=.seq (u.toArray.push y) (u.length+1) }:Obj)=iB (u++[y]):=by
 show({ cls:=.type "list",data:=.seq (u.toArray.push y) (u.length+1) }:Obj)={ cls:=.type "list",data:=.seq (u++[y]).toArray (u++[y]).length }
 rw[Gi,IH,List.push_toArray]
def PF(X:Cx)(i:List Expr)(t:TT):Prop:=
 ∀(pins:List (Addr×Obj)) (s:Shared) (σ:St) (H:Hp) (Q:Bool->Hp->Prop),ap X pins σ H s->t σ H Q->
  wpAny (model X.prog X.w) X.A (forIn i true λc r=>if r=true then do let o <- isTrue c X.env (eval c X.env);pure (ForInStep.yield o) else pure (ForInStep.yield r)) (TP X pins σ Q) X.xe s
def lD:TT:=λ_ H Q=>Q true H
theorem zA:PF X [] lD:=λ_ _ _ H _ I h=>wpAny_tests_nil #[H,I,h]
theorem AU{c:Expr}{t:TT}(h:PT X c t):PF X [c] t:=λpins s σ H Q I q=>wpAny_tests_one (h pins s σ H Q I q)
noncomputable def nS(I:List Nat)(σ:St):St:=I.map λi=>(σ[i]?).getD none
def eE(J:It)(n:Nat)(t:St)(g:TG)(j:TT)(k:TE)(Q:List V->Hp->Prop)(H:Hp):Prop:=
 ∃W:Nat->Nat->List V->Hp->Prop,(∃m,W 0 m [] H)/\∀i m Y H,W i m Y H->
  (J.stop i H/\Q Y H)∨(J.go i H/\Y.length < sizeLine/\∃N:List V->Hp->Prop,(∀c h,N c h->∃M,M < m/\W (i+1) M c h)/\
   ∀x d (e:St),e.length=n->J.yld i H x d->g x (e++t) d λa h=>(∃T:St,T.length=n/\a=T++t)/\j a h λb f=>if b=true then k a f λy l=>N (Y++[y]) l else N Y f)
theorem Kv{iter:Expr}
  {RR:Value->Addr->Result->Shared->Prop} 
  (I:ap X pins σ H s) (hc:X.calm=true) (T:mJ X.prog X.w X.K tg J k it tn) (st:tn 0 s.heap) (hf:∀b∈k,eX X pins H b) (S:bG X.N X.env.scope scope M nT ix)
  (hg:∀cl C k s H,PG (bf X scope M cl C k s H) tg g) (hi:∀cl C k s H,PF (bf X scope M cl C k s H) i0 tt) (he:∀cl C k s H,PE (bf X scope M cl C k s H) e0 te)
  (h:eE J nT (nS ix σ) g tt te Qf H)
  (h':∀D C Y m t G,(∀b o u,H b=some (.frz o u)->t b=some (.frz o u))->t D=none->ap X pins σ (af t D (.lst Y)) G->eX X pins (af t D (.lst Y)) C->G.heap.Ns C m->Qf Y t->RR (.ref D) C (.ok .next) G):
  wpAny (model X.prog X.w) X.A (newList []) (λacc B=>wpAny (model X.prog X.w) X.A (newFunctionEnv scope X.env.globals (aW X.env scope.names []) [] X.env.qual none .none (some X.env)) (λc0 s0=>
   codeAny (model X.prog X.w) X.A (.compStart (.ListComp e0 [#[tg,iter,i0,0]] scope p1) 0 (.ref it) acc { c0 with scope:=relabel scope X.env }) (RR acc c0.locals) s0) E B) E s:=by
 obtain⟨W,⟨m0,w0⟩,t1⟩:=h
 have h3:∀b∈k,b < s.heap.objs.size:=λb a=>by
  obtain⟨o,e,_⟩:=T.obj 0 _ st b a
  exact Gk e
 refine Hf (wpAny_newFunctionEnv S.cell (by intro y hy;simp at hy) (λF l f=>?_) S.kind)
 dsimp only at l f ⊢
 generalize h4:s.heap.push { cls:=.type "list",dict:=none,data:=.seq ([]:List Value).toArray }=H2 at l f ⊢
 have hC:H2.objs.size=s.heap.objs.size+1:=by rw[<- h4,Hl]
 have P:s.heap.objs.size≠H2.objs.size:=by rw[hC];exact Go (HR _)
 have h0:s.heap.objs.size<=H2.objs.size:=by rw[hC];exact Ic _
 have b0:∀b,b < s.heap.objs.size->b≠H2.objs.size/\b≠s.heap.objs.size:=λb a=>#[by rw[hC];exact Go (IL a),Go a]
 have o1:∀b o,s.heap.get? b=some o->F.get? b=some o:=λb o e=>f.extBut b o (b0 b (Gk e)).1 (Gf _ (h4▸Gf _ e))
 have h5:F.get? s.heap.objs.size=some (iB []):=f.extBut _ _ P (Gf _ (h4▸Gm _ Z))
 have a0:H s.heap.objs.size=none:=I.hok.fresh (Gh _)
 have h6:s.heap.objs.size∉iH X.stack:=λa=>(List.mem_cons.mp (I.stkSub _ a)).elim (λe=>absurd I.lt (by rw[<- e];exact HE _)) (I.nofs (Gh _))
 generalize hD:s.heap.objs.size=D at*
 generalize b2:H2.objs.size=C at*
 have J0:∀tk,ap (bf X scope M (aW X.env scope.names []) C k s H) [] (BQ nT ix σ) H { s with heap:=F,toks:=tk }:=λtk=>oW I hf (by rw[hD];exact h3) S (by rw[hD];exact h0) o1 l
 have c1:∀x c,(aW X.env scope.names []).lookup x=some c->c≠D:=λx c e z=>by
  have sub:=zN (qO I S) (acc:=[]) (λx c h=>by simp at h) x c e
  obtain⟨v,o,ho,_⟩:=I.cell x c sub
  have:=Gk ho
  rw[z,hD]at this
  exact HE _ this
 have p0:∀{σ0:St} {t:Hp} {G:Shared} {U:List Value},ap (bf X scope M (aW X.env scope.names []) C k s H) [] σ0 t G->G.heap.get? D=some (iB U)->t D=none->
   ap (bf X scope M (aW X.env scope.names []) C k s H) [(D,iB U)] σ0 t G:=λ{σ0 t G U} I' e n=>I'.pins_of λp hp=>by
  have ep:p=(D,iB U):=by simpa using hp
  subst ep
  exact#[e,n,P,h6,λv z=>by cases z]
 have L:∀{t:Hp} {U:List Value},(∀b∈k,t b=none)->∀b∈k,eX (bf X scope M (aW X.env scope.names []) C k s H) [(D,iB U)] t b:=λ{t U} hn b a=>
  #[hn b a,((J0 0).ok.exf b a).1,(J0 0).ok.exfs b a,.inl a,((J0 0).ok.exf b a).2,λp hp z=>by
   have ep:p=(D,iB U):=by simpa [bf] using hp
   rw[ep]at z
   have:=h3 b a
   rw[<- z]at this
   exact HE _ this]
 have l0:∀B:Shared,(∃tk,B={ s with heap:=F,toks:=tk })->
   codeAny (model X.prog X.w) X.A (.compLoop (.ListComp e0 [#[tg,iter,i0,0]] scope p1) 0 (.ref it) (.ref D) (compEnvC scope (aW X.env scope.names []) C X.env)) (RR (.ref D) C) B:=by
  rintro B ⟨tk,rfl⟩
  refine ZB (λn G=>∃i Y U ts t,ts.length=nT/\ap (bf X scope M (aW X.env scope.names []) C k s H) [(D,iB U)] (ts++nS ix σ) t G/\ax Y U/\Y.length<=sizeLine/\tn i G.heap/\(∀b∈k,t b=none)/\W i n Y t) ?_ m0
   #[0,[],[],List.replicate nT none,H,Me,p0 (J0 tk) h5 a0,.nil,Gp _,T.keep _ _ _ st λb a o e=>o1 b o e,λb a=>(hf b a).1,w0]
  rintro n s1 ⟨i,Y,U,ts,Q,a1,I1,rv,hz,s7,f0,w1⟩
  rcases t1 i n Y Q w1 with ⟨stop,q⟩ | ⟨go,a2,N,hN,step⟩
  ·refine aQ (T.done (bf X scope M (aW X.env scope.names []) C k s H) Z Z Z hc i _ s1 _ Q xH I1 (L f0) s7 stop) λr s2 j=>?_
   obtain⟨hr,I2⟩:=j
   subst hr
   have IO:ap X pins σ Q s2:=I.call' (ch:=k) I2.os I2.base I2.hok I2.bare λb a=>#[(hf b a).2.2.2.1,(hf b a).2.1,(hf b a).2.2.2.2.1,(hf b a).2.2.2.2.2]
   have pD:=I2.pin (D,iB U) (by simp [bf])
   have h8:Q D=none:=pD.2.1
   have fD:eX X pins Q D:=by rw[<- hD];exact I.fpOk (Gh _) (by rw[hD];exact h8)
   have IT:ap X pins σ (af Q D (.lst Y)) s2:=IO.track fD (by rw[<- hD];exact I.sz) #[hz,U,U.length,rv,pD.1]
   obtain⟨mC,a3,_⟩:=I2.loc
   have a4:Q C=none:=I2.free
   exact h' D C Y mC Q s2 I2.base.frzs h8 IT (I.fpOk (by rw[hD];exact h0) (by rw[ji (G7 P)];exact a4)) a3 q
  ·refine aQ (T.item (bf X scope M (aW X.env scope.names []) C k s H) Z Z Z hc i _ s1 _ Q xH I1 (L f0) s7 go) λr s2 j=>?_
   obtain⟨u,hr,h2⟩:=j
   subst hr
   refine aQ h2 λ_ s3 j=>?_
   obtain⟨x,H3,I3,r3,y3,O,f1⟩:=j
   have a':=I3.pinned (L f1) (T.obj _ _ O)
   refine aQ (hg _ _ _ _ _ _ s3 _ H3 x u _ a' r3 (step x H3 ts a1 y3)) λ_ s4 j=>?_
   obtain⟨σ1,H4,I4,⟨t0,h1,e4⟩,q4⟩:=j
   subst e4
   refine aQ (hi _ _ _ _ _ _ s4 _ H4 _ I4 q4) λb s5 j=>?_
   obtain⟨H5,I5,q5⟩:=j
   cases b with
   |false=>
    obtain⟨m',hm,w'⟩:∃m',m' < n/\W (i+1) m' Y H5:=hN _ _ q5
    refine#[m',hm,i+1,Y,U,t0,H5,h1,I5.unpinned,rv,hz,T.keep _ _ _ O λb a o e=>(I5.pin (b,o) (Gy _ (Gy _ (kU a e)))).1,λb a=>?_,w']
    obtain⟨o,e,d⟩:=T.obj _ _ O b a
    exact(I5.pin (b,o) (Gy _ (Gy _ (kU a e)))).2.1
   |true=>
    refine aQ (he _ _ _ _ _ _ s5 _ H5 _ I5 q5) λv s6 j=>?_
    obtain⟨y,H6,I6,r6,q6⟩:=j
    obtain⟨m',hm,w'⟩:=hN _ _ q6
    have pD:=I6.pin (D,iB U) (Gy _ (HN _ GF))
    have hl:=rv.length
    have R:∀b∈k,∀o,s3.heap.get? b=some o->s6.heap.get? b=some o:=λb a o e=>(I6.pin (b,o) (Gy _ (Gy _ (kU a e)))).1
    have V:∀b∈k,H6 b=none:=λb a=>by
     obtain⟨o,e,d⟩:=T.obj _ _ O b a
     exact(I6.pin (b,o) (Gy _ (Gy _ (kU a e)))).2.1
    refine append_at (hsz:=by rw[Gj,<- hl];exact hz) pD.1 λh7 sb b1=>?_
    have I7:ap (bf X scope M (aW X.env scope.names []) C k s H) [] (t0++nS ix σ) H6 { s6 with heap:=h7 }:=
     (I6.pins_of (pins':=[]) λp hp=>absurd hp P5).turned (t':=s6.toks) (it:=D) (λb o a e=>(sb.2 b a).trans e) pD.2.1 P (.inr (by show s.heap.objs.size<=D;rw[hD];exact Gh _)) c1 λp hp=>absurd (show p∈([]:List (Addr×Obj)) from hp) P5
    refine#[m',hm,i+1,Y++[y],U++[v],t0,H6,h1,p0 I7 (b1.trans (HL some (ZC U v))) pD.2.1,rv.append (.cons r6 .nil),by rw[Gi,IH];exact a2,
     T.keep _ _ _ (T.keep _ _ _ O R) λb a o e=>(sb.2 b λz=>?_).trans e,V,w']
    have:=h3 b a
    rw[z]at this
    exact HE _ this
 exact codeAny_compStart_list (l0 _ #[_,Z]) (T.self _ 0 _ _ _ (T.keep _ _ _ st λb a o e=>o1 b o e) (l0 _ #[_,Z]))
def tV(w:TI)(n:Nat)(i:List Nat)(g:TG)(t:TT)(T:TE):TE:=λσ H Q=>w σ H λJ a=>eE J n (nS i σ) g t T (λy h=>∀p,h p=none->Q (.ref p) (af h p (.lst y))) a
theorem zd{t E iter:Expr}{i:List Expr}{a:Scope}{p:Pos}{M:List Str}{k:Nat}{l:List Nat}{W:TI}{g:TG}{r:TT}{u:TE}(v:X.calm=true)(y:PI X t iter W)(S:bG X.N X.env.scope a M k l)
  (z:∀c C f s H,PG (bf X a M c C f s H) t g) (B:∀c C f s H,PF (bf X a M c C f s H) i r) (G:∀c C f s H,PE (bf X a M c C f s H) E u)
  (K:∀x,foldedSetIterable iter X.env x=pure x:=by intro _;rfl):
  PE X (.ListComp E [#[t,iter,i,0]] a p) (tV W k l g r u):=by
 intro pins s σ H Q I h
 rw[eval_ListComp]
 refine ND (use:=none) Z K (ql (qO I S)) S.kind S.loc (aQ (y pins s σ H _ I h) λxv s1 L=>aQ L λO s2 P=>?_)
 obtain⟨it,f,tn,J,H2,e,U,T,d,V,R⟩:=P
 subst e
 refine Kv (RR:=λj C=>compPost (model X.prog X.w) X.A X.xe none (EP X pins σ Q) j C) U v T d V S z B G R ?_
 intro D C ys m H' Y _ n I' F ns q
 exact#[m,ns,λh' sb=>#[.ref D,_,I'.turned (t':=Y.toks) (λb o hb e=>(sb.2 b hb).trans e) F.1 F.2.1 F.2.2.2.1 F.2.2.2.2.1 F.2.2.2.2.2,Z,q D n]]
theorem YS{t E iter:Expr}{d:List Expr}{c:Scope}{p P f:Pos}{y:Str}{i:Nat}{M:List Str}{U:Nat}{V:List Nat}{W:TI}{g:TG}{Y:TT}{te:TE}(hN:X.N.Nodup)(hy:X.N[i]?=some y)(hx:oO X.env.scope y)
  (hc:X.calm=true) (hI:PI X t iter W) (S:bG X.N X.env.scope c M U V)
  (hg:∀l C j s H,PG (bf X c M l C j s H) t g) (hi:∀l C j s H,PF (bf X c M l C j s H) d Y) (he:∀l C j s H,PE (bf X c M l C j s H) E te)
  (r:swapsWith (.ListComp E [#[t,iter,d,0]] c p) (some (.Name y P)) f.line X.env=pure true:=by rfl)
  (hf:X.fn y=true∨X.env.scope.names.lookup y=some .local:=by first |exact .inl Z |exact .inr Z |assumption)
  (hs:∀x,foldedSetIterable iter X.env x=pure x:=by intro _;rfl):
  PS X (.Assign [.Name y P] (.ListComp E [#[t,iter,d,0]] c p) f) (λD σ H=>tV W U V g Y te σ H λv H1=>D.nx (σ.set i (some v)) H1):=by
 intro pins s σ H D I h
 rw[exec_Assign_Name_used _ _ _ _ r]
 refine Gb (IN (Gb ?_))
 show wpAny _ X.A (do let _ <- comprehension (.ListComp E [#[t,iter,d,0]] c p) c X.env _ (newList []) false (eval iter X.env) (some (assign (.Name y P) X.env))) _ _ s
 refine Gb (aQ (ND (use:=some (assign (.Name y P) X.env)) (Q:=λ_ k=>SP X pins D .next k) Z hs (ql (qO I S)) S.kind S.loc
  (aQ (hI pins s σ H _ I h) λxv s1 h1=>aQ h1 λi0 s2 h2=>?_)) λ_ k hq=>Ge (Ge hq))
 obtain⟨it,j,tn,J,H2,e,I2,T,u,f2,R⟩:=h2
 subst e
 refine Kv (RR:=λB C=>compPost (model X.prog X.w) X.A X.xe (some (assign (.Name y P) X.env)) (λ_ k=>SP X pins D .next k) B C) I2 hc T u f2 S hg hi he R ?_
 intro Dd C ys m H' k _ n I' F ns q
 show wpAny _ X.A (assign (.Name y P) X.env (.ref Dd)) _ _ k
 refine ON (K9 I' hN hy hx (v:=.ref Dd) Z (λG K hh=>?_) hf)
 obtain⟨a,sb,ha⟩:=hh
 have L:C≠a:=by
  rcases ha with z |z
  ·rw[z];exact F.2.1
  ·exact G7 (F.2.2.2.2.1 _ _ z)
 exact#[m,ns.sameBut sb L,λh' O=>#[_,_,K.turned (t':=G.toks) (λb o hb e=>(O.2 b hb).trans e) F.1 F.2.1 F.2.2.2.1 F.2.2.2.2.1 F.2.2.2.2.2,q Dd n]]
end
section
variable {X:Cx}
def BU(i j:Int):Prop:=0 < j/\j<=1000000000000000000
theorem Kc:eN X (binaryOp .FloorDiv) (rI BU λi j=>.int (i / j)):=D9 λi j _ _ _ _ _ h q=>by
 have b:(0:Int) < j:=h.1
 have c:j<=1000000000000000000:=h.2
 refine floordiv_int P0 (by rw[Int.fdiv_eq_ediv_of_nonneg i P0];exact q) (.inl (PyProof.noPylong_of_log2 ?_))
 have H:j.natAbs≠0:=by omega
 have a:j.natAbs < 2 ^ 60:=by omega
 have d:j.natAbs.log2 < 60:=(Nat.log2_lt H).mpr a
 omega
noncomputable def Er:V->Option Value
 | .ty n=>some (.type n)
 | .ref a=>some (.ref a)
 |_=>none
theorem Js:dR X (.builtin "isinstance") (λf H Q=>∃x y c t b,f=[x,y]/\Er y=some c/\gq X.K H x t/\kitOne X.K t c=some b/\Q (.bl b) H):=by
 intro p s i H f U Q I r h
 obtain⟨x,y,c,t,b,rfl,d,ty,e,q⟩:=h
 obtain⟨u,w,rfl,g,R⟩:=DX r
 have E:w=c:=by
  cases y with
  |ty n=>exact Eq.trans R (Hg d)
  |ref a=>exact Eq.trans R (Hg d)
  |_=>cases d
 subst E
 exact Zv I g ty e λT=>#[.bl b,H,I.tok T,Z,q]
theorem zO:∀{Y:List Str} {U:List Value},ax (Y.map V.str) U->StrsAre U Y
 | [],_,.nil=>.nil
 |y::r,_,.cons (b:=u) h t=>by
  obtain⟨T,e⟩:∃T,u=Value.str y T:=h
  subst e
  exact .cons y T (zO t)
theorem QP:Eh X "str.join" (λx a H Q=>∃(z:Str) (p:Addr) (y:List Str),x= .str z/\a=[.ref p]/\aH X.K H p (y.map V.str)/\z.length<=16/\(y.map (·.length)).sum+y.length<=1048576/\Q (.str (Txt.join z y)) H):=by
 intro P s l H x a v U Q I r R h
 obtain⟨z,p,y,rfl,rfl,b,c,d,q⟩:=h
 obtain⟨u,rfl,e⟩:=eJ R
 cases e
 obtain⟨t,rfl⟩:=r
 obtain⟨i,f,g,j⟩:=I.list b
 exact join_listW g.isList (by simpa using zO f) c d λT k=>#[.str _,H,I.tok k,#[_,Z],q]
noncomputable def o0:Expr->Option V
 | .Constant (.str x) _ _=>some (.str x)
 | .Constant (.int i) _ _=>some (.int i)
 |_=>none
theorem AS(h:o0 e=some v):PE X e (tC v):=by
 cases e with
 |Constant c j p=>
  cases c with
  |str x=>cases h;exact jm
  |int i=>cases h;exact jf
  |_=>cases h
 |_=>cases h
theorem tQ(h:o0 e=some v):starEach (e::a) E=(false,eval e E)::starEach a E:=by
 cases e with
 |Constant c j p=>rfl
 |_=>cases h
noncomputable def p7(e:Expr):Bool:=(o0 e).isSome
noncomputable def oZ(e:Expr):V:=(o0 e).getD .non
theorem QQ:∀{E:List Expr},E.all p7=true->PA X E (λ_ H Q=>Q (E.map oZ) H)
 | [],_=>jb
 |e::E,h=>by
  rw[Nc,Hy]at h
  obtain⟨v,a⟩:=Option.isSome_iff_exists.mp (show(o0 e).isSome=true from h.1)
  have b:oZ e=v:=by unfold oZ;rw[a];rfl
  rw[HS,b]
  exact ja (AS a) (QQ h.2) (tQ a)
theorem ZD{E:List Expr}(h:E.all p7=true):(E.map oZ).all cq=true:=by
 rw[LC]at h ⊢
 intro v H
 obtain⟨e,a,rfl⟩:=List.mem_map.mp H
 have q:=h e a
 unfold p7 at q
 unfold oZ
 cases e with
 |Constant c j p=>
  cases c with
  |str x=>rfl
  |int i=>rfl
  |_=>exact absurd q Gn
 |_=>exact absurd q Gn
def DV(t:TS):TS:=λD b H=>∃R:St->Hp->Prop,t { D with nx:=R } b H/\∀a h,R a h->D.nx a h
theorem j3{st:Stmt}{t:TS}(h:PS X st t):PS X st (DV t):=by
 intro p s b H D I c
 obtain⟨R,d,e⟩:=c
 refine aQ (h p s b H _ I d) λf S q=>?_
 cases f with
 |next=>obtain⟨a,g,i,q⟩:=q;exact#[a,g,i,e _ _ q]
 |brk=>exact q
 |cont=>exact q
 |ret v=>exact q
theorem vC{t:St}(h:t.length=1):∃v,t=[v]:=by
 cases t with
 |nil=>cases h
 |cons v r=>
  cases r with
  |nil=>exact#[v,Z]
  |cons _ _=>cases h
theorem XA{lo:Int}{t:TE}{Q:List V->Hp->Prop}(Pv:Nat->List V->Hp->Prop)(g:Pv 0 [] H)(j:n<=sizeLine)(b:∀i Y h,Pv i Y h->Y.length<=i)
  (k:∀i Y h,i < n->Pv i Y h->t (some (.int (lo+i))::c) h λy d=>Pv (i+1) (Y++[y]) d) (l:∀Y h,Pv n Y h->Q Y h):
  eE (uC lo n) 1 c (bu 0) lD t Q H:=by
 refine#[λi m Y h=>m=n - i/\i<=n/\Pv i Y h,#[n,P5,Gp _,g],?_]
 rintro i m Y h ⟨rfl,q,p⟩
 by_cases a:i < n
 ·refine .inr #[a,HZ (b i Y h p) (Gu a j),Pv (i+1),λo d P=>#[n - (i+1),P0,Z,a,P],λx d T f y=>?_]
  obtain⟨e,y⟩:=y
  subst e y
  obtain⟨v,rfl⟩:=vC f
  exact#[#[[some _],Z,Z],k i Y _ a p]
 ·have e:i=n:=by omega
  subst e
  exact .inl #[Gh _,l Y h p]
end
section
variable {κ:Type}[DecidableEq κ]
noncomputable def bg(K:List (κ×V))(k:κ):Option V:=(K.find? λa=>decide (a.1=k)).map (·.2)
noncomputable def aY(K:List (κ×V))(k:κ)(v:V):List (κ×V):=
 if (K.any λa=>decide (a.1=k))=true then K.map (λa=>if a.1=k then (a.1,v) else a) else K++[(k,v)]
theorem j9{p:κ×V}(e:p.1=k):bg (p::r) k=some p.2:=by simp [bg,Ie,e]
theorem kc{p:κ×V}(e:¬p.1=k):bg (p::r) k=bg r k:=by simp [bg,Ie,e]
theorem qP(k:κ):∀K:List (κ×V),(K.any λa=>decide (a.1=k))=(bg K k).isSome
 | []=>rfl
 |p::r=>by
  rw[Lz]
  by_cases e:p.1=k
  ·simp only[j9 e,G8 e,Mx,Option.isSome_some]
  ·rw[kc e,GH e,Bool.false_or];exact qP k r
theorem Xe(k j:κ)(y:V):∀K:List (κ×V),bg (K.map λa=>if a.1=k then (a.1,y) else a) j=(bg K j).map λx=>if j=k then y else x
 | []=>rfl
 |p::r=>by
  have i:=Xe k j y r
  rw[HS]
  by_cases h:p.1=k
  ·rw[Gw h]
   by_cases e:p.1=j
   ·rw[j9 (p:=(p.1,y)) e,j9 e,LI,Gw (e.symm.trans h)]
   ·rw[kc (p:=(p.1,y)) e,kc e,i]
  ·rw[GG h]
   by_cases e:p.1=j
   ·rw[j9 (p:=p) e,j9 e,LI,GG (λz=>h (e.trans z))]
   ·rw[kc (p:=p) e,kc e,i]
theorem Qh(k j:κ)(y:V):∀K:List (κ×V),bg K k=none->bg (K++[(k,y)]) j=if j=k then some y else bg K j
 | [],_=>by
  by_cases e:k=j
  ·rw[Gw e.symm];exact j9 (p:=(k,y)) e
  ·rw[GG (λz=>e z.symm)];exact kc (p:=(k,y)) e
 |p::r,h=>by
  rw[List.cons_append]
  have H:¬p.1=k:=λz=>by rw[j9 z]at h;cases h
  rw[kc H]at h
  have i:=Qh k j y r h
  by_cases e:p.1=j
  ·rw[j9 e,j9 e,GG (λz=>H (e.trans z))]
  ·rw[kc e,kc e,i]
theorem Kd(K:List (κ×V))(k j:κ)(y:V):bg (aY K k y) j=if j=k then some y else bg K j:=by
 unfold aY
 by_cases a:(K.any λb=>decide (b.1=k))=true
 ·rw[Gw a,Xe]
  rw[qP]at a
  by_cases e:j=k
  ·obtain⟨x,h⟩:=Option.isSome_iff_exists.mp a
   rw[Gw e,e,h,LI,Gw Z]
  ·rw[GG e]
   cases bg K j with
   |none=>rfl
   |some x=>rw[LI,GG e]
 ·rw[GG a]
  refine Qh k j y K ?_
  rw[qP]at a
  cases q:bg K k with
  |none=>rfl
  |some x=>rw[q]at a;exact(a Z).elim
theorem qd(K:List (κ×V))(k:κ)(v:V):(aY K k v).length<=K.length+1:=by
 unfold aY
 split
 ·rw[Gg];omega
 ·rw[Gi,GX,MN];omega
theorem dJ.isSome_eq(r:dJ o u):o.isSome=u.isSome:=by
 cases o with
 |none=>cases u with
  |none=>rfl
  |some _=>exact(show False from r).elim
 |some _=>cases u with
  |none=>exact(show False from r).elim
  |some _=>rfl
theorem dJ.getD(r:dJ o u)(R:aC d D):aC (o.getD d) (u.getD D):=by
 cases o with
 |none=>cases u with
  |none=>exact R
  |some _=>exact(show False from r).elim
 |some _=>cases u with
  |none=>exact(show False from r).elim
  |some _=>exact r
theorem KV.val(r:KV a v)(k:κ):dJ (bg a k) (valueAt v k):=by
 unfold KV at r
 induction r with
 |nil=>exact True.intro
 | @cons p q P Q h t i=>
  obtain⟨H,c⟩:=h
  by_cases e:p.1=k
  ·have E:q.1=k:=H.symm.trans e
   have b:valueAt (q::Q) k=some q.2:=by simp [valueAt,Ie,E]
   rw[j9 e,b];exact c
  ·have E:¬q.1=k:=λz=>e (H.trans z)
   have b:valueAt (q::Q) k=valueAt Q k:=by simp [valueAt,Ie,E]
   rw[kc e,b];exact i
theorem KV.any(r:KV a v)(k:κ):(a.any λK=>decide (K.1=k))=v.any λK=>decide (K.1=k):=by
 unfold KV at r
 induction r with
 |nil=>rfl
 |cons h t i=>rw[Lz,Lz,i,h.1]
theorem KV.repl(r:KV a v)(k:κ)(R:aC y u):
  KV (a.map λK=>if K.1=k then (K.1,y) else K) (v.map λK=>if K.1=k then (K.1,u) else K):=by
 unfold KV at r ⊢
 induction r with
 |nil=>exact .nil
 | @cons p q P Q h t i=>
  rw[HS,HS]
  refine .cons ?_ i
  obtain⟨H,b⟩:=h
  by_cases e:p.1=k
  ·rw[Gw e,Gw (H.symm.trans e)];exact#[H,R]
  ·rw[GG e,GG (λz=>e (H.trans z))];exact#[H,b]
theorem KV.put(r:KV a v)(k:κ)(R:aC y u):KV (aY a k y) (stored v k u):=by
 unfold aY stored
 rw[r.any k]
 by_cases e:(v.any λK=>decide (K.1=k))=true
 ·rw[Gw e,Gw e];exact r.repl k R
 ·rw[GG e,GG e];exact Paired.snoc r #[Z,R]
theorem KV.length(r:KV k v):k.length=v.length:=Paired.length r
end
theorem JU{P:Program}(r:aC (kV k) u):(aT P w).is k u=true:=by
 cases k with
 |inl i=>obtain⟨t,e⟩:=(show ∃t,u=Value.int i t from r);subst e;exact Xy P w i t
 |inr x=>obtain⟨t,e⟩:=(show ∃t,u=Value.str x t from r);subst e;exact Xz P w x t
theorem Qi{P:Program}:∀{K:List bh} {u:List Value},ax (K.map kV) u->ItemsAre (aT P w) K u
 | [],_,r=>by rw[OU]at r;cases r;exact .nil
 |k::K,_,r=>by
  rw[HS]at r
  cases r with
  |cons h t=>exact .cons (JU h) (Qi t)
abbrev KT(H:Hp):List (List bh×V)->List (List bh×Addr×Value)->Prop:=Paired λp q=>p.1=q.1/\H q.2.1=some (.tup (p.1.map kV))/\aC p.2 q.2.2
theorem KT.val(r:KT H a x)(k:List bh):dJ (bg a k) ((atKey x k).map (·.2)):=by
 induction r with
 |nil=>exact True.intro
 | @cons p q P Q h t i=>
  obtain⟨c,_,d⟩:=h
  by_cases e:p.1=k
  ·have E:q.1=k:=c.symm.trans e
   have b:atKey (q::Q) k=some q.2:=by simp [atKey,Ie,E]
   rw[j9 e,b];exact d
  ·have E:¬q.1=k:=λz=>e (c.trans z)
   have b:atKey (q::Q) k=atKey Q k:=by simp [atKey,Ie,E]
   rw[kc e,b];exact i
theorem KT.repl(r:KT H b x)(k:List bh)(R:aC y u):
  KT H (b.map λK=>if K.1=k then (K.1,y) else K) (x.map (putAt k u)):=by
 induction r with
 |nil=>exact .nil
 | @cons p q P Q h t i=>
  rw[HS,HS]
  refine .cons ?_ i
  obtain⟨a,c,d⟩:=h
  unfold putAt
  by_cases e:p.1=k
  ·rw[Gw e,Gw (a.symm.trans e)];exact#[a,c,R]
  ·rw[GG e,GG (λz=>e (a.trans z))];exact#[a,c,d]
theorem KT.put(r:KT H a x)(k:List bh)(h:H b=some (.tup (k.map kV)))(R:aC y u):
  KT H (aY a k y) (storedH x k b u):=by
 have e:(a.any λK=>decide (K.1=k))=(atKey x k).isSome:=by
  rw[qP,(r.val k).isSome_eq,Mo]
 unfold aY storedH
 rw[e]
 by_cases q:(atKey x k).isSome=true
 ·rw[Gw q,Gw q];exact r.repl k R
 ·rw[GG q,GG q];exact Paired.snoc r #[Z,h,R]
theorem KT.keeps{h:Hp}(r:KT H k x)(a:∀b y,H b=some (.tup y)->h b=some (.tup y)):KT h k x:=
 Paired.mapP r λ_ _ z=>#[z.1,a _ _ z.2.1,z.2.2]
section
variable {P:Program}{w:World}{H:Hp}{h:Heap}{a:Addr}
theorem yb(o:eF P w H h)(e:Rd H a u):aK P w H h a u:=e.ok o
theorem Jo(o:eF P w H h)(e:Rd H a (.dK k)):k.length<=sizeLine/\(a==sysModules)=false/\∃v,KV k v/\h.DictOf (aT P w) a v:=
 show aK P w H h a (.dK k) from yb o e
theorem Q6(o:eF P w H h)(e:H a=some (.dK k)):k.length<=sizeLine/\(a==sysModules)=false/\∃v,KV k v/\h.DictOf (aT P w) a v:=Jo o (.inl e)
theorem Ja{k:List bh}(O:eF P w H h)(e:H a=some (.tup (k.map kV))):(tupleKind (aT P w)).is h k a:=by
 obtain⟨_,i,r,o,b,c,n,d⟩:=(show aK P w H h a (.tup (k.map kV)) from O a _ e)
 exact#[o,i.toArray,n,b,c,d,by simpa using Qi r]
theorem JV(O:eF P w H h)(e:Rd H a (.dT k)):k.length<=sizeLine/\(a==sysModules)=false/\
  ∃X,KT H k X/\h.DictOfH (tupleKind (aT P w)) a X:=by
 obtain⟨z,y,X,r,o,E,c,d,f,g,i,j⟩:=(show aK P w H h a (.dT k) from yb O e)
 refine#[z,y,X,r,o,E,c,d,f,g,i,λx hx=>?_,j]
 have all:∀{l:List (List bh×V)} {m:List (List bh×Addr×Value)},KT H l m->∀x∈m,(tupleKind (aT P w)).is h x.1 x.2.1:=by
  intro l m q
  induction q with
  |nil=>intro x hx;exact nomatch hx
  | @cons p q n Q b t I=>
   intro x hx
   rcases List.mem_cons.mp hx with e |hx
   ·subst e
    exact Ja O (by rw[<- b.1];exact b.2.1)
   ·exact I x hx
 exact all r x hx
theorem CB(o:eF P w H h)(e:H a=some (.dT k)):k.length<=sizeLine/\(a==sysModules)=false/\
  ∃x,KT H k x/\h.DictOfH (tupleKind (aT P w)) a x:=JV o (.inl e)
end
def dH(H:Hp)(a:Addr)(y:V)(r:Option V):Prop:=
 (∃K k,Rd H a (.dK K)/\y=kV k/\r=bg K k)∨∃K k b,Rd H a (.dT K)/\y= .ref b/\H b=some (.tup (k.map kV))/\r=bg K k
def iP(H:Hp)(a:Addr)(y v:V)(h:Hp):Prop:=
 (∃K k,H a=some (.dK K)/\y=kV k/\K.length < sizeLine/\h=af H a (.dK (aY K k v)))∨
 ∃K k b,H a=some (.dT K)/\y= .ref b/\H b=some (.tup (k.map kV))/\K.length < sizeLine/\h=af H a (.dT (aY K k v))
theorem dH.k{H:Hp}{k:bh}(e:H a=some (.dK b)):dH H a (kV k) (bg b k):=.inl #[b,k,.inl e,Z,Z]
theorem iP.k{H:Hp}{k:bh}(e:H a=some (.dK b))(h:b.length < sizeLine):iP H a (kV k) v (af H a (.dK (aY b k v))):=.inl #[b,k,e,Z,h,Z]
section
variable {X:Cx}{pins:List (Addr×Obj)}{σ:St}{H:Hp}{s:Shared}{a:Addr}{y v:V}{u r:Value}{o:Option V}{A:Around}{E:Value->Shared->Prop}
theorem ap.big(I:ap X pins σ H s):sysModules < s.heap.objs.size:=by
 have h:mainGlobals < s.heap.objs.size:=(I.mod.glob.keeps I.bk).lt
 exact Nat.lt_trans PZ h
theorem ZE{Q:Value->Shared->Prop}(m:A.units+1 < cLine)(I:ap X pins σ H s)(g:dH H a y (some v))(j:aC y u)(h:∀W S,ap X pins σ H S->aC v W->Q W S):
  wpAny (model X.prog X.w) A (getItem (.ref a) u) Q E s:=by
 rcases g with ⟨K,k,e,d,l⟩ | ⟨K,k,b,e,d,n,l⟩
 ·subst d
  obtain⟨z,q,t,R,D⟩:=Jo I.hok e
  obtain⟨W,f,c⟩:=dJ.some_of (v:=v) (o:=valueAt t k) (by rw[l];exact R.val k)
  exact wpAny_getItem_of (JU j) D.mapOf f (h W _ (I.tok _) c)
 ·subst d
  cases (show u=Value.ref b from j)
  obtain⟨z,q,x,R,D⟩:=JV I.hok e
  obtain⟨W,f,c⟩:=dJ.some_of (v:=v) (o:=(atKey x k).map (·.2)) (by rw[l];exact R.val k)
  obtain⟨p,B,i⟩:=Option.map_eq_some_iff.mp f
  refine wpAny_getItem_heap (Le m) (Ja I.hok n) D B ?_
  rw[i]
  exact h W _ (I.tok _) c
theorem Eu{Q:Value->Shared->Prop}(i:A.units+1 < cLine)(I:ap X pins σ H s)(g:dH H a y o)(f:aC y u)(h:∀S,ap X pins σ H S->Q (.bool o.isSome) S):
  wpAny (model X.prog X.w) A (compareOp .In u (.ref a)) Q E s:=by
 rcases g with ⟨K,k,e,c,l⟩ | ⟨K,k,b,e,c,j,l⟩
 ·subst c
  obtain⟨z,d,m,R,D⟩:=Jo I.hok e
  refine wpAny_in_of (JU f) d D.mapOf ?_
  rw[<- (R.val k).isSome_eq,<- l]
  exact h _ (I.tok _)
 ·subst c
  cases (show u=Value.ref b from f)
  obtain⟨z,d,x,R,D⟩:=JV I.hok e
  refine wpAny_in_heap (Le i) (Ja I.hok j) d D ?_
  have q:=(R.val k).isSome_eq
  rw[Mo]at q
  rw[<- q,<- l]
  exact h _ (I.tok _)
theorem vf{Q:Value->Shared->Prop}(i:A.units+1 < cLine)(I:ap X pins σ H s)(g:dH H a y o)(f:aC y u)(h:∀S,ap X pins σ H S->Q (.bool (!o.isSome)) S):
  wpAny (model X.prog X.w) A (compareOp .NotIn u (.ref a)) Q E s:=by
 rcases g with ⟨K,k,e,c,l⟩ | ⟨K,k,b,e,c,j,l⟩
 ·subst c
  obtain⟨z,d,m,R,D⟩:=Jo I.hok e
  refine wpAny_notIn_of (JU f) d D.mapOf ?_
  rw[<- (R.val k).isSome_eq,<- l]
  exact h _ (I.tok _)
 ·subst c
  cases (show u=Value.ref b from f)
  obtain⟨z,d,x,R,D⟩:=JV I.hok e
  refine wpAny_notIn_heap (Le i) (Ja I.hok j) d D ?_
  have q:=(R.val k).isSome_eq
  rw[Mo]at q
  rw[<- q,<- l]
  exact h _ (I.tok _)
theorem QR(I:ap X pins σ H s)(m:Cd (H a))(c:Heap.SameBut a s.heap h)(d:∃q,h.get? a=some q)(n:aK X.prog X.w (af H a O) h a O):
  ap X pins σ (af H a O) { s with heap:=h,toks:=t }:=
 I.write (x:=a) (e:=a) m (.inl Z) (λb q f z=>(c.2 b f).trans z) d n
theorem QD{P:Program}{h:Heap}{k:List (bh×V)}(z:k.length<=sizeLine)(c:(a==sysModules)=false)(R:KV k b)(d:h.DictOf (aT P w) a b):
  aK P w e h a (.dK k):=#[z,c,b,R,d]
theorem ZF{Q:Unit->Shared->Prop}(J:A.units+1 < cLine)(I:ap X pins σ H s)(g:iP H a y v L)(x:aC y u)(B:aC v r)(h:∀S,ap X pins σ L S->Q () S):
  wpAny (model X.prog X.w) A (setItem (.ref a) u r) Q E s:=by
 rcases g with ⟨K,k,e,i,l,j⟩ | ⟨K,k,b,e,i,C,l,j⟩
 ·subst i j
  obtain⟨z,m,M,R,D⟩:=Q6 I.hok e
  have n:M.length<=sizeLine:=by rw[<- R.length];exact z
  have p:(aY K k v).length<=sizeLine:=by have:=qd K k v;omega
  refine wpAny_setItem_pairs (hsz:=n) (JU x) D λF d t=>h _ ?_
  have N:∃q,F.get? a=some q:=let #[q,_,_,f,_]:=d;#[q,f]
  exact QR I (by rw[e];exact True.intro) t N (QD p m (R.put k B) d)
 ·subst i j
  cases (show u=Value.ref b from x)
  obtain⟨z,m,O,R,D⟩:=CB I.hok e
  have n:O.length<=sizeLine:=by rw[<- Paired.length R];exact z
  have p:(aY K k v).length<=sizeLine:=by have:=qd K k v;omega
  refine wpAny_setItem_heap (hsz:=n) (Le J) (Ja I.hok C) D λF d t=>h _ ?_
  obtain⟨q,P,T,f,U,W,Y,_,h5⟩:=d
  refine QR I (by rw[e];exact True.intro) t #[q,f] #[p,m,_,(R.put k C B).keeps λc ys G=>?_,q,P,T,f,U,W,Y,h5]
  rw[ji (jP G e (λz=>nomatch z))]
  exact G
end
def Ce(i:Expr):Prop:=∀o I,subscripted i false o I=operate [o,I] (getItem o I)
theorem xf{id:String}
  (k:typeLookup (.type T) "__getitem__"=pure (some (.builtin id))) (l:Ce a)
  (h:wpAny (model p w) A (eval v e) (λo b=>wpAny (model p w) A (eval a e) (λi S=>S.TypeIs o T/\wpAny (model p w) A (getItem o i) Q E S) E b) E s):
  wpAny (model p w) A (eval (.Subscript v a m) e) Q E s:=by
 refine OH (HI h (λo b d=>HI d (λi S H=>?_) λ_ _ x=>x) λ_ _ x=>x)
 obtain⟨j,H⟩:=H
 unfold subscriptTail
 refine Gb ?_
 rw[getitemInPython_of_ne j.not_modules]
 refine Gb (Ij j k ?_)
 have f:wpAny (model p w) A (subscripted a false o i) (λr c=>wpAny (model p w) A (letTemporaryGo v o r >>= λ_=>pure r) Q E c) E S:=by
  rw[l o i]
  exact wpAny_operating (HI H (λr c g=>Gb (wpAny_letTemporaryGo (Ge g))) λ_ _ x=>x)
 first
  |exact Ge (Gb f)
  |exact Gb (Ge (Gb f))
  |exact Gb f
theorem XB{X:Cx}(I:ap X p c H s)(g:dH H a y o):s.TypeIs (.ref a) "dict":=by
 rcases g with ⟨K,k,e,_,_⟩ | ⟨K,k,b,e,_,_,_⟩
 ·obtain⟨_,_,v,_,d⟩:=Jo I.hok e
  exact d.typeIs
 ·obtain⟨_,_,x,_,d⟩:=JV I.hok e
  exact d.typeIs
inductive tW(Q:VK)(x y:V)(b:Hp):Prop
 |mk(a v:_)(_:x= .ref a)(_:dH b a y (some v))(_:Q v b)
def DS(t T:TE):TE:=λa H Q=>t a H λx h=>T a h (tW Q x)
inductive yk(Q:VK)(y x:V)(b:Hp):Prop
 |mk(a o:_)(_:x= .ref a)(_:dH b a y o)(_:Q (.bl o.isSome) b)
def ER(t T:TE):TE:=λa H Q=>t a H λy h=>T a h (yk Q y)
inductive mh(Q:VK)(y x:V)(b:Hp):Prop
 |mk(a o:_)(_:x= .ref a)(_:dH b a y o)(_:Q (.bl (!o.isSome)) b)
def xj(t T:TE):TE:=λa H Q=>t a H λy h=>T a h (mh Q y)
inductive sG(D:a9)(d:St)(v x y:V)(b:Hp):Prop
 |mk(a c:_)(_:x= .ref a)(_:iP b a y v c)(_:D.nx d c)
def sF(t T b:TE):TS:=λD a H=>b a H λv h=>t a h λx c=>T a c (sG D a v x)
section
variable {X:Cx}{o i e value:Expr}{pos pos' tpos:Pos}{td ty tv:TE}
theorem wn(d:X.A.units+1 < cLine)(f:PE X o td)(j:PE X i ty)(k:Ce i):PE X (.Subscript o i pos) (DS td ty):=by
 intro p s b H Q I h
 refine xf PySem.F.slot_dict_getitem.lookup k (aQ (f p s b H _ I h) λu S #[x,l,m,R,q]=>aQ (j p S b l _ m q) λC D z=>?_)
 obtain⟨y,n,c,t,a,v,E,g,w⟩:=z
 subst E
 obtain rfl:u=Value.ref a:=R
 exact#[XB c g,ZE d c g t λW G B r=>#[v,n,B,r,w]]
theorem AN(c:X.A.units+1 < cLine)(d:PE X i ty)(f:PE X o td):PC X .In i o (ER ty td):=by
 intro p s b H Q I h
 refine aQ (d p s b H _ I h) λv S #[y,j,k,r,q]=>aQ (f p S b j _ k q) λu w z=>?_
 obtain⟨x,l,m,R,a,O,E,g,n⟩:=z
 subst E
 obtain rfl:u=Value.ref a:=R
 exact Eu c m g r λB t=>#[.bl O.isSome,l,t,Z,n]
theorem Qj(c:X.A.units+1 < cLine)(d:PE X i ty)(f:PE X o td):PC X .NotIn i o (xj ty td):=by
 intro p s b H Q I h
 refine aQ (d p s b H _ I h) λv S #[y,j,k,r,q]=>aQ (f p S b j _ k q) λu w z=>?_
 obtain⟨x,l,m,R,a,O,E,g,n⟩:=z
 subst E
 obtain rfl:u=Value.ref a:=R
 exact vf c m g r λB t=>#[.bl (!O.isSome),l,t,Z,n]
theorem zK(c:X.A.units+1 < cLine)(d:PE X o td)(f:PE X i ty)(j:PE X value tv)(k:swapsWith value (some (.Subscript o i pos')) pos.line X.env=pure false):
  PS X (.Assign [.Subscript o i pos'] value pos) (sF td ty tv):=by
 intro p s b H D I h
 refine wpAny_Assign_Subscript (aQ (j p s b H _ I h) λr S #[v,l,m,R,q]=>aQ (d p S b l _ m q) λu n #[x,t,w,B,Q]=>aQ (f p n b t _ w Q) λL M z=>?_) k
 obtain⟨y,N,C,E,a,F,G,g,J⟩:=z
 subst G
 obtain rfl:u=Value.ref a:=B
 exact ZF c C g E R λO K=>#[b,F,K,J]
end
theorem pk{P:Program}(h:Heap)(a:sysModules < h.objs.size):aK P w H (h.push { cls:=.type "dict",data:=.dict (List.toArray []) }) h.objs.size (.dK []):=
 #[Gp _,beq_eq_false_iff_ne.mpr (G7 (Go a)),[],.nil,Nl h]
def Bx:TE:=λ_ H Q=>∀p,H p=none->Q (.ref p) (af H p (.dK []))
section
variable {X:Cx}{pos:Pos}
theorem Ke:PE X (.Dict [] [] pos) Bx:=λp s b H Q I h=>
 wpAny_Dict_empty #[.ref s.heap.objs.size,_,I.laid (a:=s.heap.objs.size) (o:=.dK []) (t':=s.toks) (λ_ _ q=>Gf _ q) (Gh _) (pk s.heap I.big),Z,h _ (I.hok.fresh (Gh _))]
end
noncomputable def bV(k m:List (bh×V)):List (bh×V):=m.foldl (λa K=>aY a K.1 K.2) k
theorem KV.merge:∀{m:List (bh×V)} {R:List (bh×Value)} {k:List (bh×V)} {v:List (bh×Value)},KV m R->KV k v->KV (bV k m) (merged v R):=by
 intro m R k v r
 unfold KV at r
 induction r generalizing k v with
 |nil=>intro q;exact q
 | @cons p q P Q h t i=>
  intro a
  have e:KV (aY k p.1 p.2) (stored v q.1 q.2):=by
   have:=a.put p.1 h.2
   rw[<- h.1];exact this
  exact i e
theorem kX:∀(m k:List (bh×V)),(bV k m).length<=k.length+m.length
 | [],k=>by show k.length<=k.length+0;omega
 |p::r,k=>by
  have h:=kX r (aY k p.1 p.2)
  have H:=qd k p.1 p.2
  show(bV (aY k p.1 p.2) r).length<=_
  rw[GX];omega
structure M2(X:Cx)(o:Expr)(m:Str)(apos:Pos)(e f:Expr)(cpos:Pos):Prop where
 base:attributeBase o m X.env (eval o X.env)=eval o X.env
 few:((backTo cpos (starEach [e,f] X.env)).all (λx=>!x.1)&&(backToKw cpos (keywordEach [] X.env)).all (λx=>x.1.isSome)
  &&decide (([e,f]:List Expr).length+([]:List Keyword).length+(if ([]:List Keyword).isEmpty then 0 else 1) < 30))=true
 line:(apos.endLine==cpos.line)=true
 trees:backTo cpos (starEach [e,f] X.env)=[(false,eval e X.env),(false,eval f X.env)]
def Fd(H:Hp)(a:Addr):Prop:=(∃k,Rd H a (.dK k))∨∃k,Rd H a (.dT k)
theorem yV{X:Cx}(I:ap X p g H s)(d:Fd H a):
  s.TypeIs (.ref a) "dict"/\(∀b,Value.ref a= .ref b->∃o,s.heap.get? b=some o/\o.dict=none)/\(a==sysModules)=false:=by
 rcases d with ⟨k,e⟩ | ⟨k,e⟩
 ·obtain⟨_,h,v,_,D⟩:=Jo I.hok e
  refine#[D.typeIs,λb q=>?_,h]
  cases q
  obtain⟨o,_,_,c,f,_⟩:=D
  exact#[o,c,f.2.1]
 ·obtain⟨_,h,x,_,D⟩:=JV I.hok e
  refine#[D.typeIs,λb q=>?_,h]
  cases q
  obtain⟨o,_,_,c,f,_⟩:=D
  exact#[o,c,f.2.1]
section
variable {X:Cx}{pins:List (Addr×Obj)}{σ:St}{H:Hp}{s:Shared}{a:Addr}{y d:V}{u r:Value}{o:Option V}{A:Around}{E:Value->Shared->Prop}
theorem yH{Q:Value->Shared->Prop}(m:A.units+1 < cLine)(I:ap X pins σ H s)(g:dH H a y o)(i:aC y u)(j:aC d r)(h:∀W S,ap X pins σ H S->aC (o.getD d) W->Q W S):
  wpAny (model X.prog X.w) A (call (.builtin "dict.get") [.ref a,u,r]) Q E s:=by
 rcases g with ⟨K,k,e,c,l⟩ | ⟨K,k,b,e,c,n,l⟩
 ·subst c
  obtain⟨z,f,v,R,D⟩:=Jo I.hok e
  refine NW LH D.typeIs M5 (MY _ _ _) (meets_dict_get_default (aT X.prog X.w) a (JU i) f r) #[_,D.mapOf,h _ _ (I.tok _) ?_]
  rw[l]
  exact(R.val k).getD j
 ·subst c
  cases (show u=Value.ref b from i)
  obtain⟨z,f,x,R,D⟩:=JV I.hok e
  refine NW LH D.typeIs M5 (MY _ _ _) (meetsH_dict_get_default (tupleKind (aT X.prog X.w)) a b f r) #[Le m,k,x,Ja I.hok n,D,h _ _ (I.tok _) ?_]
  rw[l]
  exact(R.val k).getD j
end
inductive om(d c:TE)(e:St)(Q:VK)(x:V)(b:Hp):Prop
 |mk(a:_)(_:x= .ref a)(_:Fd b a)(_:d e b λy H2=>c e H2 λz H3=>∃o,dH H3 a y o/\Q (o.getD z) H3)
def Bw(t T b:TE):TE:=λa H Q=>t a H (om T b a Q)
section
variable {X:Cx}{o e f:Expr}{apos cpos:Pos}{td ty tx:TE}
theorem Kf(j:X.A.units+1 < cLine)(k:PE X o td)(l:PE X e ty)(n:PE X f tx)(m:M2 X o "get" apos e f cpos):PE X (.Call (.Attribute o "get" apos) [e,f] [] cpos) (Bw td ty tx):=by
 intro p s b H Q I h
 refine wpAny_Call_method m.base m.few m.line MW LH PySem.F.type_dict_get (aQ (k p s b H _ I h) λu S c=>?_)
 obtain⟨x,q,i,R,a,E,d,t⟩:=c
 subst E
 obtain rfl:u=Value.ref a:=R
 obtain⟨T,v,_⟩:=yV i d
 refine#[T,v,?_]
 rw[m.trees]
 refine LL Z (Nw (Im (aQ (l p S b q _ i t) λO w #[y,B,C,D,G]=>
  Im (aQ (n p w b B _ C G) λP U #[z,J,K,L,V,g,M]=>II ?_))))
 exact yH j K g D L λW Y N r=>#[_,J,N,r,M]
end
section
variable {X:Cx}{pins:List (Addr×Obj)}{σ:St}{H:Hp}{s:Shared}{a:Addr}{kvs:List (bh×V)}{A:Around}{E:Value->Shared->Prop}
theorem ph{Q:Value->Shared->Prop}(I:ap X pins σ H s)(e:Rd H a (.dK kvs))(h:∀p S,H p=none->ap X pins σ (af H p (.dK kvs)) S->Q (.ref p) S):wpAny (model X.prog X.w) A (call (.type "dict") [.ref a]) Q E s:=by
 obtain⟨z,f,v,r,D⟩:=Jo I.hok e
 refine kt_call_dict f D (by rw[<- r.length];exact z) λi d g=>?_
 refine h _ _ (I.hok.fresh (Gh _)) (I.laid (a:=s.heap.objs.size) (o:=.dK kvs) (t':=s.toks) (λb q c=>?_) (Gh _) (QD z (beq_eq_false_iff_ne.mpr (G7 (Go I.big))) r d))
 exact(g.2 b (Go (Gk c))).trans (Gf _ c)
end
section
variable {X:Cx}{pins:List (Addr×Obj)}{σ:St}{H:Hp}{s:Shared}
theorem KV.get{a:Type}:∀{K:List (a×V)} {c:List (a×Value)} {i:Nat} {k:a} {x:V},KV K c->K[i]?=some (k,x)->∃v,c[i]?=some (k,v)/\aC x v
 |_,_,_,_,_,.nil,e=>by simp at e
 |_,_,0,k,x,.cons (b:=q) r _,e=>by
  simp at e
  subst e
  obtain⟨R,d⟩:=r
  obtain⟨g,Q⟩:=q
  cases R
  exact#[Q,Z,d]
 |_,_,i+1,k,x,.cons _ t,e=>by
  obtain⟨v,h,f⟩:=KV.get (i:=i) t (by simpa using e)
  exact#[v,by simpa using h,f]
theorem qf:dR X (.type "dict") (λx H Q=>∃a k,x=[.ref a]/\H a=some (.dK k)/\∀p,H p=none->Q (.ref p) (af H p (.dK k))):=by
 intro pins s σ H x U Q I r h
 obtain⟨a,k,rfl,b,q⟩:=h
 obtain⟨u,rfl,R⟩:=eJ r
 cases R
 exact ph I (.inl b) λp S n i=>#[.ref p,_,i,Z,q p n]
theorem Jt{a:Type}[DecidableEq a]{k:a}{y:Value}:∀{K:List (a×Value)},(K.map (·.1)).Nodup->(k,y)∈K->valueAt K k=some y
 | [],_,h=>nomatch h
 | (j,z)::r,n,h=>by
  unfold valueAt
  rw[HS,ML]at n
  rcases List.mem_cons.mp h with e |h
  ·cases e
   simp [Ie]
  ·have b:¬j=k:=λe=>n.1 (by rw[e];exact List.mem_map.mpr #[_,h,Z])
   rw[Ie]
   simp only[b,decide_false]
   exact Jt n.2 h
theorem Xf{a:Type}[DecidableEq a]{A:Around}{s:Shared}{K:List (a×Value)}:∀{l:List (a×Value)},(∀p∈l,∃y,valueAt K p.1=some y/\SeqAt.EqAt A s p.2 y true)->PySem.W.KeqHits A s K l true
 | [],_=>.nil
 | (k,v)::r,h=>by
  obtain⟨y,c,d⟩:=h (k,v) GF
  exact .hit (e:=true) (b:=true) c d (Xf λp f=>h p (GJ _ f))
end
section
open PySem.W PySem.Calls Builtin Builtin.ObjectAttr
variable {prog:Program}{w:World}{A:Around}{E:Value->Shared->Prop}{s:Shared}{K:Frag}{x C:Addr}{ox:Obj}{od:Option Obj}{name:Str}
structure oR(K:Frag)(C:Addr):Prop where
 ga:findIn K (.ref C) "__getattribute__"=some (some (.builtin "BaseException.__getattribute__"))
 gh:findIn K (.ref C) "__getattr__"=some none
 sa:findIn K (.ref C) "__setattr__"=some (some (.builtin "object.__setattr__"))
 cl:findIn K (.ref C) "__class__"=some (some (.builtin "object.__class__"))
 gt:specialIn K (.builtin "object.__class__") "__get__"=some (some (.builtin "getset_descriptor.__get__"))
 tk:takesIn K (.builtin "object.__class__")=some true
 mb:mroIn K C (.type "BaseException")=some true
 mo:mroIn K C (.type "object")=some true
 hd:hasDictIn K C=true
abbrev oA:List Value:=[.type "ValueError",.type "Exception",.type "BaseException",.type "object"]
end
section
open PySem.W PySem.Calls
variable {prog:Program}{w:World}{A:Around}{E:Value->Shared->Prop}{R:Result->Shared->Prop}{K:Frag}{h:Heap}{g:Array GenState}{d:Drawn}{t:Nat}{os:OsState}{C B:Addr}
theorem ZG(q:excIn K C oA "ValueError.__new__"=true):(∃p q N r f a s sub u c D k i j m o,K.lookup C=some (excClassObj p q C N r f a s sub u c D k i j m o "ValueError.__new__")/\tailIn K oA f=true/\nsOkIn K N=true/\nsIn K N "__init__"=some none):=by
 unfold excIn at q
 split at q
 ·rename_i D z S F
  split at q
  ·rename_i O f k i j m n o x y
   simp only[Hy,beq_iff_eq,N7]at q
   obtain⟨⟨⟨⟨⟨rfl,rfl⟩,H⟩,G⟩,b⟩,e⟩:=q
   obtain⟨p,r,M,I,Q,J,s,sub,u,c,L⟩:=z
   dsimp only at x H b e
   subst x H
   have v:S=(List.toArray [k,i,j,m,some (.builtin "ValueError.__new__"),o]):=by
    obtain⟨l⟩:=S
    simp only at y
    rw[y]
   subst v
   exact#[p,Q,I,r,f,J,s,sub,u,c,D,k,i,j,m,o,F,G,b,e]
  ·cases q
 ·cases q
end
theorem aK.obj{P:Program}{a:Addr}(x:aK P w H h a o):∃u,h.get? a=some u:=by
 cases o with
 |lst X=>obtain⟨_,_,_,_,e⟩:=x;exact#[_,e]
 |tup X=>obtain⟨_,_,_,o,e,_⟩:=x;exact#[_,e]
 |dK k=>obtain⟨_,_,_,_,o,_,_,e,_⟩:=x;exact#[_,e]
 |dT k=>obtain⟨_,_,_,_,o,_,_,e,_⟩:=x;exact#[_,e]
 |set S n=>obtain⟨o,_,_,_,e,_⟩:=x;exact#[_,e]
 |ins C d F=>obtain⟨_,_,_,e,_⟩:=x;exact#[_,e]
 |own y=>obtain⟨_,e⟩:=x;exact#[_,e]
 |xd F=>obtain⟨_,⟨_,_,_,e,_⟩,_⟩:=x;exact#[_,e]
 |rng lo b=>obtain⟨_,_,_,e⟩:=x;exact#[_,e]
 |frz O u=>obtain⟨e,_⟩:=x;exact#[_,e]
 |tbl p=>exact#[_,(show h.get? a=some _ from x)]
 |met f y=>exact#[_,(show h.get? a=some _ from x)]
 |ext c=>obtain⟨_,⟨_,e⟩,_⟩:=x;exact#[_,e]
theorem ap.laidN{X:Cx}{h':Heap}{a:Addr}{o:HO}{t':Nat}(I:ap X p g H s)(k:∀b u,s.heap.get? b=some u->h'.get? b=some u)(d:s.heap.get? a=none)(N:aK X.prog X.w (af H a o) h' a o):
  H a=none/\ap X p g (af H a o) { s with heap:=h',toks:=t' }:=by
 have i:∀b u,s.heap.get? b=some u->b≠a:=λb u q z=>by rw[z,d]at q;cases q
 have h:H a=none:=by
  cases q:H a with
  |none=>rfl
  |some u=>obtain⟨U,e⟩:=(I.hok a u q).obj;rw[d]at e;cases e
 refine#[h,I.un ?_ ?_]
 ·exact { keep:=λb u q _ _ _=>k b u q,slot:=λb u q _ _ _=>#[u.slots,k b u q],free:=λb u q n _=>by rw[ji (i b u q)];exact n,there:=λb u q _=>#[u,k b u q],tups:=λb x q=>by rw[ji (jk q h)];exact q,frzs:=λb u x q=>by rw[ji (jk q h)];exact q,tbls:=λb P q=>#[(List.toArray []),by rw[ji (jk q h),q];simp] }
 ·intro b u e
  by_cases f:b=a
  ·subst f;rw[jc]at e;cases e;exact N
  ·rw[ji f]at e
   exact(I.hok b u e).stay (λc v _ q=>k c v q) (λc q=>by rw[ji (jk q h)];exact q) λc x q=>by rw[ji (jk q h)];exact q
noncomputable def xF(C:Addr)(d:Option Addr)(x:Addr):HO:=.ext λh=>∃o,h.get? x=some o/\o.cls= .ref C/\notCls o=true/\o.dict=d/\∃v,o.data= .fields v/\v[1]?=some .none
theorem yM{P:Program}{h:Heap}(e:h.get? x=some o)(a:o.cls= .ref C)(b:notCls o=true)(c:o.dict=d)(f:∃v,o.data= .fields v/\v[1]?=some .none):aK P w H h x (xF C d x):=
 #[#[o,e,a,b,c,f],#[o,e],λg i #[O,E,q] k=>#[O,k O E,q]]
def xk(C:Addr):TE:=λa H Q=>∀x,H x=none->Q (.ref x) (af H x (xF C none x))
section
variable {X:Cx}{CX:nB}{k:Nat}{f C:Addr}{fd:FuncData}{ps:List Str}{sp:Sp}{E:XK}{x m g:Str}{p pos pos':Pos}{e o value:Expr}{es:List Expr}{ta tv:TE}{t:TA}
theorem Qk(M:excIn X.K C oA "ValueError.__new__"=true)(l:keepIn X.K (.ref C)=true)(n:Gl X x)(r:X.mg x=some (.ref C))(c:(x==("__debug__":Str))=false:=by decide):
  PE X (.Call (.Name x p) [] [] pos) (xk C):=by
 intro P s D H Q I h
 refine Hu (zJ I n r ?_ c)
 refine Ni I.kIn l ?_
 obtain⟨G,q,N,J,L,j,S,sub,O,u,R,U,V,Y,k3,k5,v,w,b,i⟩:=ZG M
 have y:=I.kIn _ _ v
 obtain⟨hp,g,d,T,os⟩:=s
 refine wpAny_call_exc_subT PySem.F.excBase_ValueError (PySem.W.tail_of_in I.kIn w) y (.of_isNs (PySem.W.isNs_of_in I.kIn b)) (PySem.W.nsMap_none_of_in I.kIn b i) (λh' e m=>?_) (Gp _)
 obtain⟨t,z,_,_⟩:=m.there
 obtain⟨A,B⟩:=I.laidN (a:=e) (h':=h') (o:=xF C none e) (t':=T) m.keeps m.new (yM z Z Z Z #[_,Z,Z])
 exact#[.ref e,_,B,Z,h e A]
end
theorem ap.turnedN{X:Cx}{p:List (Addr×Obj)}{d:St}{H:Hp}{s:Shared}{g:Heap}{t':Nat}{f:List Addr}(I:ap X p d H s)(a:∀b∈f,eX X p H b)(k:∀b o,b∉f->s.heap.get? b=some o->g.get? b=some o):
  ap X p d H { s with heap:=g,toks:=t' }:=by
 have N:∀b u,H b=some u->b∉f:=λb u e z=>by rw[(a b z).1]at e;cases e
 refine I.step (g':=s.gens) (d':=s.drawn) (ch:=f) (λb i=>?_) (λb o _ _ h e _=>k b o h e) (λb o _ _ h e _=>#[o.slots,k b o h e]) (λ_ _ _ _ n=>n)
  (λb o h e=>#[o,k b o h e]) (λ_ _ e=>e) (λ_ _ _ e=>e) (λb P e=>#[(List.toArray []),by rw[e];simp]) (λm j=>?_) (λb u e=>?_) I.bare
 ·obtain⟨A,F,B,l,t,w⟩:=a b i
  exact#[l,F,t,w]
 ·obtain⟨o,E,x,y,r⟩:=j
  exact#[o,E,x,k _ o (λz=>(a _ z).2.1 Z) y,r]
 ·refine(I.hok b u e).stay (λc v h q=>k c v ?_ q) (λ_ q=>q) λ_ _ q=>q
  rcases h with z |z
  ·rw[z];exact N b u e
  ·exact N c _ z
section
variable {M:Model}{A:Around}{E:Value->Shared->Prop}{s:Shared}
structure cQ(fl:Value)(iH:List Addr)(x:Addr)(ox:Obj)(h h':Heap):Prop where
 ex:∃T oT ts,h.objs.size<=T/\h'.get? x=some (Obj.mapFields (·.setIfInBounds 1 (.ref T)) ox)/\h'.get? T=some oT/\oT.data= .fields ts/\ts[3]?=some fl
 keep:∀b o,b∉iH->b≠x->h.get? b=some o->h'.get? b=some o
 slot:∀b o,b≠x->h.get? b=some o->∃sl,h'.get? b=some { o with slots:=sl }
theorem Ql{Q:Unit->Shared->Prop}
  (t:A.frames=some (d::O)) (F:s.heap.FunFrames G (d::O)) (N:d.frame=some L)
  (I:s.heap.get? x=some u) (v:u.data= .fields J) (w:1 < J.size)
  (h:∀K,cQ (rawInt L) ((d::O).filterMap (·.frame)) x u s.heap K->Q () { s with heap:=K }):
  wpAny M A (do let a <- frameOf d;let p <- entryPlaceOf L q;let b <- EntryCells.newEntry f a .none (rawInt L) .none p;setField (.ref x) 1 b) Q E s:=by
 have y:x∉(d::O).filterMap (·.frame):=λP=>by
  obtain⟨_,o,r,z⟩:=F.mem P
  rw[I]at r;injection r with r;subst r;exact z J v
 refine Gb (wpAny_frameOf_fun t F N λH c=>?_)
 refine Gb (wpAny_entryPlaceOf λp B=>?_)
 unfold EntryCells.newEntry newFields
 refine Gb (Hf ?_ (B.sizeOk5 _ _ _ _ _))
 have g:H.get? x=some u:=(c.2.1 x y).trans I
 have i:=Gf (h:=H) { cls:=.type "traceback",dict:=none,data:=.fields ([f,.ref L,.none,rawInt L,.none]++(if p.isEmpty then List.replicate 6 Value.none else p)).toArray } g
 refine Hm i v w (h _ ?_)
 have C:H.objs.size≠x:=Hn (Gk g)
 have j:=GZ v (·.setIfInBounds 1 (Value.ref H.objs.size))
 have l:=Hc (Obj.mapFields (·.setIfInBounds 1 (Value.ref H.objs.size))) i (HG j)
 have k:∀b o,b≠x->H.get? b=some o->((H.push { cls:=.type "traceback",dict:=none,data:=.fields ([f,.ref L,.none,rawInt L,.none]++(if p.isEmpty then List.replicate 6 Value.none else p)).toArray }).update x (Obj.mapFields (·.setIfInBounds 1 (Value.ref H.objs.size)))).get? b=some o:=λb o D e=>by
  rw[Gv _ _ (G7 D)]
  exact Gf _ e
 have m:=(Gv (H.push { cls:=.type "traceback",dict:=none,data:=.fields ([f,.ref L,.none,rawInt L,.none]++(if p.isEmpty then List.replicate 6 Value.none else p)).toArray })
  (Obj.mapFields (·.setIfInBounds 1 (Value.ref H.objs.size))) (G7 C)).trans (Gm H Z)
 refine#[#[H.objs.size,_,_,MD c.1.symm,l,m,Z,P5],λb o D n e=>k b o n ((c.2.1 b D).trans e),λb o n e=>?_]
 obtain⟨S,R⟩:=c.2.2 b o e
 exact#[S,k b _ n R]
theorem Ye{Q:Unit->Shared->Prop}
  (H:A.frames=some (e::o)) (i:s.heap.FunFrames b (e::o)) (a:e.frame=some L)
  (c:s.heap.get? x=some O) (d:O.data= .fields v) (f:v[1]?=some .none)
  (h:∀g,cQ (rawInt L) ((e::o).filterMap (·.frame)) x O s.heap g->Q () { s with heap:=g }):
  wpAny M A (noteFrame (.ref x) e) Q E s:=by
 unfold noteFrame
 simp only[a]
 refine Gb (GL c d f ?_)
 rw[GG PZ]
 exact Ql H i a c d (Array.getElem?_eq_some_iff.mp f).1 h
theorem y6{iH:List Addr}{Q:Unit->Shared->Prop}(N:cQ C iH x O H s.heap)(j:H.get? x=some O)(v:O.data= .fields w)(k:1 < w.size)
  (h:∀p,cQ .none iH x O H p->Q () { s with heap:=p }):wpAny M A (setFlight (.ref x) none) Q E s:=by
 obtain⟨T,D,F,c,r,t,g,y⟩:=N.ex
 have l:=GZ v (·.setIfInBounds 1 (Value.ref T))
 have m:T≠x:=λz=>absurd (Gu (Gk j) (by rw[<- z];exact c)) (HE _)
 unfold setFlight
 refine Gb (GL r l (x:=.ref T) (by simp [k]) ?_)
 rw[Gw (show(Value.ref T != Value.none)=true from by simp)]
 have i:=(Array.getElem?_eq_some_iff.mp y).1
 refine Hm t g i (h _ ?_)
 have a:=GZ g (·.setIfInBounds 3 ((none:Option Addr).elim Value.none λf=>rawInt f))
 have n:=Hc (Obj.mapFields (·.setIfInBounds 3 ((none:Option Addr).elim Value.none λf=>rawInt f))) t (HG a)
 have u:∀b o,H.get? b=some o->T≠b:=λb o e z=>absurd (Gu (Gk e) (by rw[<- z];exact c)) (HE _)
 refine#[#[T,_,_,c,by rw[Gv _ _ m];exact r,n,a,by simp [i]],λb o B d e=>?_,λb o d e=>?_]
 ·rw[Gv _ _ (u b o e)]
  exact N.keep b o B d e
 ·obtain⟨S,q⟩:=N.slot b o d e
  exact#[S,by rw[Gv _ _ (u b o e)];exact q]
theorem XC{base:Heap}{Q:Unit->Shared->Prop}
  (a:A.frames=some (e::o)) (f:s.heap.FunFrames base (e::o)) (g:e.frame=some L)
  (b:s.heap.get? x=some O) (c:O.data= .fields v) (d:v[1]?=some .none)
  (h:∀H,cQ .none ((e::o).filterMap (·.frame)) x O s.heap H->Q () { s with heap:=H }):
  wpAny M A (leaving e (.ref x)) Q E s:=by
 unfold leaving
 exact Gb (Ye a f g b c d λH N=>y6 (s:={ s with heap:=H }) N b c (Array.getElem?_eq_some_iff.mp d).1 h)
end
section
variable {M:Model}{A:Around}{E:Value->Shared->Prop}{s:Shared}
noncomputable abbrev dS(T:Addr)(h:Heap):Heap:=h.update T (Obj.mapFields (·.setIfInBounds 3 Value.none))
theorem Qm{base:Heap}{Q:Unit->Shared->Prop}
  (f:A.frames=some (e::O)) (w:s.heap.FunFrames base (e::O)) (j:e.frame=some L)
  (k:s.heap.get? x=some l) (m:l.data= .fields v) (p:v[1]?=some (.ref T)) (g:T≠x) (i:s.heap.get? T=some y) (c:y.data= .fields t) (r:t[3]?=some .none)
  (h:∀u,cQ (rawInt L) ((e::O).filterMap (·.frame)) x l (dS T s.heap) u->Q () { s with heap:=u }):
  wpAny M A (noteFrame (.ref x) e) Q E s:=by
 unfold noteFrame
 simp only[j]
 refine Gb (GL k m p ?_)
 rw[Gw (show(Value.ref T != Value.none)=true from by simp)]
 refine Gb (GL i c r ?_)
 rw[GG (show ¬((Value.none==rawInt L)=true) from by simp [rawInt])]
 refine Gb (Hm i c (Array.getElem?_eq_some_iff.mp r).1 ?_)
 have a:∀b,b≠T->(dS T s.heap).get? b=s.heap.get? b:=λb H=>Gv _ _ (G7 H)
 have n:∀b o,s.heap.get? b=some o->(∀v,o.data≠ .fields v)->b≠T:=λb o H d q=>by
  rw[q,i]at H;injection H with H;subst H;exact d t c
 exact Ql (s:={ s with heap:=dS T s.heap }) f (w.of_keeps λb o H d=>#[o,(a b (n b o H d)).trans H,Z]) j ((a x (G7 g)).trans k) m (Array.getElem?_eq_some_iff.mp p).1 h
theorem Yf{base:Heap}{Q:Unit->Shared->Prop}
  (b:A.frames=some (e::o)) (i:s.heap.FunFrames base (e::o)) (j:e.frame=some L)
  (d:s.heap.get? x=some O) (f:O.data= .fields v) (g:v[1]?=some (.ref T)) (H:T≠x) (k:s.heap.get? T=some l) (c:l.data= .fields t) (m:t[3]?=some .none)
  (h:∀a,cQ .none ((e::o).filterMap (·.frame)) x O (dS T s.heap) a->Q () { s with heap:=a }):
  wpAny M A (leaving e (.ref x)) Q E s:=by
 unfold leaving
 exact Gb (Qm b i j d f g H k c m λa N=>y6 (s:={ s with heap:=a }) N ((Gv _ _ H).trans d) f (Array.getElem?_eq_some_iff.mp g).1 h)
end
noncomputable def gK(C:Addr)(d:Option Addr)(T x:Addr):HO:=.ext λh=>∃o v,h.get? x=some o/\o.cls= .ref C/\notCls o=true/\o.dict=d/\o.data= .fields v/\v[1]?=some (.ref T)
noncomputable def gg(T:Addr):HO:=.ext λh=>∃o t,h.get? T=some o/\o.data= .fields t/\t[3]?=some .none
theorem BC{P:Program}{h:Heap}(e:h.get? x=some o)(c:o.cls= .ref C)(f:notCls o=true)(g:o.dict=d)(i:o.data= .fields a)(b:a[1]?=some (.ref T)):aK P w H h x (gK C d T x):=
 #[#[o,a,e,c,f,g,i,b],#[o,e],λb j #[O,v,E,q] k=>#[O,v,k O E,q]]
theorem uf{P:Program}{h:Heap}(e:h.get? T=some o)(b:o.data= .fields a)(c:a[3]?=some .none):aK P w H h T (gg T):=
 #[#[o,a,e,b,c],#[o,e],λd f #[O,t,E,q] k=>#[O,t,k O E,q]]
def dP(P:Program)(w:World):nB:=λo H s E e S=>∃x C d T h,e= .ref x/\S.os=s.os/\AllBare S.gens/\Un (iH o) [] H h s.heap S.heap/\eF P w h S.heap/\
 h x=some (gK C d T x)/\h T=some (gg T)/\T≠x/\E (.ref C) d h
section
variable {X:Cx}{pins:List (Addr×Obj)}{σ:St}{H:Hp}{s:Shared}{x C:Addr}{d:Option Addr}
theorem cQ.hok{fl:Value}(I:ap X pins σ H s)(g:H x=some (.ext M))(P:s.heap.get? x=some o)(B:o.cls= .ref C)(D:o.dict=d)(j:o.data= .fields E)(k:1 < E.size)(l:∀b∈G,H b=none)
  (N:cQ .none G x o s.heap J):∃T,H T=none/\T≠x/\s.heap.objs.size<=T/\eF X.prog X.w (af (af H T (gg T)) x (gK C d T x)) J:=by
 obtain⟨T,Q,R,h,m,F,n,p⟩:=N.ex
 have i:H T=none:=I.hok.fresh h
 have r:T≠x:=G7 (jk g i)
 have a:=GZ j (·.setIfInBounds 1 (Value.ref T))
 refine#[T,i,r,h,λb u e=>?_]
 by_cases t:b=x
 ·subst t
  rw[jc]at e
  cases e
  refine BC m ((Lg _ _).trans B) ?_ ?_ a (by simp [k])
  ·unfold notCls
   rw[a]
  ·obtain⟨S,U,O,K⟩:=o
   simp only at j
   subst j
   exact D
 ·rw[ji t]at e
  by_cases f:b=T
  ·subst f
   rw[jc]at e
   cases e
   exact uf F n p
  ·rw[ji f]at e
   refine(I.hok b u e).stay (λc v A q=>?_) (λc q=>?_) λc V q=>?_
   ·have y:c≠x:=by
     rcases A with z |z
     ·rw[z];exact t
     ·exact jP z g (by intro q;cases q)
    refine N.keep c v (λL=>?_) y q
    have:=l c L
    rcases A with z |z
    ·rw[z,e]at this;cases this
    ·rw[z]at this;cases this
   ·rw[ji (jP q g (by intro z;cases z)),ji (jk q i)]
    exact q
   ·rw[ji (jP q g (by intro z;cases z)),ji (jk q i)]
    exact q
theorem cQ.un{h':Heap}(I:ap X pins σ H s)(hex:X.ex=[])(j:H x=some (.ext k))(l:H T=none)(c:s.heap.objs.size<=T)(f:∀b∈p,b∈X.fs∨X.s₀.heap.objs.size<=b)
  (N:cQ .none p x y s.heap h'):Un X.fs [] X.H₀ (af (af H T (gg T)) x (gK C d T x)) X.s₀.heap h':=by
 have g:∀b,H b=none->b≠x:=λb e z=>by rw[z,j]at e;cases e
 have r:∀b o,X.s₀.heap.get? b=some o->b≠T:=λb o e=>Go (Gu (Gk e) (Gr I.sz c))
 have a:∀b:Addr,b∉X.ex:=λb z=>by rw[hex]at z;cases z
 have t:∀b,H b=none->b≠T->af (af H T (gg T)) x (gK C d T x) b=none:=λb e z=>by rw[ji (g b e),ji z];exact e
 have U:∀b u,H b=some u->(∀k,u≠ .ext k)->af (af H T (gg T)) x (gK C d T x) b=some u:=λb u e z=>by
  rw[ji (λq=>by rw[q,j]at e;cases e;exact z _ Z),ji (jk e l)]
  exact e
 refine#[λb o e n h _=>?_,λb o e n h _=>?_,λb o e n _=>?_,λb o e _=>?_,λb v e=>U b _ (I.base.tups b v e) (by intro _ q;cases q),λb o u e=>U b _ (I.base.frzs b o u e) (by intro _ q;cases q),λb P e=>?_]
 ·refine N.keep b o (λz=>?_) (g b (I.base.free b o e n (a b))) (I.base.keep b o e n h (a b))
  rcases f b z with q |q
  ·exact h q
  ·exact absurd (Gu (Gk e) q) (HE _)
 ·obtain⟨w,q⟩:=I.base.slot b o e n h (a b)
  obtain⟨S,Q⟩:=N.slot b _ (g b (I.base.free b o e n (a b))) q
  exact#[S,Q]
 ·exact t b (I.base.free b o e n (a b)) (r b o e)
 ·obtain⟨O,q⟩:=I.base.there b o e (a b)
  by_cases h:b=x
  ·obtain⟨A,_,_,_,i,_⟩:=N.ex
   exact#[_,by rw[h];exact i]
  ·obtain⟨w,Q⟩:=N.slot b O h q
   exact#[_,Q]
 ·obtain⟨m,q⟩:=I.base.tbls b P e
  exact#[m,U b _ q (by intro _ q;cases q)]
end
section
variable {P:Program}{w:World}{K:Frag}{mg:Str->Option Value}{base:Heap}{N:List Str}{qual:Str}{scope:Scope}{f:Addr}{cd:Value}{A:Around}{outer:List Env}{s₀:Shared}{H₀:Hp}{E:XK}
variable {pins:List (Addr×Obj)}{σ:St}{H:Hp}{s:Shared}{x C:Addr}{d:Option Addr}
theorem uB(I:ap (eY (dP P w) P w K mg base N qual scope f cd A outer s₀ H₀ E) pins σ H s)(c:H x=some (xF C d x))
  (h:∀T,H T=none->E (.ref C) d (af (af H T (gg T)) x (gK C d T x))):(eY (dP P w) P w K mg base N qual scope f cd A outer s₀ H₀ E).xe (.ref x) s:=by
 obtain⟨⟨O,l,q,t,r,v,m,n⟩,_⟩:=I.hok x _ c
 have g:=(Array.getElem?_eq_some_iff.mp n).1
 refine XC (base:=base) I.ok.frames I.stack Z l m n λy o=>?_
 obtain⟨T,p,a,i,j⟩:=o.hok (C:=C) (d:=d) (fl:=.none) I c l q r m g λb k=>I.stkFree b k
 have u:=o.un (C:=C) (d:=d) I Z c p i λb k=>by
  rcases List.mem_cons.mp (I.stkSub b k) with e |e
  ·exact .inr (by rw[e];exact I.ok.above)
  ·exact .inl e
 exact#[x,C,d,T,_,Z,I.os,I.bare,u,j,jc,by rw[ji a,jc],a,h T p]
theorem ap.cleared{X:Cx}(I:ap X pins σ H s)(c:H T=some (gg T))(i:s.heap.get? T=some O)(j:O.data= .fields t)(k:t[3]?=some .none):ap X pins σ H { s with heap:=dS T s.heap }:=by
 have h:=GZ j (·.setIfInBounds 3 Value.none)
 have g:=Hc (Obj.mapFields (·.setIfInBounds 3 Value.none)) i (HG h)
 have:=I.write (x:=T) (e:=T) (o:=gg T) (h':=dS T s.heap) (t':=s.toks) (by rw[c];exact True.intro) (.inl Z) (λb u a q=>(Gv _ _ (G7 a)).trans q) #[_,g] (uf g h (by simp [(Array.getElem?_eq_some_iff.mp k).1]))
 have l:af H T (gg T)=H:=by
  funext b
  by_cases a:b=T
  ·rw[a,jc,c]
  ·rw[ji a]
 rw[l]at this
 exact this
theorem xu(I:ap (eY (dP P w) P w K mg base N qual scope f cd A outer s₀ H₀ E) pins σ H s)(g:H x=some (gK C d T x))(n:H T=some (gg T))(c:T≠x)
  (h:∀t,H t=none->E (.ref C) d (af (af H t (gg t)) x (gK C d t x))):(eY (dP P w) P w K mg base N qual scope f cd A outer s₀ H₀ E).xe (.ref x) s:=by
 obtain⟨⟨O,V,o,D,G,F,p,q⟩,_⟩:=I.hok x _ g
 obtain⟨⟨J,L,r,u,v⟩,_⟩:=I.hok T _ n
 have i:=(Array.getElem?_eq_some_iff.mp q).1
 have y:=I.cleared n r u v
 refine Yf (base:=base) I.ok.frames I.stack Z o p q c r u v λM z=>?_
 have j:(dS T s.heap).get? x=some O:=(Gv _ _ c).trans o
 obtain⟨t,B,a,k,l⟩:=cQ.hok (C:=C) (d:=d) (fl:=.none) y g j D F p i (λb m=>I.stkFree b m) z
 have U:=cQ.un (C:=C) (d:=d) y Z g B k (λb m=>by
  rcases List.mem_cons.mp (I.stkSub b m) with e |e
  ·exact .inr (by rw[e];exact I.ok.above)
  ·exact .inl e) z
 exact#[x,C,d,t,_,Z,I.os,I.bare,U,l,jc,by rw[ji a,jc],a,h t B]
theorem wm{j:XK}(m:∀x C d T t a,a x=some (gK C d T x)->a T=some (gg T)->a t=none->j (.ref C) d a->E (.ref C) d (af (af a t (gg t)) x (gK C d t x))):
  dj (dP P w) (eY (dP P w) P w K mg base N qual scope f cd A outer s₀ H₀ E) j:=by
 intro pins σ H s e S I h
 obtain⟨x,C,d,T,a,rfl,os,B,u,c,k,l,i,n⟩:=h
 obtain⟨p,g,D,q,o⟩:=S
 obtain rfl:o=s.os:=os
 have r:=I.call (h':=p) (g':=g) (d':=D) (t':=q) (ch:=[]) u c B (λb z=>absurd z P5)
 exact xu r k l i λt v=>m x C d T t a k l v n
end
section
open PySem.W
variable {prog:Program}{w:World}{A:Around}{E:Value->Shared->Prop}{K:Frag}{x C:Addr}{ox:Obj}{vs:Array Value}{env:Env}
theorem Yg{ev:Sem Value}(e:A.handled=none)
  (h:wpAny (model prog w) A ev (λv S=>∃x C ox vs,v= .ref x/\K.In S.heap/\oR K C/\typeIn K (.ref C)=some (.type "type")/\S.heap.get? x=some ox/\ox.cls= .ref C/\ox.data= .fields vs/\vs[1]?=some .none/\E (.ref x) S) E s):
  wpAny (model prog w) A (raiseStmt env (some ev) none) Q E s:=by
 unfold raiseStmt
 refine Gb (HI h (λv S a=>?_) λ_ _ z=>z)
 obtain⟨x,C,ox,vs,rfl,X,f,i,b,j,c,m,n⟩:=a
 obtain⟨H,g,d,T,os⟩:=S
 have L:Looks (model prog w) H (typeOf (.ref x)) (.ref C):=j▸(PV b).andThen .now
 have l:Looks (model prog w) H (isType (.ref x)) false:=by
  intro y B D F k q
  unfold isType loadHead
  refine Gb (Nq (k _ _ b) ?_)
  rw[c]
  exact Ge q
 have _L:=Ol (M:=model prog w) X f.mb
 have o:=looks_typeIn (M:=model prog w) X i
 have p:Looks (model prog w) H (isInstance (.ref x) (.type "BaseException")) true:=L.andThen _L
 have r:Looks (model prog w) H (isExcClass (.ref x)) false:=by
  unfold isExcClass
  exact l.andThen .now
 have t:Looks (model prog w) H (raisedInstance (.ref x)) (.ref x):=by
  unfold raisedInstance
  exact L.andThen (o.andThen (by rw[Gw PZ];exact .now))
 have u:Looks (model prog w) H (excFromValue (.ref x) "exceptions must derive from BaseException") (.ref x):=by
  unfold excFromValue
  exact r.andThen (by rw[GG PZ];exact p.andThen (by rw[Gw Z];exact .now))
 refine Gb (Ge ?_)
 refine Gb (GN (u.at ?_))
 dsimp only
 refine Gb (l.at ?_)
 rw[GG PZ]
 refine Gb (t.at ?_)
 unfold setFlight
 refine Gb (Gb (GL b c m ?_))
 rw[GG PZ]
 exact Ge (wpAny_raiseNew_none e n)
end
def xG(X:Cx)(W:Addr->Addr->Option Addr->Hp->Prop):Prop:=∀(p:List (Addr×Obj)) (a:St) (H:Hp) (s:Shared) (x C:Addr) (d:Option Addr),ap X p a H s->H x=some (xF C d x)->W x C d H->X.xe (.ref x) s
theorem Qn{P:Program}{K:Frag}:
  xG (eY (dP P w) P w K m b N q s f g A o a c E) (λx C d H=>∀T,H T=none->E (.ref C) d (af (af H T (gg T)) x (gK C d T x))):=
 λ_ _ _ _ _ _ _ I e h=>uB I e h
inductive nR(K:Frag)(b:Addr->Addr->Option Addr->Hp->Prop)(v:V)(a:Hp):Prop
 |mk(x C d:_)(_:v= .ref x)(_:a x=some (xF C d x))(_:oR K C)(_:typeIn K (.ref C)=some (.type "type"))(_:b x C d a)
def Be(K:Frag)(t:TE)(W:Addr->Addr->Option Addr->Hp->Prop):TS:=λ_u0 a H=>t a H (nR K W)
theorem Xg{X:Cx}{e:Expr}{t:TE}{P:Pos}{W:Addr->Addr->Option Addr->Hp->Prop}(f:X.calm=true)(F:xG X W)(g:PE X e t):PS X (.Raise (some e) none P) (Be X.K t W):=by
 intro p s b H D I h
 rw[arm_exec_Raise]
 refine Gb (IN ?_)
 refine Yg (K:=X.K) (ev:=do let v <- eval e X.env;standAt P;pure v) (I.ok.hd f) (Gb (aQ (g p s b H _ I h) λu S a=>Gb (IN (Ge ?_))))
 obtain⟨v,j,i,r,x,C,d,ev,c,k,l,q⟩:=a
 subst ev
 obtain rfl:u=Value.ref x:=r
 obtain⟨⟨o,m,n,z,A,V,w,y⟩,_⟩:=i.hok x _ c
 exact#[x,C,o,V,Z,i.kIn,k,l,m,n,w,y,F p b j S x C d i c q]
section
variable {X:Cx}{pins:List (Addr×Obj)}{σ:St}{H:Hp}{s:Shared}{x C:Addr}{d:Option Addr}
theorem ap.noted{t':Nat}(I:ap X pins σ H s)(a:H x=some (.ext l))(p:s.heap.get? x=some O)(r:O.cls= .ref C)(t:O.dict=d)(v:O.data= .fields w)(c:1 < w.size)
  (N:cQ .none (iH X.stack) x O s.heap y):∃T,H T=none/\T≠x/\ap X pins σ (af (af H T (gg T)) x (gK C d T x)) { s with heap:=y,toks:=t' }:=by
 obtain⟨T,m,f,g,i⟩:=cQ.hok (C:=C) (d:=d) (fl:=.none) I a p r t v c (λb h=>I.stkFree b h) N
 have j:∀b,H b=none->b≠x:=λb e z=>by rw[z,a]at e;cases e
 have U:∀b u,H b=some u->(∀l,u≠ .ext l)->af (af H T (gg T)) x (gK C d T x) b=some u:=λb u e z=>by
  rw[ji (λq=>by rw[q,a]at e;cases e;exact z _ Z),ji (jk e m)]
  exact e
 refine#[T,m,f,I.call (g':=s.gens) (d':=s.drawn) (ch:=[]) ?_ i I.bare (λb z=>absurd z P5)]
 refine#[λb o e n h _=>N.keep b o h (j b n) e,λb o e n _ _=>N.slot b o (j b n) e,λb o e n _=>?_,λb o e _=>?_,λb A e=>U b _ e (by intro _ q;cases q),λb o u e=>U b _ e (by intro _ q;cases q),λb P e=>#[(List.toArray []),by rw[U b _ e (by intro _ q;cases q)];simp]]
 ·rw[ji (j b n),ji (Go (Gu (Gk e) g))]
  exact n
 ·by_cases h:b=x
  ·obtain⟨B,_,_,_,k,_⟩:=N.ex
   exact#[_,by rw[h];exact k]
  ·obtain⟨S,q⟩:=N.slot b o h e
   exact#[_,q]
end
noncomputable abbrev Cx.mark(X:Cx)(e:Value)(xe:Value->Shared->Prop):Cx:={ X with A:=X.A.mark (some e),calm:=false,xe:=xe }
theorem ap.mark{X:Cx}(I:ap X p a H s)(e:Value)(x:Value->Shared->Prop):ap (X.mark e x) p a H s:=
 #[#[I.ok.mod,I.ok.kind,I.ok.glob,I.ok.blt,I.ok.above,I.ok.inj,I.ok.has,I.ok.cab,(λz=>nomatch (show false=true from z)),I.ok.frames,I.ok.stk,I.ok.exf,I.ok.bs,I.ok.bsz,I.ok.noex,I.ok.exfs,I.ok.funs,I.ok.frf],I.os,I.bare,I.base,I.loc,I.cell,I.free,I.freeC,I.pin,I.hok,I.len]
theorem ap.unmark{X:Cx}(o:X.Ok)(I:ap (X.mark e x) p a H s):ap X p a H s:=
 #[o,I.os,I.bare,I.base,I.loc,I.cell,I.free,I.freeC,I.pin,I.hok,I.len]
section
open PySem.W
theorem KL{K:Frag}(X:K.In h)(a:h.get? x=some o)(b:o.cls= .ref C)(H:clsIn K B≠none)(tB:typeIn K (.ref B)=some (.type "type"))(m:mroIn K B (.type "BaseException")=some true)(c:mroIn K C (.ref B)=some true):
  Looks M h (excMatches (.ref x) (.ref B)) true:=by
 have L:Looks M h (typeOf (.ref x)) (.ref C):=b▸(PV a).andThen .now
 have l:=looks_typeIn (M:=M) X tB
 have _L:Looks M h (isInstance (.ref B) (.type "tuple")) false:=l.andThen (Looks.of_pure tc_notTuple)
 have d:Looks M h (isType (.ref B)) true:=by
  unfold clsIn at H
  split at H
  ·rename_i e
   intro A Q E s k q
   unfold isType loadHead
   exact Gb (Nq (k _ _ (X _ _ e)) (Ge q))
  ·exact absurd Z H
 have f:Looks M h (isExcClass (.ref B)) true:=by
  unfold isExcClass
  exact d.andThen (by rw[Gw Z];exact Ol X m)
 have g:=Ol (M:=M) X c
 intro A Q E s k q
 unfold excMatches
 refine Gb (_L A _ E s k ?_)
 rw[GG PZ]
 refine Gb (Ge ?_)
 dsimp only
 refine Gb ?_
 rw[IG]
 refine Gb (Gb (f A _ E s k ?_))
 simp only[Lj,Gs,HW]
 refine Ge ?_
 dsimp only
 rw[Lo]
 refine Ge ?_
 refine Gb (L A _ E s k ?_)
 refine Gb ?_
 rw[IG]
 refine Gb (Gb (g A _ E s k ?_))
 simp only[Ln]
 refine Ge (Ge ?_)
 exact Ge q
end
abbrev XR:=Addr->Addr->Option Addr->Addr->Hp->Prop
def XW(X:Cx)(p:List (Addr×Obj))(a:St)(R:XR)(e:Value)(s:Shared):Prop:=
 ∃x C d T H,e= .ref x/\ap X p a H s/\H x=some (gK C d T x)/\H T=some (gg T)/\T≠x/\R x C d T H
abbrev Ej:=St->Hp->VK->XR->Prop
abbrev El:=a9->XR->St->Hp->Prop
def Ff(X:Cx)(e:Expr)(t:Ej):Prop:=
 ∀(p:List (Addr×Obj)) (s:Shared) (a:St) (H:Hp) (Q:VK) (R:XR),ap X p a H s->t a H Q R->wpAny (model X.prog X.w) X.A (eval e X.env) (EP X p a Q) (XW X p a R) s
def Fi(X:Cx)(st:Stmt)(t:El):Prop:=
 ∀(p:List (Addr×Obj)) (s:Shared) (a:St) (H:Hp) (D:a9) (R:XR),ap X p a H s->t D R a H->wpAny (model X.prog X.w) X.A (exec st X.env) (SP X p D) (XW X p a R) s
def Fy(R:XR):XK:=λc d H=>∀x C T,c= .ref C->H x=some (gK C d T x)->H T=some (gg T)->T≠x->R x C d T H
def Bv(s:Sp)(d:List V)(t:TA):Ej:=λa H Q R=>t a H λv h=>s (v++d) h Q (Fy R)
section
variable {X:Cx}{k:Nat}{f:Addr}{fd:FuncData}{ps:List Str}{sp:Sp}{dvs:List V}{ds:List Value}{x:Str}{p pos:Pos}{e:Expr}{es:List Expr}{t:TA}{te:Ej}
theorem rZ(F:ah X.prog X.w X.K X.mg X.base (dP X.prog X.w) k f fd ps sp)(y:bH k X.A)(D:Gl X x)(E:X.mg x=some (.ref f))(G:keepIn X.K (.ref f)=true)(J:au X.K fd ps ds)(L:ax dvs ds)
  (M:PA X.nox (e::es) t) (g:(x==("__debug__":Str))=false:=by decide) (N:starEach (e::es) X.env=(false,eval e X.env)::starEach es X.env:=by rfl) (j:(backTo pos (starEach es X.env)).any (·.1)=false:=by rfl):
  Ff X (.Call (.Name x p) (e::es) [] pos) (Bv sp dvs t):=by
 intro P s O H Q R I h
 refine Hu (zJ I D E ?_ g)
 refine MJ (h₀:=X.base) I.ok.mod.kin G (HI (M pos P s O H _ (I.wish _) h) (λU S #[v,W,i,r,q]=>#[i.kIn,?_]) λ_ _ z=>z.elim) N j
 have i:=i.unwish
 have m:ax (v++dvs) (U++ds):=r.append L
 have Y:(U++ds).length=ps.length:=by rw[<- m.length];exact F.len _ _ _ _ q
 refine Nt (IK (F.run X.A X.stack S W #[U,[]] (U++ds) (v++dvs) Q (Fy R) y i.env0 (J S U i.kIn Y) m q) λr s' a=>?_)
 cases r with
 |error e=>
  obtain⟨x,C,d,T,H',rfl,os,B,un,l,n,o,c,hw⟩:=a
  exact#[x,C,d,T,H',Z,i.call' os un l B (λb z=>absurd z P5),n,o,c,hw x C T Z n o c]
 |ok fl=>
  cases fl with
  |ret u=>exact i.after a
  |next=>exact False.elim a
  |brk=>exact False.elim a
  |cont=>exact False.elim a
theorem ww{i:Nat}{y:Str}{P:Pos}(d:X.N.Nodup)(g:X.N[i]?=some y)(j:oO X.env.scope y)(l:Ff X e te)(m:swapsWith e (some (.Name y P)) pos.line X.env=pure false:=by rfl)(n:X.fn y=true∨X.env.scope.names.lookup y=some .local:=by first |exact .inl Z |exact .inr Z |assumption):
  Fi X (.Assign [.Name y P] e pos) (λD R b H=>te b H (λv c=>D.nx (b.set i (some v)) c) R):=by
 intro a s b H D R I h
 refine OP (aQ (l a s b H _ R I h) λv S z=>?_) m
 obtain⟨y,c,o,r,q⟩:=z
 exact zk o d g j r (λw u=>#[_,c,u,q]) n
end
theorem aN.ok1{P:Program}{K:Frag}{st:Stmt}{a:Sp}(F:aN K x q st f g)(S:aj N p (aa st))(len:∀v H Q E,a v H Q E->v.length=p.length)
  (h:∀(c:Value) (A:Around) (o:List Env) (s:Shared) (H:Hp) (v:List V) (Q:VK) (E:XK),bH k (A.deeper (envOfC q (aa st) s.heap.objs.size f c))->a v H Q E->
   ∃t,lH (eY (dP P w) P w K m b N q (aa st) f c A o s H E) (bo st) t/\t { nx:=λ_ i=>Q .non i,rt:=Q } (gf N v) H):ah P w K m b (dP P w) (k+1) f g p a:=by
 obtain⟨l,n,kV,D,r,u,c,C,O,rfl,lk,d⟩:=F.ex
 exact xS lk d S len λA o s H v Q E j e=>h c A o s H v Q E j e
end _L
namespace _L
open PySem PySem.Spec PyProof.Rows PySem.SeqAt
noncomputable def pE(x y:List V):Bool:=(List.range (min x.length y.length)).all (λj=>mw (x.getD j .non) (y.getD j .non))&&x.length==y.length
section
variable {X:Cx}
theorem ZH(r:ax x i)(R:ax y I)(f:x.all cq=true)(F:y.all cq=true)(j:Nat)(c:j < i.toArray.size)(d:j < I.toArray.size):EqAt A s i.toArray[j] I.toArray[j] (mw (x.getD j .non) (y.getD j .non)):=by
 have L:=r.length
 have p:=R.length
 have H:j < x.length:=by simp at c;omega
 have h:j < y.length:=by simp at d;omega
 have a:x[j]?=some x[j]:=Gc H
 have b:y[j]?=some y[j]:=Gc h
 obtain⟨u,q,g⟩:=r.get a
 obtain⟨U,Q,k⟩:=R.get b
 have l:=List.all_eq_true.mp f _ (IR H)
 have m:=List.all_eq_true.mp F _ (IR h)
 have E:i.toArray[j]=u:=by
  obtain⟨_,e⟩:=List.getElem?_eq_some_iff.mp q
  simpa using e
 have n:I.toArray[j]=U:=by
  obtain⟨_,e⟩:=List.getElem?_eq_some_iff.mp Q
  simpa using e
 have G:x.getD j .non=x[j]:=by rw[IQ,a];rfl
 have o:y.getD j .non=y[j]:=by rw[IQ,b];rfl
 rw[E,n,G,o]
 exact pC g k l m
theorem AD(f:X.A.units < cLine):eN X (compareOp .Eq) (λx y H Q=>∃a b c Y,x= .ref a/\y= .ref b/\aw X.K H a c/\aw X.K H b Y/\c.all cq=true/\Y.all cq=true/\Q (.bl (pE c Y)) H):=by
 intro p s z H x y v u Q I g k h
 obtain⟨a,b,c,Y,rfl,rfl,l,m,F,n,q⟩:=h
 cases g
 cases k
 obtain⟨i,r,P,_⟩:=I.tuple l
 obtain⟨d,R,o,_⟩:=I.tuple m
 refine OG (e:=λj=>mw (c.getD j .non) (Y.getD j .non)) (show s.heap.IsTuple a i.toArray from P) (show s.heap.IsTuple b d.toArray from o) f (λj t w=>ZH r R F n j t w) ?_
 have e:((List.range (min i.toArray.size d.toArray.size)).all (λj=>mw (c.getD j .non) (Y.getD j .non))&&i.toArray.size==d.toArray.size)=pE c Y:=by
  unfold pE
  rw[Gj,Gj,<- r.length,<- R.length]
 rw[e]
 exact#[.bl _,H,I,Z,q]
end
end _L
namespace _L
open PySem PySem.Spec PyProof.Rows
section
variable {prog:Program}{w:World}{A:Around}{E:Value->Shared->Prop}{s:Shared}
theorem Yh{Q:Nat->Shared->Prop}(H:n≠0)(h:∀i d,i < n->Q i { s with drawn:=d }):wpAny (model prog w) A (choose a n) Q E s:=by
 intro Γ p _
 show Sem.wp _ Γ (.choose a n .pure) _ _ p s
 rw[Sem.wp_choose]
 exact#[H,h _ _ (PU _ (Nat.pos_of_ne_zero H))]
theorem XD{α:Type}:∀(n:Nat) (xs:List α) (s:Shared) {Q:List α->Shared->Prop},xs.length=n->(∀ys d,ys.Perm xs->Q ys { s with drawn:=d })->
  wpAny (model prog w) A (drawOrder n xs) Q E s:=by
 intro n
 induction n with
 |zero=>
  intro xs s Q hl h
  cases xs with
  |nil=>
   unfold drawOrder
   exact Ge (h [] s.drawn .rfl)
  |cons _ _=>cases hl
 |succ n ih=>
  intro xs s Q hl h
  cases xs with
  |nil=>cases hl
  |cons x r=>
   unfold drawOrder
   refine Gb (Yh P5 λi d hi=>?_)
   have hg:(x::r)[i]?=some ((x::r)[i]'hi):=Gc hi
   rw[hg]
   dsimp only
   refine Gb (ih _ _ (by rw[MZ hi,hl];rfl) λys d' hp=>Ge (h _ d' ?_))
   refine(List.Perm.cons _ hp).trans ?_
   rw[ME]
   refine List.perm_middle.symm.trans ?_
   rw[Nj,Md]
end
noncomputable def lF:Value->Str
 | .str x _=>x
 |_=>#[(List.toArray [])]
theorem KM(t:SetTable)(n:Nat):(t.orStandIn n).led=t.led:=by
 unfold SetTable.orStandIn
 split
 ·rfl
 ·rfl
theorem Yi(t:SetTable)(e:Array (Int×Value))(h:Int)(x:Value):(layNew t e h x).2.1.led=t.led:=by
 unfold layNew
 split
 ·exact KM _ _
 ·rfl
theorem QY(t:SetTable)(E:Array (Int×Value))(n:Nat):(relayAll t E n).2.1.led=t.led:=by
 unfold relayAll
 split
 ·rename_i T o e
  unfold SetTable.relaid SetTable.laid at e
  cases h:SetTable.layClean (SetTable.sizeAbove n - 1) (E.map (·.1)) with
  |none=>rw[h]at e;cases e
  |some O=>
   rw[h]at e
   cases e
   dsimp only
   split<;>rfl
 ·rfl
theorem KA(t:SetTable)(E:Array (Int×Value))(n:Nat)(H:t.plain=false):(relayAll t E n).2.1.plain=false:=by
 unfold relayAll
 split
 ·rename_i T o e
  unfold SetTable.relaid SetTable.laid at e
  cases h:SetTable.layClean (SetTable.sizeAbove n - 1) (E.map (·.1)) with
  |none=>rw[h]at e;cases e
  |some O=>
   rw[h]at e
   cases e
   dsimp only
   split
   ·exact H
   ·rfl
 ·rfl
def cj(p:Program)(w:World)(h:Heap)(a:Addr)(L:List Str):Prop:=
 ∃o E b t,h.get? a=some o/\o.ExactSet/\o.data= .set E b t/\ElemsOf (PySem.strKind p w) E.toList/\(E.toList.map λe=>lF e.2).Perm L/\L.Nodup
  /\E.size < scanBound/\t.fits E.size=true/\t.led=!(w.params.followText "set-order")/\(t.plain=false∨E.size=0)
theorem cj.at{H:Heap}{a:Addr}(x:cj p w h a L)(e:∀o,h.get? a=some o->H.get? a=some o):cj p w H a L:=
 let #[o,E,b,t,c,r]:=x;#[o,E,b,t,e o c,r]
section
variable {prog:Program}{w:World}{A:Around}{E:Value->Shared->Prop}{s:Shared}
theorem Ju{a:Array (Int×Value)}(b:ElemsOf (PySem.strKind prog w) a.toList)(x:Str):
  (a.toList.findIdx? (λe=>(PySem.strKind prog w).is x e.2)=none↔¬x∈a.toList.map λe=>lF e.2):=by
 rw[List.findIdx?_eq_none_iff]
 constructor
 ·intro h m
  obtain⟨e,H,f⟩:=List.mem_map.mp m
  obtain⟨⟨k,g,_⟩,_⟩:=b e H
  obtain⟨t,c⟩:=Lk g
  have q:=h e H
  rw[c]at f q
  have d:k=x:=f
  subst d
  have Q:(PySem.strKind prog w).is k (.str k t)=true:=strKind_is prog w k t
  rw[Q]at q;cases q
 ·intro h e H
  cases q:(PySem.strKind prog w).is x e.2 with
  |false=>rfl
  |true=>
   obtain⟨t,c⟩:=Lk q
   exact absurd (List.mem_map.mpr #[e,H,by rw[c];rfl]) h
theorem Jv{b:Array (Int×Value)}{T:SetTable}(d:s.heap.get? a=some o)(f:o.ExactSet)(h:o.data= .set p c t)
  (g:ElemsOf (PySem.strKind prog w) b.toList) (i:(b.toList.map λe=>lF e.2).Perm L) (j:L.Nodup) (k:b.size < scanBound) (l:T.fits b.size=true)
  (m:T.led=!(w.params.followText "set-order")) (n:T.plain=false):
  (s.heap.update a (Obj.putSet b T)).get? a=some { o with data:=.set b (c+1) T }/\cj prog w (s.heap.update a (Obj.putSet b T)) a L:=by
 have H:(s.heap.update a (Obj.putSet b T)).get? a=some { o with data:=.set b (c+1) T }:=by
  have q:=Hc (Obj.putSet b T) d (by rw[putSet_of b T h];rfl)
  rwa [putSet_of b T h]at q
 exact#[H,_,b,c+1,T,H,f,Z,g,i,j,k,l,m,.inl n]
theorem XE{Q : Bool -> Shared -> Prop}(hS : cj prog w s.heap a L)(room : L.length + 1 < scanBound)
    (h : ∀ b R l, Heap.SameBut a s.heap R -> cj prog w R a (if x ∈ L then L else L ++ [x]) -> s.toks <= l -> Q b { s with heap := R, toks := l }) :
    wpAny (model prog w) A (setAdd a (.str x f)) Q E s := by
  obtain ⟨o, g, ep, t, n, U, u, H, v, B, hb, V, X, Y⟩ := hS
  have d : (PySem.strKind prog w).is x (.str x f) = true := strKind_is prog w x f
  have C : g.size = L.length := by rw [<- v.length_eq, Gg, GK]
  unfold setAdd
  refine GN (Gb ((PySem.strKind prog w).pyHash (k := x) d ?_))
  unfold setAddHashed setAddHashedIn
  refine GN (Gb (Ih (s := { s with toks := s.toks + 1 }) n u V ?_))
  dsimp only
  rw [byScan_of Z hb H]
  simp only [↓reduceIte]
  unfold setAddByScan
  refine Gb (Gb (Iw (Gb (wpAny_setScan_of (knd := PySem.strKind prog w) d n u V H ?_))))
  cases hr : List.findIdx? (λe => (PySem.strKind prog w).is x e.2) g.toList with
  | some j =>
    dsimp only
    have D : x ∈ L := by
      refine Decidable.byContradiction λhn => ?_
      have q := (Ju (prog := prog) (w := w) H x).mpr λm => hn (v.mem_iff.mp m)
      rw [q] at hr; cases hr
    have q := h false s.heap (s.toks + 1) (M7 a s.heap) (by rw [Gw D]; exact #[o, g, ep, t, n, U, u, H, v, B, hb, V, X, Y]) (Ic _)
    exact Ge (Ge q)
  | none =>
    dsimp only
    have D : ¬ x ∈ L :=λm => (Ju (prog := prog) (w := w) H x).mp hr (v.mem_iff.mpr m)
    have W : ∀ (b : Bool) {S : Shared} {Q' : Unit -> Shared -> Prop}, Q' () S -> wpAny (model prog w) A (match b with | true => rule "set.scan.the-table-gave-way" | false => pure ()) Q' E S := by
      intro b S Q' hq
      cases b
      · exact Ge hq
      · exact Iw hq
    have p := layNew_perm t g ((PySem.strKind prog w).hash x) (.str x f)
    have M := layNew_fits t g ((PySem.strKind prog w).hash x) (.str x f)
    have O := Yi t g ((PySem.strKind prog w).hash x) (.str x f)
    generalize layNew t g ((PySem.strKind prog w).hash x) (.str x f) = N at p M O ⊢
    obtain ⟨c, t1, w0, g4⟩ := N
    dsimp only at p M O ⊢
    rw [NP] at p
    have F : ElemsOf (PySem.strKind prog w) c.toList := (H.push d Z).perm p
    have P : (c.toList.map λe => lF e.2).Perm (L ++ [x]) := by
      refine (p.map _).trans ?_
      rw [GY]
      exact v.append_right _
    have G : (L ++ [x]).Nodup := List.nodup_append.mpr #[B, by simp,λy hy z hz e => by rw [Mp] at hz; subst hz; subst e; exact D hy]
    have iG : c.size = g.size + 1 := by rw [<- GK, p.length_eq, Gi, GK]; rfl
    have b1 : c.size < scanBound := by rw [iG, C]; exact room
    refine Gb (W _ ?_)
    have i : ∀ T : SetTable, T.fits c.size = true -> T.led = t.led -> T.plain = false ->
        wpAny (model prog w) A (do
          storeSet a c T
          if (!w0 && T.tooFull) = true then do
              (match (relayAll T c (SetTable.grown c.size)).2.2 with | true => rule "set.scan.the-table-gave-way" | false => pure ())
              storeSet a (relayAll T c (SetTable.grown c.size)).1 (relayAll T c (SetTable.grown c.size)).2.1
              pure (some true)
            else pure (some true)) (λr s' => r = some true /\ Q true s') E { s with toks := s.toks + 1 } := by
      intro T g1 g2 g3
      refine Gb (OL (s := { s with toks := s.toks + 1 }) n u ?_ (LQ b1))
      obtain ⟨o1, S1⟩ := Jv (s := s) (prog := prog) (w := w) n U u F P G b1 g1 (g2.trans X) g3
      have I := Ia s.heap a (Obj.putSet c T)
      split
      · have J := relayAll_perm T c (SetTable.grown c.size)
        have f2 := relayAll_fits T c (SetTable.grown c.size)
        have l2 := QY T c (SetTable.grown c.size)
        have q2 := KA T c (SetTable.grown c.size) g3
        generalize relayAll T c (SetTable.grown c.size) = Z at J f2 l2 q2 ⊢
        obtain ⟨K, t3, g0⟩ := Z
        dsimp only at J f2 l2 q2 ⊢
        have bN : K.size = c.size := by rw [<- GK, J.length_eq, GK]
        have b2 : K.size < scanBound := by rw [bN]; exact b1
        refine Gb (W _ (Gb (OL (s := { s with heap := s.heap.update a (Obj.putSet c T), toks := s.toks + 1 }) o1 Z ?_ (LQ b2))))
        obtain ⟨_, S2⟩ := Jv (s := { s with heap := s.heap.update a (Obj.putSet c T) }) (prog := prog) (w := w) o1 U Z (F.perm J) ((J.map _).trans P) G b2 f2 (l2.trans (g2.trans X)) q2
        exact Ge #[Z, h true _ _ (I.trans (Ia _ a _)) (by rw [GG D]; exact S2) (Ic _)]
      · exact Ge #[Z, h true _ _ I (by rw [GG D]; exact S1) (Ic _)]
    split
    · rename_i tp
      refine Gb ?_
      rw [hashByValue_scannable 8 (x := .str x f) Z]
      refine Ge ?_
      have e0 : plainKind (.str x f) = false := rfl
      rw [e0]
      simp only [Gs, ↓reduceIte]
      refine HI (i { t1 with plain := false } (SetTable.fits_plain_off M) O Z) (λr s' q => ?_) λ_ _ z => z
      obtain ⟨rfl, q⟩ := q
      exact Ge q
    · rename_i tp
      refine Gb (Ge ?_)
      simp only [↓reduceIte]
      refine HI (i t1 M O (by simpa using tp)) (λr s' q => ?_) λ_ _ z => z
      obtain ⟨rfl, q⟩ := q
      exact Ge q
end
noncomputable def bp(w:World):Obj:={ cls:=.type "set",dict:=none,data:=.set (List.toArray []) 0 (.fresh 0 0 (!(w.params.followText "set-order"))) }
section
variable {prog:Program}{w:World}{A:Around}{E:Value->Shared->Prop}{s:Shared}
theorem XF{h:Heap}(e:h.get? a=some (bp w)):cj prog w h a []:=
 #[_,(List.toArray []),0,_,e,#[Z,Z,Z],Z,λ_ z=>by simp at z,P5,Mi,(by decide:(0:Nat) < scanBound),Z,Z,.inr Z]
theorem KN(a:Value){G:Value->Shared->Prop}(h:G (.ref s.heap.objs.size) { s with heap:=s.heap.push (bp w) }):
  codeAny (model prog w) A (.call (.builtin "set.__new__") #[[.type "set",a],[]]) (wants G E) s:=by
 refine Nf ?_
 show wpAny _ A.in1 (do checkBuiltinCall "set.__new__" _;again (.builtin "set.__new__" _)) _ _ s
 refine Gb (LP (PySem.F.newCall_set_1 a) (Ge #[IA Nb _,HQ PySem.F.entry_set_new ?_]))
 rw[Hr Nb]
 unfold Builtin.«set.__new__» Builtin.Frozenset.newClass
 have o:=sub_set_self
 obtain⟨H,g,d,t,os⟩:=s
 dsimp only
 wp_walk
 refine IZ (Ge ?_)
 dsimp only
 simp only[newObj]
 exact Gb (wpAny_alloc (Ge (Ge h)))
end
theorem StrsAre.at':∀{V:List Value} {s:List Str},StrsAre V s->∀(i:Nat) (v:Value),V[i]?=some v->∃x t,s[i]?=some x/\v= .str x t
 |_,_,.nil,i,v,h=>by simp at h
 |_,_,.cons y t r,0,v,h=>by simp at h;exact#[y,t,Z,h.symm]
 |_,_,.cons y t r,i+1,v,h=>by
  simp only[List.getElem?_cons_succ]at h
  obtain⟨x,T,e,E⟩:=StrsAre.at' r i v h
  exact#[x,T,by simpa using e,E]
theorem StrsAre.len:∀{v:List Value} {s:List Str},StrsAre v s->s.length=v.length
 |_,_,.nil=>rfl
 |_,_,.cons _ _ r=>by simp [StrsAre.len r]
theorem j6:Slot "set_iterator" "__next__" "set_iterator.__next__":=by
 refine .of (owner:="set_iterator") (n:="__next__") ?_ P6 P6 P6 ?_ ?_
 ·rw[HP,Hk];kernel_rfl
 ·first |exact .inl P6 |exact .inr P6
 ·rw[Ig];kernel_rfl
theorem zT:Slot "set_iterator" "__iter__" "set_iterator.__iter__":=by
 refine .of (owner:="set_iterator") (n:="__iter__") ?_ P6 P6 P6 ?_ ?_
 ·rw[HP,Hk];kernel_rfl
 ·first |exact .inl P6 |exact .inr P6
 ·rw[Ig];kernel_rfl
theorem Jj:entryFor table "set_iterator.__next__"=some Builtin.«set_iterator.__next__»:=Mg (by kernel_rfl)
theorem Jk:entryFor table "set_iterator.__iter__"=some Builtin.«dict_keyiterator.__iter__»:=by
 refine Mt (id':="dict_keyiterator.__iter__") ?_ Z P6 ?_<;>kernel_rfl
theorem JA:entryFor table "set.__iter__"=some Builtin.«frozenset.__iter__»:=by
 refine Mt (id':="frozenset.__iter__") ?_ Z P6 ?_<;>kernel_rfl
theorem JB(a:Value):argsOk "set_iterator.__next__" #[[a],[]]:=by unfold argsOk;kernel_rfl
theorem JC(a:Value):argsOk "set_iterator.__iter__" #[[a],[]]:=by unfold argsOk;kernel_rfl
def bY(h:Heap)(I:Addr)(f:Value)(i:Nat)(S:Addr)(n e:Nat):Prop:=
 ∃o,h.get? I=some o/\o.cls= .type "set_iterator"/\o.data= .fields (List.toArray [f,.int i 0,.ref S,.int n 0,.int e 0])
theorem bY.at{H:Heap}{S:Addr}(x:bY h I f i S n E)(e:∀o,h.get? I=some o->H.get? I=some o):bY H I f i S n E:=
 let #[o,a,r]:=x;#[o,e o a,r]
theorem bY.is{s:Shared}{S:Addr}(x:bY s.heap I f i S n e):s.TypeIs (.ref I) "set_iterator":=let #[o,h,H,_]:=x;#[o,h,H]
section
variable {prog:Program}{w:World}{A:Around}{E:Value->Shared->Prop}{s:Shared}
theorem JG{c:Type}{Q:c->Shared->Prop}(d:A.handled=none)
  (h:∀H e,(∀b o,s.heap.get? b=some o->H.get? b=some o)->Shared.TypeIs { s with heap:=H } e "StopIteration"->E e { s with heap:=H }):
  wpAny (model prog w) A (do raiseNew (<- newExc (.type "StopIteration") []):Sem c) Q E s:=by
 refine Gb ?_
 simp only[newExc,newTuple]
 refine Gb (Hf ?_ (by size_fits))
 refine Gb (m:=firstArgMember _ _) (LP (a:=Value.none) ?_ ?_)
 ·first |rfl | (simp only[firstArgMember];rfl)
 refine Hf ?_ (by size_fits)
 simp only[raiseNew]
 refine Gb (wpAny_handled ?_)
 rw[d]
 refine Gb (Ge (wpAny_throw (h _ _ (λb o e=>Gf _ (Gf _ e)) ?_)))
 exact#[_,Gm _ Z,Z]
theorem JH{S:Addr}(H:bY s.heap I f i S n c)
  (h:wpAny (model prog w) A.in1 (Builtin.«set_iterator.__next__» #[[.ref I],[]]) (λF a=>∃v,F= .done (.ret v)/\Q (some v) a) (λe a=>a.TypeIs e "StopIteration"/\Q none a) s):
  wpAny (model prog w) A (pyNext (.ref I)) Q E s:=by
 unfold pyNext
 refine Gb (La (Hd (name:=Str.ofString "__next__") H.is j6 (Hi j6 H.is Jj ?_ (JB _))))
 refine HI h (λF a q=>?_) λe a q=>?_
 ·obtain⟨v,e,q⟩:=q
  exact#[v,e,Ge q]
 ·exact Gb (IE (T:="StopIteration") (b:=true) q.1 Ms (Ge q.2))
theorem Qo{I:Addr}{f:Value}{i:Nat}{S:Addr}{n a:Nat}{o:Obj}{v:Array Value}(H:s.heap.get? I=some o)(b:o.cls= .type "set_iterator")(h:o.data= .fields v)(k:Nat)(x:Value)
  (e:v.setIfInBounds k x=(List.toArray [f,.int i 0,.ref S,.int n 0,.int a 0])):bY (s.heap.update I (Obj.mapFields (·.setIfInBounds k x))) I f i S n a:=
 #[_,Hc _ H (HG (GZ h _)),(Lg ..).trans b,by rw[GZ h,e]]
theorem Yj{I S P:Addr}{i:Nat}{O j:Obj}{e:Array (Int×Value)}{a:Nat}{t:SetTable}{k:Array Value}{c p:Nat}{hx:Int}{x:Value}{Q:Option Value->Shared->Prop}
  (h:bY s.heap I (.ref P) i S e.size a) (l:s.heap.get? S=some O) (H:O.data= .set e a t) (m:t.fits e.size=true) (n:s.heap.get? P=some j) (b:j.data= .seq k c)
  (q:k[i]?=some (.int p 0)) (r:e[p]?=some (hx,x)) (u:∀d,bY d I (.ref P) (i+1) S e.size a->Heap.SameBut I s.heap d->Q (some x) { s with heap:=d }):
  wpAny (model prog w) A (pyNext (.ref I)) Q E s:=by
 refine JH h ?_
 obtain⟨o,f,v,g⟩:=h
 show wpAny _ _ (fieldsOf (.ref I) >>= _) _ _ s
 refine Gb (Mq f g ?_)
 dsimp only
 refine Gb (J' l H m ?_)
 simp only[IC,Gs,↓reduceIte]
 refine Gb (Hs n b ?_)
 simp only[Hq,q]
 unfold setNextDrawn
 refine Gb (Gb (Ih l H m ?_))
 simp only[IC,Gs,↓reduceIte,r]
 refine Ge ?_
 refine Gb (Hm f g P5 (Ge #[x,Z,u _ ?_ (Ia ..)]))
 exact Qo f v g _ _ (by simp [rawInt])
theorem KB(q:A.handled=none){I S P:Addr}{i:Nat}{O l:Obj}{d:Array (Int×Value)}{m:Nat}{t:SetTable}{p:Array Value}{c:Nat}{Q:Option Value->Shared->Prop}
  (h:bY s.heap I (.ref P) i S d.size m) (r:s.heap.get? S=some O) (f:O.data= .set d m t) (u:t.fits d.size=true) (v:s.heap.get? P=some l) (g:l.data= .seq p c)
  (x:p[i]?=none) (y:∀H,(∀b o,b≠I->s.heap.get? b=some o->H.get? b=some o)->Q none { s with heap:=H }):
  wpAny (model prog w) A (pyNext (.ref I)) Q E s:=by
 refine JH h ?_
 obtain⟨o,j,B,a⟩:=h
 show wpAny _ _ (fieldsOf (.ref I) >>= _) _ _ s
 refine Gb (Mq j a ?_)
 dsimp only
 refine Gb (J' r f u ?_)
 simp only[IC,Gs,↓reduceIte]
 refine Gb (Hs v g ?_)
 simp only[Hq,x]
 refine Gb (Hm j a P5 ?_)
 refine Gb (Hm (Hc _ j (HG (GZ a _))) (GZ a _) P5 ?_)
 refine JG (s:={ s with heap:=_ }) (by simpa using q) λH e k T=>#[T,y H λb o n z=>k b o ?_]
 exact(Gv _ _ (G7 n)).trans ((Gv _ _ (G7 n)).trans z)
end
section
variable {prog:Program}{w:World}{A:Around}{E:Value->Shared->Prop}{s:Shared}
theorem Qp{I S:Addr}{i j nx:Nat}{O:Obj}{e:Array (Int×Value)}{a:Nat}{t:SetTable}{x:Value}{Q:Option Value->Shared->Prop}
  (h:bY s.heap I (.int j 0) i S e.size a) (f:s.heap.get? S=some O) (b:O.data= .set e a t) (k:t.fits e.size=true)
  (l:∀(q:Option (Value×Nat)->Shared->Prop) m,q (some (x,nx)) s->wpAny (model prog w) A.in1 (setNext S j i a) q m s)
  (n:∀c,bY c I (.int nx 0) (i+1) S e.size a->Heap.SameBut I s.heap c->Q (some x) { s with heap:=c }):
  wpAny (model prog w) A (pyNext (.ref I)) Q E s:=by
 refine JH h ?_
 obtain⟨o,d,p,H⟩:=h
 show wpAny _ _ (fieldsOf (.ref I) >>= _) _ _ s
 refine Gb (Mq d H ?_)
 dsimp only
 refine Gb (J' f b k ?_)
 simp only[IC,Gs,↓reduceIte]
 simp only[Hq]
 refine Gb (l _ _ ?_)
 dsimp only
 refine Gb (Hm d H P5 ?_)
 have g:=Hc (Obj.mapFields (·.setIfInBounds 0 (rawInt nx))) d (HG (GZ H _))
 have D:=GZ H (·.setIfInBounds 0 (rawInt nx))
 refine Gb (Hm g D P5 (Ge #[x,Z,n _ ?_ ((Ia ..).trans (Ia ..))]))
 exact Qo (s:={ s with heap:=_ }) g ((Lg ..).trans p) D _ _ (by simp [rawInt])
theorem qm(l:A.handled=none){I S:Addr}{i j:Nat}{O:Obj}{a:Array (Int×Value)}{c:Nat}{t:SetTable}{Q:Option Value->Shared->Prop}
  (h:bY s.heap I (.int j 0) i S a.size c) (m:s.heap.get? S=some O) (d:O.data= .set a c t) (n:t.fits a.size=true)
  (p:∀(q:Option (Value×Nat)->Shared->Prop) r,q none s->wpAny (model prog w) A.in1 (setNext S j i c) q r s)
  (u:∀H,(∀b o,b≠I->s.heap.get? b=some o->H.get? b=some o)->Q none { s with heap:=H }):
  wpAny (model prog w) A (pyNext (.ref I)) Q E s:=by
 refine JH h ?_
 obtain⟨o,f,y,g⟩:=h
 show wpAny _ _ (fieldsOf (.ref I) >>= _) _ _ s
 refine Gb (Mq f g ?_)
 dsimp only
 refine Gb (J' m d n ?_)
 simp only[IC,Gs,↓reduceIte]
 simp only[Hq]
 refine Gb (p _ _ ?_)
 dsimp only
 refine Gb (Hm f g P5 ?_)
 refine JG (s:={ s with heap:=_ }) (by simpa using l) λH e k T=>#[T,u H λb o v x=>k b o ?_]
 exact(Gv _ _ (G7 v)).trans x
theorem qV(a:w.params.followText "set-order"=true){S:Addr}(b:s.heap.get? S=some o)(H:o.data= .set c d t)
  (f:t.fits c.size=true) {Q:Option (Value×Nat)->Shared->Prop} (h:Q (((pickOrder (w.params.setOrder S d) c)[i]?).map λe=>(e.2,j)) s):
  wpAny (model prog w) A (setNext S j i d) Q E s:=by
 unfold setNext
 refine Gb (Ih b H f ?_)
 dsimp only
 unfold setsByText
 refine Gb (Gb (IZ (Ge ?_)))
 dsimp only
 rw[show(model prog w).w.params.followText "set-order"=_ from a]
 simp only[↓reduceIte,IC,Gs]
 unfold setWalk
 refine Gb (Gb (Ih b H f ?_))
 dsimp only
 unfold setsByText
 refine Gb (Gb (IZ (Ge ?_)))
 dsimp only
 rw[show(model prog w).w.params.followText "set-order"=_ from a]
 simp only[↓reduceIte]
 exact Gb (IZ (Ge (Ge h)))
theorem Jw(a:w.params.followText "set-order"=false){S:Addr}(b:s.heap.get? S=some o)(H:o.data= .set e c t)
  (d:t.fits e.size=true) (f:t.led=true) (l:e.size<=1) {Q:Option (Value×Nat)->Shared->Prop}
  (h:Q (match e[SetTable.below t.place j]?,t.place[SetTable.below t.place j]? with |some (_,x),some k=>some (x,k+1) |_,_=>none) s):
  wpAny (model prog w) A (setNext S j i c) Q E s:=by
 unfold setNext
 refine Gb (Ih b H d ?_)
 dsimp only
 unfold setsByText
 refine Gb (Gb (IZ (Ge ?_)))
 dsimp only
 rw[show(model prog w).w.params.followText "set-order"=_ from a]
 simp only[Gs,↓reduceIte]
 split
 ·rename_i z
  have g:(!t.plain&&decide (e.size > 1))=true:=z
  simp only[Hy,decide_eq_true_eq]at g
  omega
 ·refine Gb ?_
  show wpAny _ _ (if (!t.led&&!e.isEmpty)=true then _ else _) _ _ _
  rw[f]
  simp only[Lj,OD,Gs,↓reduceIte]
  exact Ge (Ge h)
end
theorem XG{a:Type}(f:Nat->Nat):∀(n k:Nat) (l:List a) (o:Array a),l.length=n->(pickOrder.go f n k l o).toList.Perm (o.toList++l):=by
 intro n
 induction n with
 |zero=>
  intro k l o h
  rw[List.length_eq_zero_iff.mp h]
  unfold pickOrder.go
  simp
 |succ n i=>
  intro k l o h
  unfold pickOrder.go
  have H:f k % l.length < l.length:=PU _ P0
  rw[Gc H]
  dsimp only
  refine(i _ _ _ (by rw[MZ H,h];rfl)).trans ?_
  rw[NP,N0,List.singleton_append]
  refine List.Perm.append_left _ ?_
  rw[ME]
  refine List.perm_middle.symm.trans ?_
  rw[Nj,Md]
theorem kf{a:Type}(f:Nat->Nat)(x:Array a):(pickOrder f x).toList.Perm x.toList:=by
 have h:=XG f x.size 0 x.toList (List.toArray []) (GK ..)
 simpa [pickOrder] using h
theorem Xh{a:Type}(x:Array a)(d:a):(List.range x.size).map (λp=>(x[p]?).getD d)=x.toList:=by
 refine Oc P5 λi b h=>?_
 have H:i < x.size:=by simpa using h
 simp [H]
def mE(ord:List (Int×Value))(i:Nat)(v:Value):Prop:=∃e,ord[i]?=some e/\v=e.2
section
variable {prog:Program}{w:World}{A:Around}{E:Value->Shared->Prop}{s:Shared}
theorem qx{S:Addr}(H:bY s.heap I f i S n e){Q:Value->Shared->Prop}(h:Q (.ref I) s):wpAny (model prog w) A (pyIter (.ref I)) Q E s:=by
 refine MQ H.is zT (Hi zT H.is Jk ?_ (JC _))
 show wpAny _ _ (ret (.ref I)) _ _ s
 exact Ge #[_,Z,"set_iterator",_,H.is,j6.lookup,h]
theorem Yk(D:A.handled=none)(I S P:Addr)(l:S≠I)(m:P≠I){O oP:Obj}{y:List Nat}{c:Nat}(f:O.data= .set d G t)
  (u:t.fits d.size=true) (g:oP.data= .seq (y.map λ(i:Nat)=>rawInt i).toArray c) (n:y.Perm (List.range d.size)):
  WalksS prog w A I [I,S,P] [I] (λa b=>b=a) d.size (mE (y.map λp=>(d[p]?).getD (0,.none)))
   (λi s=>bY s.heap I (.ref P) i S d.size G/\s.heap.get? S=some O/\s.heap.get? P=some oP) where
 sub:=λb H=>by simp at H;simp [H]
 grefl:=λ_=>Z
 gtrans:=λ_ _ _ F J=>J.trans F
 frame:=λi s v T st _ k=>#[st.1.at λo e=>k I P5 o e,k S P5 _ st.2.1,k P P5 _ st.2.2]
 item:=λi s Q E K st j=>by
  have B:y.length=d.size:=by rw[n.length_eq,Lv]
  have h:i < y.length:=by omega
  have C:y[i] < d.size:=List.mem_range.mp (n.mem_iff.mp (IR h))
  refine Yj (p:=y[i]) (hx:=(d[y[i]]).1) (x:=(d[y[i]]).2) st.1 st.2.1 f u st.2.2 g (by simp [h,rawInt]) (by simp [C]) λv q r=>?_
  refine j _ _ #[d[y[i]],by simp [h,C],Z] #[q,?_,?_] #[λb o H e=>?_,Z,Z,Z,Gh _]
  ·rw[r.2 S l];exact st.2.1
  ·rw[r.2 P m];exact st.2.2
  ·rw[r.2 b (λz=>H (by simp [z]))];exact e
 done:=λs Q E st j=>by
  have B:y.length=d.size:=by rw[n.length_eq,Lv]
  refine KB D st.1 st.2.1 f u st.2.2 g (by simp [B]) λv k=>j _ #[λb o H e=>k b o (λz=>H (by simp [z])) e,Z,Z,Z,Gh _]
 self:=λ_ _ _ _ st j=>qx st.1 j
theorem ZI(r:A.handled=none)(m:w.params.followText "set-order"=true)(I S:Addr)(l:S≠I){O:Obj}(h:O.data= .set c d t)
  (j:t.fits c.size=true):
  WalksS prog w A I [I,S] [I] (λa b=>b=a) c.size (mE (pickOrder (w.params.setOrder S d) c).toList)
   (λi s=>bY s.heap I (.int (0:Nat) 0) i S c.size d/\s.heap.get? S=some O) where
 sub:=λb H=>by simp at H;simp [H]
 grefl:=λ_=>Z
 gtrans:=λ_ _ _ u v=>v.trans u
 frame:=λi s n T st _ k=>#[st.1.at λo e=>k I P5 o e,k S P5 _ st.2]
 item:=λi s Q E D st f=>by
  have y:(pickOrder (w.params.setOrder S d) c).size=c.size:=by rw[<- GK,(kf _ _).length_eq,GK]
  have g:i < (pickOrder (w.params.setOrder S d) c).size:=by omega
  refine Qp (x:=(pickOrder (w.params.setOrder S d) c)[i].2) (nx:=0) st.1 st.2 h j (λB C q=>qV m st.2 h j (by rw[Iu g];exact q)) λn q p=>?_
  refine f _ _ #[(pickOrder (w.params.setOrder S d) c)[i],by rw[Ip];exact Iu g,Z] #[q,?_] #[λb o H e=>?_,Z,Z,Z,Gh _]
  ·rw[p.2 S l];exact st.2
  ·rw[p.2 b (λz=>H (by simp [z]))];exact e
 done:=λs Q E st f=>by
  have y:(pickOrder (w.params.setOrder S d) c).size=c.size:=by rw[<- GK,(kf _ _).length_eq,GK]
  refine qm r st.1 st.2 h j (λB C q=>qV m st.2 h j (by rw[LM P0];exact q)) λn k=>f _ #[λb o H e=>k b o (λz=>H (by simp [z])) e,Z,Z,Z,Gh _]
 self:=λ_ _ _ _ st f=>qx st.1 f
theorem Yl(p:Nat):SetTable.below (List.toArray [p]) 0=0:=by simp [SetTable.below,SetTable.below.go]
theorem Ym(p:Nat):SetTable.below (List.toArray [p]) (p+1)=1:=by simp [SetTable.below,SetTable.below.go]
theorem ur(G:A.handled=none)(u:w.params.followText "set-order"=false)(I S:Addr)(n:S≠I){O:Obj}(h:O.data= .set c L t)
  (g:t.fits c.size=true) (v:t.led=true) (y:c.size<=1):
  WalksS prog w A I [I,S] [I] (λa b=>b=a) c.size (mE c.toList)
   (λi s=>(∃j:Nat,bY s.heap I (.int j 0) i S c.size L/\(i=0->j=0)/\(i=1->∃p,t.place=(List.toArray [p])/\j=p+1))/\s.heap.get? S=some O) where
 sub:=λb d=>by simp at d;simp [d]
 grefl:=λ_=>Z
 gtrans:=λ_ _ _ K M=>M.trans K
 frame:=λi s B W st _ k=>#[let #[j,a,r]:=st.1;#[j,a.at λo e=>k I P5 o e,r],k S P5 _ st.2]
 item:=λi s Q E X st l=>by
  obtain⟨⟨j,H,J,C⟩,f⟩:=st
  have N:i=0:=by omega
  subst N
  cases J Z
  have D:c.size=1:=by omega
  have P:t.place.size=1:=by
   simp only[SetTable.fits,Hy,beq_iff_eq]at g
   omega
  obtain⟨p,m⟩:=Array.size_eq_one_iff.mp P
  refine Qp (x:=(c[0]'P0).2) (nx:=p+1) H f h g (λR T q=>Jw u f h g v y (by rw[m,Yl,Iu P0];exact q)) λB q F=>?_
  refine l _ _ #[c[0]'P0,by rw[Ip];exact Iu P0,Z] #[#[_,q,λz=>by omega,λ_=>#[p,m,Z]],?_] #[λb o d e=>?_,Z,Z,Z,Gh _]
  ·rw[F.2 S n];exact f
  ·rw[F.2 b (λz=>d (by simp [z]))];exact e
 done:=λs Q E st l=>by
  obtain⟨⟨j,H,J,C⟩,f⟩:=st
  refine qm G H f h g (λR T q=>Jw u f h g v y ?_) λB k=>l _ #[λb o d e=>k b o (λz=>d (by simp [z])) e,Z,Z,Z,Gh _]
  by_cases z:c.size=0
  ·rw[LM (show c.size<=_ by omega)];exact q
  ·have D:c.size=1:=by omega
   obtain⟨p,U,V⟩:=C D
   subst V
   rw[U,Ym,LM (show c.size<=1 by omega)];exact q
 self:=λ_ _ _ _ st l=>let #[#[_,a,_],_]:=st;qx a l
end
theorem zQ{prog:Program}{w:World}(h:ElemsOf (PySem.strKind prog w) E)(i:Nat)(v:Value)(b:mE E i v):∃x t,(E.map λe=>lF e.2)[i]?=some x/\v= .str x t:=by
 obtain⟨e,H,rfl⟩:=b
 obtain⟨⟨k,c,_⟩,_⟩:=h e (GP H)
 obtain⟨t,a⟩:=Lk c
 exact#[k,t,by rw[Gz,H];show some (lF e.2)=_;rw[a];rfl,a]
def yw(p:Program)(w:World)(s c:Shared)(S I:Addr)(L:List Str):Prop:=
 ∃(f:List Addr) (d:List Str) (P:Nat->Value->Prop) (St:Nat->Shared->Prop),(∀b o,s.heap.get? b=some o->c.heap.get? b=some o)/\c.gens=s.gens/\c.os=s.os/\s.toks<=c.toks/\
  s.heap.objs.size<=I/\I < c.heap.objs.size/\c.TypeIs (.ref I) "set_iterator"/\(∀b∈f,b=S∨s.heap.objs.size<=b)/\(∀A:Around,A.handled=none->WalksS p w A I f [I] (λa b=>b=a) d.length P St)/\St 0 c/\
  (∀i v,P i v->∃x t,d[i]?=some x/\v= .str x t)/\d.Perm L
section
variable {prog:Program}{w:World}{A:Around}{E:Value->Shared->Prop}{s:Shared}
theorem Yn{S:Addr}(V:cj prog w s.heap S L){Q:Value->Shared->Prop}(h:∀f I,yw prog w s f S I L->Q (.ref I) f):wpAny (model prog w) A (pyIter (.ref S)) Q E s:=by
 obtain⟨o,a,x,t,H,W,m,n,M,X,r,u,Y,N⟩:=V
 have P:s.TypeIs (.ref S) "set":=#[o,H,W.1]
 have v:S < s.heap.objs.size:=Gk H
 refine MQ P Na (Hi Na P JA ?_ (PySem.F.args_set_iter_1 _))
 unfold Builtin.«frozenset.__iter__»
 show wpAny _ _ (Builtin.Frozenset.sizeOf S >>= _) _ _ s
 unfold Builtin.Frozenset.sizeOf
 refine Gb (Gb (J' H m u (Ge ?_)))
 unfold setDrawn
 refine Gb (Gb (Ih H m u ?_))
 dsimp only
 unfold setsByText
 refine Gb (Gb (IZ (Ge (Ge ?_))))
 split
 ·rename_i z
  have B:(!(w.params.followText "set-order")&&(!t.plain&&decide (a.size > 1)))=true:=z
  simp only[Hy,decide_eq_true_eq]at B
  refine Gb (XD a.size (List.range a.size) s P5 λy d G=>?_)
  have C:y.length=a.size:=by rw[G.length_eq,Lv]
  have O:((y.map λ(i:Nat)=>rawInt i).length)<=sizeLine:=by rw[Gg,C];exact LQ r
  refine Gb (Np (s:={ s with drawn:=d }) ?_ O)
  refine Gb ?_
  unfold setEpoch
  refine Gb (Ih (Gf _ H) m u (Ge ?_))
  refine Gb (Hf (Ge #[_,Z,"set_iterator",_,#[_,Gm _ Z,Z],j6.lookup,h _ _ ?_]))
  generalize J:s.heap.push { cls:=.type "tuple",data:=.seq (y.map λ(i:Nat)=>rawInt i).toArray }=g
  have R:g.objs.size=s.heap.objs.size+1:=by rw[<- J,Hl]
  have gP:g.get? s.heap.objs.size=some { cls:=.type "tuple",data:=.seq (y.map λ(i:Nat)=>rawInt i).toArray }:=by rw[<- J];exact Gm _ Z
  have gS:g.get? S=some o:=by rw[<- J];exact Gf _ H
  refine#[[g.objs.size,S,s.heap.objs.size],(y.map λp=>(a[p]?).getD (0,.none)).map λe=>lF e.2,mE (y.map λp=>(a[p]?).getD (0,.none)),
   (λi f=>bY f.heap g.objs.size (.ref s.heap.objs.size) i S a.size x/\f.heap.get? S=some o/\f.heap.get? s.heap.objs.size=some { cls:=.type "tuple",data:=.seq (y.map λ(i:Nat)=>rawInt i).toArray }),λb o e=>?_,Z,Z,Gh _,?_,?_,#[_,Gm _ Z,Z],λb r=>?_,
   λT D=>?_,#[#[_,Gm _ Z,Z,Z],Gf _ gS,Gf _ gP],?_,?_]
  ·exact Gf _ (by rw[<- J];exact Gf _ e)
  ·show s.heap.objs.size<=g.objs.size
   omega
  ·show g.objs.size < (g.push _).objs.size
   rw[Hl];exact HR _
  ·simp only[Iz,GU,Ma]at r
   rcases r with e |e |e
   ·subst e;exact .inr P0
   ·exact .inl e
   ·rw[e];exact .inr (Gh _)
  ·have q:=Yk (prog:=prog) (w:=w) D g.objs.size S s.heap.objs.size (Go (by rw[R];exact IL v)) (Go (by rw[R];exact HR _)) m u (oP:={ cls:=.type "tuple",data:=.seq (y.map λ(i:Nat)=>rawInt i).toArray }) (c:=0) Z G
   simpa [C] using q
  ·refine zQ (prog:=prog) (w:=w) (n.perm ?_)
   have q:=G.map λp=>(a[p]?).getD ((0:Int),Value.none)
   rwa [Xh]at q
  ·have q:=G.map λp=>(a[p]?).getD ((0:Int),Value.none)
   rw[Xh]at q
   exact(q.map _).trans M
 ·rename_i z
  have B:¬(!(w.params.followText "set-order")&&(!t.plain&&decide (a.size > 1)))=true:=z
  refine Gb (Ge ?_)
  refine Gb ?_
  unfold setEpoch
  refine Gb (Ih H m u (Ge ?_))
  refine Gb (Hf (Ge #[_,Z,"set_iterator",_,#[_,Gm _ Z,Z],j6.lookup,h _ _ ?_]))
  have k:∀b∈[s.heap.objs.size,S],b=S∨s.heap.objs.size<=b:=λb r=>by
   simp only[Iz,GU,Ma]at r
   rcases r with e |e
   ·subst e;exact .inr (Gh _)
   ·exact .inl e
  have l:∀U:Obj,s.heap.objs.size < (s.heap.push U).objs.size:=λU=>by rw[Hl];exact HR _
  cases K:w.params.followText "set-order" with
  |true=>
   have pl:(pickOrder (w.params.setOrder S x) a).toList.length=a.size:=by rw[(kf _ _).length_eq,GK]
   refine#[[s.heap.objs.size,S],(pickOrder (w.params.setOrder S x) a).toList.map λe=>lF e.2,mE (pickOrder (w.params.setOrder S x) a).toList,
    (λi f=>bY f.heap s.heap.objs.size (.int (0:Nat) 0) i S a.size x/\f.heap.get? S=some o),λb o e=>Gf _ e,Z,Z,Gh _,Gh _,l _,#[_,Gm _ Z,Z],k,
    λT D=>?_,#[#[_,Gm _ Z,Z,Z],Gf _ H],?_,?_]
   ·have q:=ZI (prog:=prog) (w:=w) D K s.heap.objs.size S (Go v) m u
    rw[Gg,pl];exact q
   ·exact zQ (prog:=prog) (w:=w) (n.perm (kf _ _))
   ·exact((kf _ _).map _).trans M
  |false=>
   have hs:a.size<=1:=by
    rw[K]at B
    rcases N with e |e
    ·rw[e]at B
     simp at B
     exact B
    ·omega
   refine#[[s.heap.objs.size,S],a.toList.map λe=>lF e.2,mE a.toList,
    (λi f=>(∃j:Nat,bY f.heap s.heap.objs.size (.int j 0) i S a.size x/\(i=0->j=0)/\(i=1->∃p,t.place=(List.toArray [p])/\j=p+1))/\f.heap.get? S=some o),λb o e=>Gf _ e,Z,Z,Gh _,Gh _,l _,#[_,Gm _ Z,Z],k,
    λT D=>?_,#[#[0,#[_,Gm _ Z,Z,Z],λ_=>Z,λz=>by cases z],Gf _ H],?_,?_]
   ·have q:=ur (prog:=prog) (w:=w) D K s.heap.objs.size S (Go v) m u (by rw[Y,K];rfl) hs
    rw[Gg,GK];exact q
   ·exact zQ (prog:=prog) (w:=w) n
   ·exact M
theorem qo:∀(V:List Value) (S:List Str),V.length=S.length->(∀(i:Nat) (v:Value),V[i]?=some v->∃x t,S[i]?=some x/\v=Value.str x t)->StrsAre V S
 | [],[],_,_=>.nil
 | [],_::_,h,_=>by cases h
 |_::_,[],h,_=>by cases h
 |v::V,y::S,h,k=>by
  obtain⟨x,t,e,rfl⟩:=k 0 v Z
  cases e
  exact .cons y t (qo V S (by simpa using h) λi u H=>k (i+1) u (by simpa using H))
theorem KO{S:Addr}(hh:A.handled=none)(y:cj prog w s.heap S L){Q:List Value->Shared->Prop}
  (h:∀a V g,s.heap.objs.size<=a.heap.objs.size->(∀b o,s.heap.get? b=some o->a.heap.get? b=some o)->a.gens=s.gens->a.os=s.os->s.toks<=a.toks->StrsAre V g->g.Perm L->Q V a):wpAny (model prog w) A (collect (.ref S)) Q E s:=by
 have n:L.length < scanBound:=by
  obtain⟨o,es,ep,t,j,M,hd,h0,u,h1,k,hf,hl,h2⟩:=y
  rw[<- u.length_eq,Gg,GK];exact k
 unfold collect
 refine Gb (No (HQ MG ?_))
 rw[Hr MF]
 show wpAny _ A.in1 (newList [] >>= λl=>again (.builtin "list.__iadd__" #[[l,.ref S],[]])) _ _ s
 refine Gb (Hf (Ge #[IA IX _,HQ MX ?_]))
 rw[Hr IX]
 show wpAny _ A.in1 (Builtin.List.listExtendWith (.ref s.heap.objs.size) (.ref S) (.ref s.heap.objs.size)) _ _ _
 unfold Builtin.List.listExtendWith
 have p:S < s.heap.objs.size:=by obtain⟨o,_,_,_,j,_⟩:=y;exact Gk j
 generalize x:s.heap.push { cls:=.type "list",data:=.seq ([]:List Value).toArray }=H
 have gl:H.get? s.heap.objs.size=some { cls:=.type "list",data:=.seq ([]:List Value).toArray }:=by rw[<- x];exact Gm _ Z
 have R:cj prog w H S L:=y.at λo e=>by rw[<- x];exact Gf _ e
 have gk:∀b o,s.heap.get? b=some o->H.get? b=some o:=λb o e=>by rw[<- x];exact Gf _ e
 have T:Shared.TypeIs { s with heap:=H } (.ref S) "set":=by
  obtain⟨o,_,_,_,j,M,_⟩:=R
  exact#[o,j,M.1]
 refine Gb (Iq T ?_)
 have n1:Builtin.List.listSameRef (.ref s.heap.objs.size) (.ref S)=false:=by
  simp only[Builtin.List.listSameRef,beq_eq_false_iff_ne]
  exact Hn p
 have n2:(Value.type "set"==Value.type "list")=false:=by decide
 have n3:(Value.type "set"==Value.type "tuple")=false:=by decide
 simp only[n1,n2,n3,Li,Gs,HW]
 refine Gb (Yn (s:={ s with heap:=H }) R λr I B=>?_)
 obtain⟨fp,g,P,St,K,kg,ko,kt,C,h3,h4,D,W,st,hv,u⟩:=B
 have G:H.objs.size=s.heap.objs.size+1:=by rw[<- x,Hl]
 have f:r.TypeIs (.ref S) "set":=by
  obtain⟨o,j,hc⟩:=T
  exact#[o,K _ _ j,hc]
 refine Gb (GN ?_)
 unfold Builtin.List.listLengthHint
 refine Gb (Ij f PySem.F.slot_set_len.lookup ?_)
 wp_delta
 refine Gb (IE (b:=true) f sub_set_self ?_)
 show wpAny _ A.in1 (typeOf (Value.ref S) >>= _) _ _ _
 refine Gb (Iq f (Ge ?_))
 rw[Gw PZ]
 refine Gb (Iw ?_)
 have U:=K _ _ gl
 refine Gb ?_
 show wpAny _ A.in1 (updateSeq s.heap.objs.size (·.push .none) >>= λ_=>updateSeq s.heap.objs.size (·.pop)) _ _ _
 refine Gb (Ml U Z ?_)
 have X:=Hc (Obj.mapSeq (·.push Value.none)) U Z
 refine Ml X Z ?_
 have g3:=Hc (Obj.mapSeq (·.pop)) X Z
 have N:¬s.heap.objs.size∈fp:=λm=>by
  rcases D _ m with e |e
  ·exact absurd p (by rw[<- e];exact HE _)
  ·have e':H.objs.size<=s.heap.objs.size:=e
   omega
 have O:∀b o,b≠s.heap.objs.size->r.heap.get? b=some o->((r.heap.update s.heap.objs.size (Obj.mapSeq (·.push Value.none))).update s.heap.objs.size (Obj.mapSeq (·.pop))).get? b=some o:=
  λb o k e=>(Gv _ _ (G7 k)).trans ((Gv _ _ (G7 k)).trans e)
 have Y:=W A.in1 (by simpa using hh)
 have hn:g.length<=sizeLine:=by rw[u.length_eq];exact LQ n
 refine Ge #[IA MK _,Om Y hn _ N _ g.length 0 _ _ _ Z (Gp _) (Y.frame 0 r _ r.toks st (Gh _) λb k o e=>O b o (λz=>N (z▸k)) e) g3 (Oy P) λa J c m gS d=>?_]
 show wpAny _ A (load s.heap.objs.size >>= _) _ _ a
 refine Gb (OE gS (Ge (h a J.toList g (IV (Gk gS)) (λb o e=>?_) ?_ ?_ ?_ ?_ u)))
 ·have ne:b≠s.heap.objs.size:=Go (Gk e)
  refine m.heap b o ?_ (O b o ne (K b o (gk b o e)))
  simp only[Iz,GU,Ma,not_or]
  refine#[ne,λz=>?_]
  have q:s.heap.objs.size+1<=I:=G▸C
  have q2:=Gk e
  rw[z]at q2
  exact absurd (Gu (IL q2) q) (HE _)
 ·exact m.gens.trans kg
 ·exact m.os.trans ko
 ·exact Gr kt m.toks
 ·refine qo _ _ (by rw[GK,d.1]) λi v e=>hv i v (d.2 i v (by rwa [Ip]at e))
end
section
variable {prog:Program}{w:World}{A:Around}{E:Value->Shared->Prop}{s:Shared}
theorem QZ{S:Addr}(z:A.handled=none)(B:cj prog w s.heap S L)(j:L.length < 64){Q:Value->Shared->Prop}
  (h:∀f a c v i,s.heap.objs.size<=a->(∀b o,s.heap.get? b=some o->f.heap.get? b=some o)->f.gens=s.gens->f.os=s.os->f.heap.get? a=some (seqObj "list" v c)->StrsAre v.toList i->i.Perm L->sortedS i=true->Q (.ref a) f):
  wpAny (model prog w) A (call (.builtin "sorted") [.ref S]) Q E s:=by
 refine Calls.call_function_entry kind_sorted plain_sorted entry_sorted (args_sorted1 _) ?_
 unfold Builtin.«sorted»
 refine Gb (m:=checkCount "sorted" 1 1 _) (Ge ?_)
 refine Gb (KO (by simpa using z) B λd v i K k C D P H r=>?_)
 have F:v.length < 64:=by rw[<- _L.StrsAre.len H,r.length_eq];exact j
 refine Gb (wpAny_newList ?_ (by have q:sizeLine=1000000000∨64<=sizeLine:=.inr PZ;omega))
 have g:=Gm d.heap (o:=seqObj "list" v.toArray 0) Z
 refine Gb (GN (Hi slot_list_sort #[_,g,Z] entry_list_sort (list_sort_treeK strKind_oneLt g H.keysOf (λV t R e=>keyKind_strs (by rw[<- e];exact H)) F λl G I=>#[_,Z,?_]) (args_list_sort _)))
 obtain⟨n,u,J,M⟩:=sorted_out_str H G I
 generalize (arrOf l).map (·.2)=out at u ⊢
 obtain⟨c,N⟩:=sortedHeap_at (out:=out) g
 have O:∀b o,s.heap.get? b=some o->(sortedHeap (d.heap.push (seqObj "list" v.toArray 0)) d.heap.objs.size v out).get? b=some o:=by
  intro b o e
  have x:=k b o e
  have y:b < d.heap.objs.size:=Gk x
  have p:b < (d.heap.push (seqObj "list" v.toArray 0)).objs.size:=by rw[size_push'];exact IL y
  rw[sortedHeap_old (Go y) p]
  exact Gf _ x
 exact Ge #[_,Z,h { d with heap:=sortedHeap (d.heap.push (seqObj "list" v.toArray 0)) d.heap.objs.size v out } d.heap.objs.size c out n K O C D N u (J.trans r) M]
end
theorem qW(h:StrsAre v s):ax (s.map V.str) v:=by
 induction h with
 |nil=>exact .nil
 |cons y t _ i=>exact .cons #[t,Z] i
noncomputable def D5(P:Program)(w:World)(a:Addr)(L:List Str):HO:=.ext λh=>cj P w h a L
section
variable {X:Cx}
theorem zR(i:X.calm=true):dR X (.builtin "sorted") (λx H Q=>∃(p:Addr) (L:List Str),x=[.ref p]/\H p=some (D5 X.prog X.w p L)/\L.length < 64/\
  ∀l S,H l=none->S.Perm L->L.Nodup->sortedS S=true->Q (.ref l) (af H l (.lst (S.map V.str)))):=by
 intro P s B H x U Q I r h
 obtain⟨p,L,rfl,j,d,q⟩:=h
 obtain⟨u,rfl,R⟩:=eJ r
 cases R
 obtain⟨f,_,_⟩:=I.hok p _ j
 have b:L.Nodup:=by obtain⟨_,_,_,_,_,_,_,_,_,b,_⟩:=f;exact b
 refine QZ (I.ok.hd i) f d λm a c v S e k K o t y g A=>?_
 have len:(S.map V.str).length<=sizeLine:=by rw[Gg,g.length_eq];exact Gr (IV d) PZ
 have n:aK X.prog X.w (af H a (.lst (S.map V.str))) m.heap a (.lst (S.map V.str)):=#[len,v.toList,c,qW y,t]
 refine#[.ref a,_,I.call' (ch:=[]) o (Un.laid k e (I.hok.fresh e)) (I.hok.laid k e n) (by rw[K];exact I.bare) (λ_ z=>nomatch z),Z,q _ _ (I.hok.fresh e) g b A]
theorem qX:dR X (.builtin "sorted") (λx H Q=>∃(p:Addr) (a:List Str),x=[.ref p]/\aH X.K H p (a.map V.str)/\a.length < 64/\
  ∀l S,H l=none->S.Perm a->sortedS S=true->Q (.ref l) (af H l (.lst (S.map V.str)))):=by
 intro P s v H x U Q I r h
 obtain⟨p,a,rfl,f,b,q⟩:=h
 obtain⟨u,rfl,R⟩:=eJ r
 cases R
 obtain⟨i,g,j,y⟩:=I.list f
 have d:=zO g
 have k:i.length=a.length:=(_L.StrsAre.len d).symm
 refine sorted_strs j.isList d (by rw[k];exact b) λo S m A n=>?_
 obtain⟨c,t⟩:=sortedAll_at s.heap i o
 have len:(S.map V.str).length<=sizeLine:=by rw[Gg,A.length_eq];exact Gr (IV b) PZ
 refine#[.ref (s.heap.objs.size+1),_,I.laid (t':=s.toks) (λ_ _ e=>sortedAll_old e) (Ic _) (show aK X.prog X.w _ _ _ (.lst (S.map V.str)) from #[len,o.toList,c,qW m,t]),Z,q _ _ (I.hok.fresh (Ic _)) A n]
end
theorem YT:mroOf (.type "reversed")=pure [.type "reversed",.type "object"]:=by rw[mroOf_type];kernel_rfl
theorem KC:typeLookup (.type "reversed") "__new__"=pure (some (.builtin "reversed.__new__")):=by rw[HP,Hk];kernel_rfl
theorem KP:Slot "reversed" "__init__" "object.__init__":=by
 refine .of (owner:="object") (n:="__init__") ?_ P6 P6 P6 ?_ ?_
 ·rw[HP,Hk];kernel_rfl
 ·first |exact .inl P6 |exact .inr P6
 ·rw[Ig];kernel_rfl
theorem Yo:TypeCalled "reversed" "reversed.__new__" "object.__init__":=by
 refine#[P6,P6,#[_,_,YT],madeBy_type YT KC P6,P6,?_,KP]
 rw[Ig];kernel_rfl
theorem Q0(a:Value):checkTypeCall "reversed" #[[a],[]]=pure ():=by kernel_rfl
theorem XH(a:Value):checkBuiltinCall "reversed.__new__" #[[.type "reversed",a],[]]=pure ():=by kernel_rfl
theorem KQ:entryFor table "reversed.__new__"=some Builtin.«reversed.__new__»:=Mg (by kernel_rfl)
theorem xg:isSubtype (.type "reversed") (.type "reversed")=pure true:=by rw[Ig];kernel_rfl
theorem Q1:typeLookup (.type "tuple") "__reversed__"=pure none:=by rw[HP,Hk];kernel_rfl
theorem KD:isSubtype (.type "tuple") (.type "dict")=pure false:=by rw[Ig];kernel_rfl
noncomputable def revObj(t:Addr)(n:Int):Obj:={ cls:=.type "reversed",data:=.fields (List.toArray [.ref t,.int (n - 1) 0]) }
section
variable {prog:Program}{w:World}{A:Around}{E:Value->Shared->Prop}{s:Shared}
theorem oU{Q:Value->Shared->Prop}(H:IsTup s.heap t i)(c:(i.size:Int) < 2 ^ 63)
  (h:Q (.ref s.heap.objs.size) { s with heap:=s.heap.push (revObj t i.size),toks:=s.toks+1+1 }):wpAny (model prog w) A (call (.type "reversed") [.ref t]) Q E s:=by
 refine NY (S:=λ_ R a=>a=s/\R (.ok (.ret (.ref s.heap.objs.size))) { s with heap:=s.heap.push (revObj t i.size),toks:=s.toks+1+1 }) Yo PZ (Q0 _) (XH _) (λo=>Ll o _) KQ
  (.of_wp λp W f R a d=>?_) #[Z,#[_,Gm _ Z,Z],h]
 obtain⟨rfl,e⟩:=d
 unfold Builtin.«reversed.__new__» Builtin.SmallTypes.newClass
 refine Gb ?_
 dsimp only
 refine Gb (Ge ?_)
 simp only[Lj,Gs,HW]
 refine Gb (LP xg ?_)
 simp only[Lj,Gs,HW]
 refine Ge ?_
 refine Gb (m:=Builtin.SmallTypes.refuseKeywords _ _ _) (Ge ?_)
 refine Gb (m:=checkCount "reversed" 1 1 _) (Ge ?_)
 dsimp only
 refine Gb (Ij H.typeIs Q1 ?_)
 dsimp only
 refine Gb ?_
 show wpAny _ _ (isInstance (.ref t) (.type "dict") >>= _) _ _ _
 refine Gb (IE (b:=false) H.typeIs KD ?_)
 simp only[Gs,HW]
 refine Gb (Ij H.typeIs PyProof.Rows.slot_tuple_getitem.lookup ?_)
 dsimp only
 rw[Gw P6]
 refine Ge ?_
 simp only[Lj,Gs,HW]
 refine Gb (len_tuple H c ?_)
 refine Gb (m:=asInt? _) (Ge ?_)
 dsimp only
 show wpAny _ _ (newObj (.type "reversed") (.fields [Value.ref t,rawInt ((i.size:Int) - 1)].toArray) >>= _) _ _ _
 exact Gb (Hf (Ge #[_,Z,e]))
end
theorem zC:Slot "reversed" "__next__" "reversed.__next__":=by
 refine .of (owner:="reversed") (n:="__next__") ?_ P6 P6 P6 ?_ ?_
 ·rw[HP,Hk];kernel_rfl
 ·first |exact .inl P6 |exact .inr P6
 ·rw[Ig];kernel_rfl
theorem qp:Slot "reversed" "__iter__" "reversed.__iter__":=by
 refine .of (owner:="reversed") (n:="__iter__") ?_ P6 P6 P6 ?_ ?_
 ·rw[HP,Hk];kernel_rfl
 ·first |exact .inl P6 |exact .inr P6
 ·rw[Ig];kernel_rfl
theorem KE:entryFor table "reversed.__next__"=some Builtin.«reversed.__next__»:=Mg (by kernel_rfl)
theorem KF:entryFor table "reversed.__iter__"=some Builtin.«dict_keyiterator.__iter__»:=by
 refine Mt (id':="dict_keyiterator.__iter__") ?_ Z P6 ?_<;>kernel_rfl
theorem KR(a:Value):argsOk "reversed.__next__" #[[a],[]]:=by unfold argsOk;kernel_rfl
theorem KS(a:Value):argsOk "reversed.__iter__" #[[a],[]]:=by unfold argsOk;kernel_rfl
def du(h:Heap)(I t:Addr)(k:Int):Prop:=∃o,h.get? I=some o/\o.cls= .type "reversed"/\o.data= .fields (List.toArray [.ref t,.int k 0])
theorem du.at{H:Heap}(x:du h I t k)(e:∀o,h.get? I=some o->H.get? I=some o):du H I t k:=let #[o,a,r]:=x;#[o,e o a,r]
theorem du.is{s:Shared}(x:du s.heap I t k):s.TypeIs (.ref I) "reversed":=let #[o,h,H,_]:=x;#[o,h,H]
section
variable {prog:Program}{w:World}{A:Around}{E:Value->Shared->Prop}{s:Shared}
theorem Xi(H:du s.heap I t k)
  (h:wpAny (model prog w) A.in1 (Builtin.«reversed.__next__» #[[.ref I],[]]) (λf S=>∃v,f= .done (.ret v)/\Q (some v) S) (λe S=>S.TypeIs e "StopIteration"/\Q none S) s):
  wpAny (model prog w) A (pyNext (.ref I)) Q E s:=by
 unfold pyNext
 refine Gb (La (Hd (name:=Str.ofString "__next__") H.is zC (Hi zC H.is KE ?_ (KR _))))
 refine HI h (λf S q=>?_) λe S q=>?_
 ·obtain⟨v,e,q⟩:=q
  exact#[v,e,Ge q]
 ·exact Gb (IE (T:="StopIteration") (b:=true) q.1 Ms (Ge q.2))
theorem CZ{I t:Addr}{k:Nat}{items:Array Value}{x:Value}{Q:Option Value->Shared->Prop}(H:du s.heap I t k)(c:IsTup s.heap t items)(d:items[k]?=some x)(e:(items.size:Int) < 2 ^ 63)
  (f:∀b,du b I t ((k:Int) - 1)->Heap.SameBut I s.heap b->Q (some x) { s with heap:=b,toks:=s.toks+1 }):wpAny (model prog w) A (pyNext (.ref I)) Q E s:=by
 refine Xi H ?_
 obtain⟨o,a,g,h⟩:=H
 have i:k < items.size:=(Array.getElem?_eq_some_iff.mp d).1
 show wpAny _ _ (field (.ref I) 0 >>= _) _ _ s
 refine Gb (GL a h (x:=.ref t) Z (Gb (GL a h (x:=.int k 0) Z ?_)))
 dsimp only
 rw[GG P0]
 refine Gb (Ij c.typeIs PyProof.Rows.slot_tuple_getitem.lookup ?_)
 simp only[Nz,Gs,HW]
 refine Gb (wpAny_mkInt (Gb (La ?_)))
 refine getItem_tuple (s:={ s with toks:=s.toks+1 }) c P0 P0 (j:=k) ?_ d ?_
 ·unfold seqIndex?
  simp
  omega
 refine Gb (GL (s:={ s with toks:=s.toks+1 }) a h (x:=.int k 0) Z ?_)
 dsimp only
 refine Gb (Hm a h P5 (Ge #[x,Z,f _ ?_ (Ia ..)]))
 exact#[_,Hc _ a (HG (GZ h _)),(Lg ..).trans g,by rw[GZ h];simp [rawInt]]
theorem ZJ(f:A.handled=none){Q:Option Value->Shared->Prop}(h:du s.heap I t (-1))
  (g:∀a,(∀b o,b≠I->s.heap.get? b=some o->a.get? b=some o)->Q none { s with heap:=a }):wpAny (model prog w) A (pyNext (.ref I)) Q E s:=by
 refine Xi h ?_
 obtain⟨o,c,j,H⟩:=h
 show wpAny _ _ (field (.ref I) 0 >>= _) _ _ s
 refine Gb (GL c H (x:=.ref t) Z (Gb (GL c H (x:=.int (-1) 0) Z ?_)))
 dsimp only
 rw[Gw PZ]
 refine Gb (Iw (Gb ?_))
 show wpAny _ _ (setField (.ref I) 1 (rawInt (-1)) >>= λ_=>setField (.ref I) 0 .none) _ _ _
 refine Gb (Hm c H P5 ?_)
 refine Hm (Hc _ c (HG (GZ H _))) (GZ H _) P5 ?_
 refine Gb ?_
 refine JG (s:={ s with heap:=_ }) (by simpa using f) λa e k T=>#[T,g a λb o d i=>k b o ?_]
 exact(Gv _ _ (G7 d)).trans ((Gv _ _ (G7 d)).trans i)
theorem xX(H:du s.heap I t k){Q:Value->Shared->Prop}(h:Q (.ref I) s):wpAny (model prog w) A (pyIter (.ref I)) Q E s:=by
 refine MQ H.is qp (Hi qp H.is KF ?_ (KS _))
 show wpAny _ _ (ret (.ref I)) _ _ s
 exact Ge #[_,Z,"reversed",_,H.is,zC.lookup,h]
end
theorem Jx:entryFor table "dict.update.loop"=some Builtin.«dict.update.loop»:=Mg (by kernel_rfl)
theorem zz:plainId "dict.update.loop"=true:=by decide+kernel
section
variable {X:Cx}{o lo hi:Expr}{to tl th:TE}{pos p2:Pos}
inductive CN(v:V)(h:St)(Q:St->Hp->Prop)(e a c:V)(d:Hp):Prop
 |mk(l b f g i j:_)(_:e= .ref l)(_:v= .ref b)(_:a= .int i)(_:c= .int j)(_:d l=some (.lst f))(_:d b=some (.lst g))(_:l≠b)(_:0<=i)(_:i<=j)(_:j<=(f.length:Int))(_:f.length+g.length<=sizeLine)(_:Q h (af d l (.lst (f.take i.toNat++g++f.drop j.toNat))))
def FF(to tl th:TE):TG:=λv b H Q=>to b H λO h=>tl b h λa c=>th b c (CN v b Q O a)
theorem sd(n:PE X o to)(t:PE X lo tl)(w:PE X hi th)
  (A:∀v,assign (.Subscript o (.Slice (some lo) (some hi) none p2) pos) X.env v=(do
   let O <- holding [v] (eval o X.env)
   let c <- holding [v,O] (eval (.Slice (some lo) (some hi) none p2) X.env)
   standAt pos
   holding [v,O,c] (setItem O c v)
   release [c,v,O] []):=by intro _;rfl):PG X (.Subscript o (.Slice (some lo) (some hi) none p2) pos) (FF to tl th):=by
 intro p s a H v u Q I r h
 rw[A]
 refine Gb (GN (aQ (n p s a H _ I h) λO B d=>?_))
 obtain⟨x,C,D,R,E⟩:=d
 refine Gb (GN ?_)
 refine wpAny_Slice (aQ (t p B a C _ D E) λV F #[y,G,J,K,L]=>aQ (w p F a G _ J L) λm S f=>?_)
 obtain⟨z,M,N,P,l,b,xs,ys,i,j,T,U,W,Y,h1,h2,g,h0,k,hj,hz,q⟩:=f
 subst T U W Y
 cases (show O=Value.ref l from R)
 cases (show u=Value.ref b from r)
 refine Ge ?_
 have I4:ap X p a M { S with heap:=S.heap.push { cls:=.type "slice",data:=.fields (List.toArray [V,m,.none]) } }:=N.kept (t':=S.toks) λb o e=>Gf _ e
 refine Gb (IN (Gb (GN ?_)))
 exact Zy I4 h1 h2 g (MO S.heap V m .none) K P h0 k hj hz λs5 I5=>wpAny_release #[a,_,I5,q]
end
end _L
namespace _L
open PySem PySem.Spec PyProof.Rows Builtin Builtin.Str
section
variable {prog:Program}{w:World}{A:Around}{E:Value->Shared->Prop}{s:Shared}
theorem qZ{lo:Option Int}{Q:Value->Shared->Prop}(H:IsTup s.heap t i)(d:s.heap.IsSliceOf e v j .none)(p:IsPart v lo)(P:IsPart j f)
  (g:HT.sIx i.size 0 lo=0/\HT.sIx i.size i.size f=i.size) (h:Q (.ref t) s):wpAny (model prog w) A (getItem (.ref t) (.ref e)) Q E s:=by
 obtain⟨os,a,b,k⟩:=id d
 have c:s.TypeIs (.ref e) "slice":=#[os,a,b]
 unfold getItem
 try with_reducible refine GN ?_
 first |refine Gb (Ge ?_) |skip
 refine Gb (MP H.typeIs PZ ?_)
 refine Gb (Hd (name:=Str.ofString "__getitem__") H.typeIs Ir
  (Hi Ir H.typeIs Pu ?_ (PH _ _)))
 show wpAny _ _ (Builtin.Tuple.tupleItemsOf (.ref t) >>= _) _ _ s
 refine Gb (Pr H ?_)
 refine Gb (Iq c ?_)
 rw[Gw PZ]
 refine Gb (HT.sliceApplied_gen d p P ?_)
 show wpAny _ _ (if (((HT.sIx i.size 0 lo:Nat):Int)==0&&(1:Int)==1&&(HT.sIx i.size i.size f - HT.sIx i.size 0 lo)==i.size)=true then _ else _) _ _ s
 rw[g.1,g.2,Gw P5]
 unfold Builtin.Tuple.tupleIsExact
 refine Gb (Gb (Iq H.typeIs (Ge ?_)))
 rw[Gw PZ]
 first
  |exact Iw (Ge #[_,Z,Ge h])
  |exact Gb (Iw (Ge #[_,Z,Ge h]))
  |exact Gb (Ge (Ge #[_,Z,Ge h]))
end
section
variable {X:Cx}
inductive sq(x y:V)(H:Hp)(Q:VK):Prop
 |mk(a b c d:_)(_:x= .ref a)(_:y= .ref b)(_:H a=some (.tup c))(_:H b=some (.tup d))(_:c.length+d.length<=sizeLine)(_:∀r H',H' r=some (.tup (c++d))->ae H H'->Q (.ref r) H')
theorem jZ:eN X (binaryOp .Add) sq:=by
 intro P s G H x y v u Q I r R h
 obtain⟨a,b,m,Y,rfl,rfl,d,f,J,q⟩:=h
 have t:=aw.of (K:=X.K) d
 have w:=aw.of (K:=X.K) f
 by_cases z:m=[]
 ·subst z
  cases r
  cases R
  obtain⟨l,L,M,_⟩:=I.tuple t
  obtain⟨i,r2,N,_⟩:=I.tuple w
  have O:l=[]:=L.nil_iff.mpr Z
  subst O
  obtain⟨⟨T,U,A,V⟩,B,C,n,E⟩:=id M
  obtain⟨⟨F,D,data2,S⟩,g,j,W,k⟩:=id N
  simp only at C E j k
  subst C E j k
  exact NV #[_,B,Z] #[_,g,Z] M3 NE LA Ls (Lp _ _)
   (tuple_addW0 a b ([]:List Value).toArray i.toArray n W U D V S Z) #[B,g,.ref b,H,I,Z,q b H f (ae.refl H)]
 ·refine wf P s G H _ _ v u Q I r R #[a,b,m,Y,Z,Z,t,w,z,J,λe=>?_,λ_ p np=>?_]
  ·subst e
   exact q a H (by rw[LZ];exact d) (ae.refl H)
  ·exact q p _ jc λc o e=>by rw[ji (jk e np)];exact e
inductive AW(x:V)(c b:Option Int)(H:Hp)(Q:VK):Prop
 |mk(a d:_)(_:x= .ref a)(_:H a=some (.tup d))(_:∀r H',H' r=some (.tup (aX d c b))->ae H H'->Q (.ref r) H')
theorem kE:D4 X AW:=by
 intro P s u H x v V w lo j S Q I R k l m h
 obtain⟨a,b,rfl,d,q⟩:=h
 have n:=aw.of (K:=X.K) d
 by_cases g:HT.sIx b.length 0 lo=0/\HT.sIx b.length b.length j=b.length
 ·cases R
  obtain⟨i,r,t,y⟩:=I.tuple n
  have f:i.toArray.size=b.length:=by rw[Gj];exact r.length.symm
  refine#["tuple",_,PyProof.Rows.slot_tuple_getitem.lookup,t.typeIs,?_]
  refine qZ t k l m (by rw[f];exact g) #[.ref a,H,I,Z,q a H ?_ (ae.refl H)]
  rw[d]
  unfold aX
  rw[g.1,g.2,Ox,My,Ho]
 ·exact Bq P s u H _ v V w lo j S Q I R k l m #[a,b,Z,n,g,λp N=>q p _ jc λc o e=>by rw[ji (jk e N)];exact e]
end
end _L
namespace _L
open PySem PySem.Spec PyProof.Rows
theorem xI{G:Bool->Hp->Prop}(y:G true H)(n:b=false->G b H):G b H:=by
 cases b
 ·exact n Z
 ·exact y
theorem aU{A:Prop}(h:∀G:Prop,(A->G)->G):A:=h A λz=>z
section
variable {t u:TS}{D:a9}{σ:St}{H:Hp}
theorem eS(h:∀E:a9,(∀a b,u D a b->E.nx a b)->t E σ H):eV t u D σ H:=h { D with nx:=u D } λ_ _ h=>h
theorem ai(h:∀F:St->Hp->Prop,(∀a b,u D a b->F a b)->t { D with nx:=F } σ H):eV t u D σ H:=h _ λ_ _ h=>h
theorem nG{c:TT}(h:∀F:Bool->Hp->Prop,(∀b a,(if b=true then t D σ a else u D σ a)->F b a)->c σ H F):gD c t u D σ H:=h _ λ_ _ x=>x
theorem uF{c:TT}(h:∀F:Bool->Hp->Prop,(∀a,t D σ a->F true a)->(∀a,u D σ a->F false a)->c σ H F):gD c t u D σ H:=by
 refine h _ (λa x=>?_) λa x=>?_
 ·show if true=true then _ else _
  rw[Gw Z];exact x
 ·show if false=true then _ else _
  rw[GG PZ];exact x
theorem dw(R:St->Hp->Prop)(c:∀E:a9,E.rt=D.rt->(∀a b,R a b->E.nx a b)->t E σ H)(d:∀a b,R a b->D.nx a b):DV t D σ H:=#[R,c { D with nx:=R } Z λ_ _ h=>h,d]
theorem ny{c:TT}{T:TS}(W:Nat->St->Hp->Prop)(d:Nat)(e:W d σ H)
  (f:∀m σ H,∀E:a9,E.rt=D.rt->(∀M a b,M < m->W M a b->E.nx a b)->∀F:Bool->Hp->Prop,(∀b,T E σ b->F true b)->(∀b,D.nx σ b->F false b)->∀G:Prop,(c σ H F->G)->W m σ H->G):ue c T D σ H:=by
 refine#[W,#[d,e],λm σ H w=>?_]
 refine f m σ H { D with nx:=λa b=>∃M,M < m/\W M a b,ct:=λa b=>∃M,M < m/\W M a b,bk:=D.nx } Z (λM a b l g=>#[M,l,g]) _ (λb x=>?_) (λb x=>?_) _ (λz=>z) w
 ·show if true=true then _ else _
  rw[Gw Z]
  exact#[_,λ_ _ h=>h,x]
 ·show if false=true then _ else _
  rw[GG PZ];exact x
def oy(J:It)(g:TG)(T:TS)(D:a9)(σ:St)(H:Hp):Prop:=∃W:Nat->Nat->St->Hp->Prop,(∃m,W 0 m σ H)/\∀i m σ H,W i m σ H->
 (J.stop i H/\D.nx σ H)∨(J.go i H/\∃N:St->Hp->Prop,(∀a h,N a h->∃M,M < m/\W (i+1) M a h)/\∀x h,J.yld i H x h->g x σ h λb c=>T { D with nx:=N,ct:=N,bk:=D.nx } b c)
theorem eO{w:TI}(h:∀F:It->Hp->Prop,(∀J a,oy J g T D σ a->F J a)->w σ H F):By w g T D σ H:=h _ λ_ _ z=>z
theorem FS{g:TG}{Q:St->Hp->Prop}(h:∀F:St->Hp->Prop,(∀a b,Q a b->F a b)->g x σ H F):g x σ H Q:=h _ λ_ _ z=>z
theorem kJ{lo:Int}{n:Nat}{g:TG}{T:TS}{D:a9}{σ:St}{H:Hp}(Pv:Nat->St->Hp->Prop)(d:Pv 0 σ H)
  (e:∀E:a9,E.rt=D.rt->∀i σ H,i < n->(∀a c,Pv (i+1) a c->E.nx a c)->∀G:Prop,((g (.int (lo+i)) σ H λb f=>T E b f)->G)->Pv i σ H->G) (j:∀σ H,Pv n σ H->D.nx σ H):oy (uC lo n) g T D σ H:=
 Qa Pv d (λi σ H k p=>e { D with nx:=Pv (i+1),ct:=Pv (i+1),bk:=D.nx } Z i σ H k (λ_ _ h=>h) _ (λz=>z) p) j
theorem ZK{K:Frag}{a:Addr}{xs:List V}{g:TG}{T:TS}{D:a9}{σ:St}{H:Hp}(Pv:Nat->St->Hp->Prop)(e:Pv 0 σ H)(f:∀i σ H,i<=xs.length->Pv i σ H->aH K H a xs)
  (j:∀E:a9,E.rt=D.rt->∀i x σ H,xs[i]?=some x->(∀b d,Pv (i+1) b d->E.nx b d)->∀G:Prop,((g x σ H λc k=>T E c k)->G)->Pv i σ H->G) (l:∀σ H,Pv xs.length σ H->D.nx σ H):oy (uN K a) g T D σ H:=
 pJ Pv e f (λi x σ H m p=>j { D with nx:=Pv (i+1),ct:=Pv (i+1),bk:=D.nx } Z i x σ H m (λ_ _ h=>h) _ (λz=>z) p) l
theorem qQ{K:Frag}{a:Addr}{xs:List V}{g:TG}{T:TS}{D:a9}{σ:St}{H:Hp}(Pv:Nat->St->Hp->Prop)(e:Pv 0 σ H)(f:∀i σ H,i<=xs.length->Pv i σ H->aw K H a xs)
  (j:∀E:a9,E.rt=D.rt->∀i x σ H,xs[i]?=some x->(∀b d,Pv (i+1) b d->E.nx b d)->∀G:Prop,((g x σ H λc k=>T E c k)->G)->Pv i σ H->G) (l:∀σ H,Pv xs.length σ H->D.nx σ H):oy (uO K a) g T D σ H:=
 vp Pv e f (λi x σ H m p=>j { D with nx:=Pv (i+1),ct:=Pv (i+1),bk:=D.nx } Z i x σ H m (λ_ _ h=>h) _ (λz=>z) p) l
end
end _L
namespace _L
open PySem PySem.Spec PyProof.Rows PySem.SeqAt
inductive Tr where
 |lf (v:V) |tp (l:Tr) |nil |cons (h t:Tr)
noncomputable def Tr.dep:Tr->Nat
 | .lf _=>0
 | .tp l=>l.dep+1
 | .nil=>0
 | .cons h t=>max h.dep t.dep
noncomputable def Tr.isL:Tr->Bool
 | .nil=>true
 | .cons _ _=>true
 |_=>false
noncomputable def FK:V->Bool
 | .byt _=>false
 | .flt _=>false
 |_=>true
end _L
namespace _L
open PySem PySem.Spec PyProof.Rows
noncomputable def Ef(K:Frag)(a:Addr)(n:Nat):It:=
 #[λi H=>∃X x,aw K H a X/\X.length=n/\X.reverse[i]?=some x,λi H x h=>h=H/\∀X,aw K H a X->X.reverse[i]?=some x,λi H=>∃X,aw K H a X/\X.length=n/\i=n]
theorem uj{P:Program}{K:Frag}(a f:Addr)(n:Nat):mJ P w K tg (Ef K a n) [f] f (λi h=>du h f a ((n:Int) - 1 - i)) where
 mem:=by simp
 obj:=λi h st b j=>by
  have e:b=f:=by simpa using j
  subst e
  obtain⟨o,e,c,d⟩:=st
  exact#[o,e,λv z=>by rw[d]at z;cases z]
 keep:=λi h q st k=>st.at λo e=>k f P5 o e
 item:=by
  intro X y A B O i g s Q H E I t st C
  subst y A B
  obtain⟨l,x,D,T,m⟩:=C
  obtain⟨r,R,p,hz⟩:=I.tuple D
  have hl:=R.length
  have U:=dW
  have V:i < l.length:=by
   rcases LW i l.length with z |z
   ·exact z
   ·rw[HF (by simpa using z)]at m;cases m
  have F:l[l.length - 1 - i]?=some x:=by rw[Lh V]at m;exact m
  obtain⟨u,W,Y⟩:=R.get F
  obtain⟨G,J,f2,L,M,N⟩:=t f P5
  have e:((n:Int) - 1 - i)=((l.length - 1 - i:Nat):Int):=by omega
  rw[e]at st
  refine CZ (items:=r.toArray) st (show IsTup s.heap a r.toArray from p) (x:=u) (by simpa using W) (by simp only[Gj];omega) λq S sb=>?_
  have I1:ap X g Q H { s with heap:=q,toks:=s.toks+1 }:=I.turned (t':=s.toks+1) (λb o j e=>(sb.2 b j).trans e) G J L M N
  obtain⟨o,e',c,d⟩:=id S
  refine#[u,Z,YE (s:={ s with heap:=q,toks:=s.toks+1 }) e' c d PZ #[x,H,I1,Y,#[Z,λys hy=>by rw[I.tuple_inj hy D];exact m],?_,λb j=>(t b j).1]]
  have e2:((n:Int) - 1 - ((i+1:Nat):Int))=((l.length - 1 - i:Nat):Int) - 1:=by omega
  show du q f a ((n:Int) - 1 - ((i+1:Nat):Int))
  rw[e2];exact S
 done:=by
  intro X y A B O i g s Q H E I t st C
  subst y A B
  obtain⟨l,D,T,m⟩:=C
  obtain⟨G,J,f2,L,M,N⟩:=t f P5
  have e:((n:Int) - 1 - (i:Int))= -1:=by omega
  rw[e]at st
  exact ZJ (I.ok.hd O) st λq eb=>#[Z,I.turned (t':=s.toks) (λb o j e=>eb b o j e) G J L M N]
 self:=λ_ _ _ _ _ st h=>xX st h
section
variable {X:Cx}{tg:Expr}
inductive xV(K:Frag)(R:It->Hp->Prop)(x:V)(b:Hp):Prop
 |mk(a c:_)(_:x= .ref a)(_:aw K b a c)(_:R (Ef K a c.length) b)
def Ez(K:Frag)(t:TE):TI:=λa H R=>t a H (xV K R)
theorem sf{e:Expr}{t:TE}{c:Str}{p P:Pos}(j:Gl X c)(k:X.mg c=none)(l:bootBuiltins c=some (.type "reversed"))(y:PE X e t)(m:c≠"__name__":=by decide)(n:(c==("__debug__":Str))=false:=by decide)
  (r:starEach [e] X.env=(false,eval e X.env)::starEach [] X.env:=by rfl) (A:(backTo P (starEach [] X.env)).any (·.1)=false:=by rfl):PI X tg (.Call (.Name c p) [e] [] P) (Ez X.K t):=by
 intro d s B H R I h
 refine Hu (zh I j k l ?_ m n)
 refine Hh ?_ r A
 rw[r]
 show wpAny _ _ (spliced ((false,eval e X.env)::backTo P (starEach [] X.env))) _ _ s
 refine Im (aQ (y d s B H _ I h) λu S z=>?_)
 obtain⟨x,C,g,D,a,v,E,F,q⟩:=z
 subst E
 cases (show u=Value.ref a from D)
 obtain⟨i,G,J,N⟩:=g.tuple F
 have f:=G.length
 have L:=dW
 refine II (oU (show IsTup S.heap a i.toArray from J) (by simp only[Gj];omega) ?_)
 have w:du (S.heap.push (revObj a i.toArray.size)) S.heap.objs.size a ((v.length:Int) - 1 - ((0:Nat):Int)):=#[_,Gm _ Z,Z,by rw[Gj,<- f];simp [revObj]]
 refine xX (s:={ S with heap:=S.heap.push (revObj a i.toArray.size),toks:=S.toks+1+1 }) w ?_
 refine#[S.heap.objs.size,[S.heap.objs.size],_,_,C,Z,g.kept (t':=S.toks+1+1) λb o e=>Gf _ e,uj a _ v.length,w,λb M=>?_,q]
 have e:b=S.heap.objs.size:=by simpa using M
 subst e
 exact g.fpOk (Gh _) (g.hok.fresh (Gh _))
end
theorem Xj{K:Frag}{xs:List V}{g:TG}{t:TS}{D:a9}(Pv:Nat->St->Hp->Prop)(k:Pv 0 b H)(l:∀i b H,i<=xs.length->Pv i b H->aw K H a xs)
  (n:∀E:a9,E.rt=D.rt->∀i x b H,xs.reverse[i]?=some x->(∀c f,Pv (i+1) c f->E.nx c f)->∀G:Prop,((g x b H λj o=>t E j o)->G)->Pv i b H->G) (r:∀b H,Pv xs.length b H->D.nx b H):oy (Ef K a xs.length) g t D b H:=by
 refine#[λi m b H=>m=xs.length - i/\i<=xs.length/\Pv i b H,#[xs.length,P5,Gp _,k],?_]
 rintro i m b H ⟨rfl,s,p⟩
 have q:=l i b H s p
 by_cases d:i < xs.length
 ·refine .inr #[#[xs,_,q,Z,Gc (by simpa using d)],Pv (i+1),λc f P=>#[xs.length - (i+1),P0,Z,d,P],λx f y=>?_]
  obtain⟨e,y⟩:=y
  subst e
  exact n { D with nx:=Pv (i+1),ct:=Pv (i+1),bk:=D.nx } Z i x b _ (y xs q) (λ_ _ h=>h) _ (λz=>z) p
 ·have e:i=xs.length:=by omega
  subst e
  exact .inl #[#[xs,q,Z,Z],r b H p]
theorem tM:Slot "list_reverseiterator" "__length_hint__" "list_reverseiterator.__length_hint__":=by
 refine Slot.of (owner:="list_reverseiterator") (n:="__length_hint__") (by rw[HP,Hk];kernel_rfl) P6 P6 P6 ?_ (by rw[Ig];kernel_rfl)
 first |exact .inl P6 |exact .inr P6
theorem ZL:typeLookup (.type "list_reverseiterator") "__len__"=pure none:=by rw[HP,Hk];kernel_rfl
theorem Bu:isSubtype (.type "list_reverseiterator") (.type "list_reverseiterator")=pure true:=by rw[Ig];kernel_rfl
section
variable {prog:Program}{w:World}{A:Around}{E:Value->Shared->Prop}{s:Shared}
theorem yQ(H:s.heap.IsRevIter I t k){Q:Bool->Shared->Prop}(h:Q false s):wpAny (model prog w) A (Builtin.List.listLengthHint (.ref I)) Q E s:=by
 unfold Builtin.List.listLengthHint
 refine Gb (Ij H.typeIs ZL ?_)
 show wpAny _ A (specialOf (Value.ref I) (Str.ofString "__length_hint__") >>= _) _ _ _
 refine Gb (Ij H.typeIs tM.lookup ?_)
 have e:splitId "list_reverseiterator.__length_hint__"=some ("list_reverseiterator","__length_hint__"):=by decide+kernel
 dsimp only
 rw[e]
 dsimp only
 refine Gb (IE (b:=true) H.typeIs Bu ?_)
 simp only[Lj,Gs,HW]
 rw[Gw P6,GG P6]
 exact Ge h
theorem oB{a:Array Value}{Q:List Value->Shared->Prop}(z:A.handled=none)(f:s.heap.IsRevIter I t ((a.size:Int) - 1))(r:s.heap.IsList t a)(B:t≠I)(C:a.size<=sizeLine)
  (D:∀S,(∀b o,b≠I->s.heap.get? b=some o->S.heap.get? b=some o)->s.heap.objs.size<=S.heap.objs.size->S.gens=s.gens->S.os=s.os->Q a.toList.reverse S):wpAny (model prog w) A (collect (.ref I)) Q E s:=by
 have j:I < s.heap.objs.size:=by obtain⟨o,k,_⟩:=f;exact Gk k
 have n:t < s.heap.objs.size:=by obtain⟨o,k,_⟩:=r;exact Gk k
 have u:I≠s.heap.objs.size:=Go j
 have F:t≠s.heap.objs.size:=Go n
 unfold collect
 refine Gb (No (HQ MG (by
  rw[Hr MF _]
  show wpAny _ A.in1 (newList [] >>= λl=>again (.builtin "list.__iadd__" #[[l,.ref I],[]])) _ _ s
  refine Gb (Hf (Ge #[IA IX _,HQ MX ?_]))
  rw[Hr IX _]
  generalize v:s.heap.push { cls:=.type "list",data:=.seq ([]:List Value).toArray }=H
  have J:H.get? s.heap.objs.size=some { cls:=.type "list",data:=.seq (List.toArray []) }:=by rw[<- v];exact Gm _ Z
  have G:∀b o,s.heap.get? b=some o->H.get? b=some o:=λb o e=>by rw[<- v];exact Gf _ e
  have h:H.IsRevIter I t ((a.size:Int) - 1):=f.at λo e=>G I o e
  have p:H.IsList t a:=r.at λo e=>G t o e
  show wpAny _ A.in1 (Builtin.List.listExtendWith (.ref s.heap.objs.size) (.ref I) (.ref s.heap.objs.size)) _ _ { s with heap:=H }
  unfold Builtin.List.listExtendWith
  refine Gb (Iq (s:={ s with heap:=H }) h.typeIs ?_)
  have K:Builtin.List.listSameRef (.ref s.heap.objs.size) (.ref I)=false:=by
   simp only[Builtin.List.listSameRef,beq_eq_false_iff_ne]
   exact G7 u
  have L:(Value.type "list_reverseiterator"==Value.type "list")=false:=by decide
  have M:(Value.type "list_reverseiterator"==Value.type "tuple")=false:=by decide
  simp only[K,L,M,Li,Gs,HW]
  refine Gb (wpAny_pyIter_revIter (s:={ s with heap:=H }) h (Gb (GN (yQ (s:={ s with heap:=H }) h ?_))))
  have N:¬s.heap.objs.size∈[I,t]:=by simp only[Iz,GU,Ma,not_or];exact#[G7 u,G7 F]
  rw[GG P6]
  refine Ge #[IA MK _,?_]
  have W:=(Walks.listRev (prog:=prog) (w:=w) (A:=A.in1) (by simpa using z) I t B a).toS
  refine Om W C _ N _ a.size 0 _ (List.toArray []) _ Z (Gp _) #[Gp _,by simpa using h,p] J (Oy _) λS d U m x c=>?_
  have O:d=a.toList.reverse.toArray:=by
   apply Array.ext'
   refine List.ext_getElem? λi=>?_
   by_cases y:i < a.size
   ·have g:i < d.size:=by rw[c.1];exact y
    have q:=c.2 i d[i] (by simp [g])
    rw[Ip,Iu g,<- q]
    show a[a.size - 1 - i]?=a.toList.reverse[i]?
    rw[Lh (by simpa using y)]
    simp
   ·rw[HF (by rw[GK,c.1];omega),HF (by simp;omega)]
  subst O
  show wpAny _ A (load s.heap.objs.size >>= _) _ _ S
  refine Gb (OE x (Ge ?_))
  have P:a.toList.reverse.toArray.toList=a.toList.reverse:=by simp
  rw[P]
  refine D S (λb o R e=>?_) ?_ m.gens m.os
  ·have T:b≠s.heap.objs.size:=Go (Gk e)
   exact m.heap b o (by simp only[Iz,GU,Ma,not_or];exact#[T,R]) (G b o e)
  ·exact IV (Gk x))))
end
section
variable {prog:Program}{w:World}{A:Around}{E:Value->Shared->Prop}{s:Shared}
theorem Q2{i:Array Value}{Q:Value->Shared->Prop}(f:A.handled=none)(H:s.heap.IsRevIter I t ((i.size:Int) - 1))(g:s.heap.IsList t i)(j:t≠I)(d:i.size<=sizeLine)
  (h:∀S:Shared,(∀b o,b≠I->s.heap.get? b=some o->S.heap.get? b=some o)->s.heap.objs.size<=S.heap.objs.size->S.gens=s.gens->S.os=s.os->
   Q (.ref S.heap.objs.size) { S with heap:=S.heap.push { cls:=.type "tuple",data:=.seq i.toList.reverse.toArray } }):
  codeAny (model prog w) A (.call (.builtin "tuple.__new__") #[[.type "tuple",.ref I],[]]) (wants Q E) s:=by
 refine Nf (show wpAny _ A.in1 (do checkBuiltinCall "tuple.__new__" #[[.type "tuple",.ref I],[]];again (.builtin "tuple.__new__" #[[.type "tuple",.ref I],[]])) _ _ s from ?_)
 refine Gb (LP (PySem.F.newCall_tuple_1 _) (Ge #[IA MV _,HQ PySem.F.entry_tuple_new (by
  rw[Hr MV _]
  have e:=sub_tuple_self
  have a:=init_tuple_lookup
  have l:=madeHere_tuple
  have c:=H.typeIs
  wp_walk using Iq c,oB (by simpa using f) H g j d
  intro S k z m n
  show wpAny _ _ (Builtin.Tuple.tupleExact i.toList.reverse.toArray >>= λv=>ret v) _ _ _
  unfold Builtin.Tuple.tupleExact
  exact Gb (Hf (Ge (h S k z m n)) (by show i.toList.reverse.toArray.size<=sizeLine;simpa using d)))]))
theorem Q3{items:Array Value}{Q:Value->Shared->Prop}(d:A.handled=none)(c:s.heap.IsRevIter I t ((items.size:Int) - 1))(e:s.heap.IsList t items)(f:t≠I)(g:items.size<=sizeLine)
  (h:∀a:Shared,(∀b o,b≠I->s.heap.get? b=some o->a.heap.get? b=some o)->s.heap.objs.size<=a.heap.objs.size->a.gens=s.gens->a.os=s.os->
   Q (.ref a.heap.objs.size) { a with heap:=a.heap.push { cls:=.type "tuple",data:=.seq items.toList.reverse.toArray } }):wpAny (model prog w) A (call (.type "tuple") [.ref I]) Q E s:=by
 refine PL (Q₁:=λO S=>S.TypeIs O "tuple"/\Q O S) PySem.F.called_tuple (PySem.F.typeCall_tuple_1 _) PySem.F.entry_object_init (Q2 (by simpa using d) c e f g λa k z i j=>#[#[_,Gm _ Z,Z],h a k z i j]) λO S H=>?_
 exact#[H.1,Ll O _,object_init_meets PySem.F.called_tuple.init.lookup PySem.F.called_tuple.made PZ prog w A.in1 _ S #[H.1,Z,H.2]]
end
section
variable {X:Cx}{e:Expr}{te:TE}{xl xr:Str}{p p2 pos pos2:Pos}
inductive mq(K:Frag)(Q:VK)(x:V)(b:Hp):Prop
 |mk(a c:_)(_:x= .ref a)(_:aH K b a c)(_:∀l,b l=none->Q (.ref l) (af b l (.tup c.reverse)))
def xo(K:Frag)(te:TE):TE:=λa H Q=>te a H (mq K Q)
theorem ZM(M:X.calm=true)(g:Gl X xl)(j:X.mg xl=none)(l:bootBuiltins xl=some (.type "tuple"))(m:Gl X xr)(n:X.mg xr=none)(r:bootBuiltins xr=some (.type "reversed"))(O:PE X e te)
  (t:xl≠"__name__":=by decide) (v:(xl==("__debug__":Str))=false:=by decide) (y:xr≠"__name__":=by decide) (A:(xr==("__debug__":Str))=false:=by decide)
  (E:starEach [.Call (.Name xr p2) [e] [] pos2] X.env=(false,eval (.Call (.Name xr p2) [e] [] pos2) X.env)::starEach [] X.env:=by rfl) (T:(backTo pos (starEach [] X.env)).any (·.1)=false:=by rfl)
  (F:starEach [e] X.env=(false,eval e X.env)::starEach [] X.env:=by rfl) (U:(backTo pos2 (starEach [] X.env)).any (·.1)=false:=by rfl):
  PE X (.Call (.Name xl p) [.Call (.Name xr p2) [e] [] pos2] [] pos) (xo X.K te):=by
 intro P s V H Q I h
 refine Hu (zh I g j l ?_ t v)
 refine Hh ?_ E T
 rw[E]
 show wpAny _ _ (spliced ((false,eval (.Call (.Name xr p2) [e] [] pos2) X.env)::backTo pos (starEach [] X.env))) _ _ s
 refine Im ?_
 refine Hu (zh I m n r ?_ y A)
 refine Hh ?_ F U
 rw[F]
 show wpAny _ _ (spliced ((false,eval e X.env)::backTo pos2 (starEach [] X.env))) _ _ s
 refine Im (aQ (O P s V H _ I h) λu d B=>?_)
 obtain⟨x,W,f,Y,a,G,ex,hq,q⟩:=B
 subst ex
 cases (show u=Value.ref a from Y)
 obtain⟨i,R,C,hz⟩:=f.list hq
 have J:=R.length
 refine II (call_reversed_list C.isList (II ?_))
 have D:a < d.heap.objs.size:=by obtain⟨o,ho,_⟩:=C.isList;exact Gk ho
 refine Q3 (s:={ d with heap:=d.heap.push (PySem.revObj a ((i.toArray.size:Int) - 1)) }) (items:=i.toArray) (I.ok.hd M) #[_,Gm _ Z,Z,Z] (C.isList.at λo e=>Gf _ e) (Go D)
  (by simp only[Gj];omega) λS k hl kg ko=>?_
 have c:d.heap.objs.size<=S.heap.objs.size:=Gr (by show _<=(d.heap.push _).objs.size;rw[Hl];exact Ic _) hl
 have L:∀b o,d.heap.get? b=some o->(S.heap.push { cls:=.type "tuple",data:=.seq i.toArray.toList.reverse.toArray }).get? b=some o:=λb o e=>Gf _ (k b o (Go (Gk e)) (Gf _ e))
 have hg:(S.heap.push { cls:=.type "tuple",data:=.seq i.toArray.toList.reverse.toArray }).get? S.heap.objs.size=some { cls:=.type "tuple",data:=.seq i.toArray.toList.reverse.toArray }:=Gm _ Z
 have N:aK X.prog X.w (af W S.heap.objs.size (.tup G.reverse)) (S.heap.push { cls:=.type "tuple",data:=.seq i.toArray.toList.reverse.toArray }) S.heap.objs.size (.tup G.reverse):=by
  refine#[by rw[NG];exact hz,i.reverse,ax.reverse R,?_]
  have ee:i.toArray.toList.reverse.toArray=i.reverse.toArray:=by simp
  rw[<- ee]
  exact#[_,hg,Z,_,Z]
 exact#[.ref S.heap.objs.size,_,f.call' (ch:=[]) ko (Un.laid L c (f.hok.fresh c)) (f.hok.laid L c N) (by show AllBare S.gens;rw[kg];exact f.bare) (λ_ z=>nomatch z),Z,q _ (f.hok.fresh c)]
end
section
variable {prog:Program}{w:World}{A:Around}{E:Value->Shared->Prop}{s:Shared}
theorem Kw{x:Value}{Q:Value->Shared->Prop}(a:s.heap.IsTupleIter J T i)(e:s.heap.IsTuple T I)(f:I[i]?=some x)
  (q:∀b,b.IsTupleIter J T (i+1)->Heap.SameBut J s.heap b->Q x { s with heap:=b }):wpAny (model prog w) A (Builtin.SmallTypes.nextOf (.ref J)) Q E s:=by
 obtain⟨o,H,g,h⟩:=id a
 obtain⟨O,c,_,n,d⟩:=e
 unfold Builtin.SmallTypes.nextOf
 refine Gb (Hd (name:=Str.ofString "__next__") a.typeIs Hz (Hi Hz a.typeIs I0 (show wpAny _ _ (field (.ref J) 0 >>= _) _ _ s from ?_) (IW _)))
 refine Gb (GL H h (x:=.ref T) Z (show wpAny _ _ (if (Value.ref T==Value.none)=true then _ else _) _ _ s from ?_))
 rw[GG (show ¬((Value.ref T==Value.none)=true) from Gn)]
 refine(show wpAny _ _ (field (.ref J) 1 >>= _) _ _ s from Gb (GL H h (x:=.int i 0) Z (show wpAny _ _ (seqItems? (.ref T) >>= _) _ _ s from Gb (Hs c d ?_))))
 simp only[Hq,f]
 refine Gb (Hm H h P5 (Ge #[x,Z,Ge (q _ #[_,Hc _ H (HG (GZ h _)),(Lg ..).trans g,by rw[GZ h];simp [rawInt]] (Ia ..))]))
theorem ZN(g:A.handled=none)(H:s.heap.IsTupleIter J T i)(j:s.heap.IsTuple T I)(l:I[i]?=none)
  (q:∀h e,Heap.ExtBut J s.heap h->Shared.TypeIs { s with heap:=h } e "StopIteration"->E e { s with heap:=h }):wpAny (model prog w) A (Builtin.SmallTypes.nextOf (.ref J)) Q E s:=by
 obtain⟨o,a,p,c⟩:=id H
 obtain⟨O,d,_,N,f⟩:=j
 unfold Builtin.SmallTypes.nextOf
 refine Gb (Hd (name:=Str.ofString "__next__") H.typeIs Hz (Hi Hz H.typeIs I0 (show wpAny _ _ (field (.ref J) 0 >>= _) _ _ s from ?_) (IW _)))
 refine Gb (GL a c (x:=.ref T) Z (show wpAny _ _ (if (Value.ref T==Value.none)=true then _ else _) _ _ s from ?_))
 rw[GG (show ¬((Value.ref T==Value.none)=true) from Gn)]
 refine(show wpAny _ _ (field (.ref J) 1 >>= _) _ _ s from Gb (GL a c (x:=.int i 0) Z (show wpAny _ _ (seqItems? (.ref T) >>= _) _ _ s from Gb (Hs d f ?_))))
 simp only[Hq,l]
 refine Gb (Iw (Gb (Hm a c P5 ?_)))
 refine JG (by simpa using g) λh e k t=>q h e (λb o m n=>k b o ?_) t
 exact(Gv _ _ (G7 m)).trans n
end
def gH(b:Bool)(h:Heap)(i l:Addr)(k:Nat):Prop:=match b with
 |true=>h.IsListIter i l k
 |false=>h.IsTupleIter i l k
def iy(b:Bool)(h:Heap)(l:Addr)(x:Array Value):Prop:=match b with
 |true=>h.IsList l x
 |false=>h.IsTuple l x
noncomputable def eZ:Bool->String
 |true=>"list_iterator"
 |false=>"tuple_iterator"
theorem gH.kp{b:Bool}{H:Heap}(x:gH b h i l k)(e:∀o,h.get? i=some o->H.get? i=some o):gH b H i l k:=by
 cases b
 ·exact OA x e
 ·obtain⟨o,a,r⟩:=x;exact#[o,e o a,r]
theorem iy.kp{b:Bool}{H:Heap}(x:iy b h l a)(e:∀o,h.get? l=some o->H.get? l=some o):iy b H l a:=by
 cases b
 ·obtain⟨o,c,r⟩:=x;exact#[o,e o c,r]
 ·exact PX x e
theorem gH.ob(x:gH b h i l k):∃o,h.get? i=some o/\o.cls= .type (eZ b)/\∀v,o.data≠ .cell v:=by
 cases b
 ·obtain⟨o,H,c,d⟩:=x;exact#[o,H,c,λv z=>by rw[d]at z;cases z]
 ·obtain⟨o,H,c,d⟩:=x;exact#[o,H,c,λv z=>by rw[d]at z;cases z]
section
variable {prog:Program}{w:World}{A:Around}{E:Value->Shared->Prop}{s:Shared}
theorem zP{Q:Value->Shared->Prop}(H:gH b s.heap J T i)(a:iy b s.heap T I)(c:I[i]?=some x)
  (q:∀h,gH b h J T (i+1)->Heap.SameBut J s.heap h->Q x { s with heap:=h }):wpAny (model prog w) A (Builtin.SmallTypes.nextOf (.ref J)) Q E s:=by
 cases b
 ·exact Kw H a c q
 ·exact wpAny_nextOf_list_item H a c q
theorem Qq(H:A.handled=none)(a:gH b s.heap J T i)(c:iy b s.heap T I)(d:I[i]?=none)
  (q:∀h e,Heap.ExtBut J s.heap h->Shared.TypeIs { s with heap:=h } e "StopIteration"->E e { s with heap:=h }):wpAny (model prog w) A (Builtin.SmallTypes.nextOf (.ref J)) Q E s:=by
 cases b
 ·exact ZN H a c d q
 ·exact wpAny_nextOf_list_end H a c d λh e k #[o,f,g]=>q h (.ref e) k #[o,f,g]
theorem xY{Q:Value->Shared->Prop}(h:iy b s.heap T i)
  (q:Q (.ref s.heap.objs.size) { s with heap:=s.heap.push { cls:=.type (eZ b),data:=.fields (List.toArray [.ref T,.int 0 0]) } }):wpAny (model prog w) A (pyIter (.ref T)) Q E s:=by
 cases b
 ·exact Ld h q
 ·exact LO h q
structure uU(z u v c d a b:Addr):Prop where
 uz:u≠z
 vz:v≠z
 cz:c≠z
 dz:d≠z
 uv:u≠v
 uc:u≠c
 ud:u≠d
 vc:v≠c
 vd:v≠d
 cd:c≠d
 az:a≠z
 av:a≠v
 ac:a≠c
 ad:a≠d
 bz:b≠z
 bv:b≠v
 bc:b≠c
 bd:b≠d
theorem xz{Q:Option Value->Shared->Prop}(D:uU z u v c d a b)
  (H:IsZip s.heap z u v .none) (hu:IsPair s.heap u (.ref c) (.ref d)) (hv:IsPair s.heap v p q) (h1:gH B s.heap c a k) (h2:gH C s.heap d b k) (g1:iy B s.heap a xs) (g2:iy C s.heap b ys) (hx:xs[k]?=some x) (hy:ys[k]?=some y)
  (hQ:∀h,IsZip h z u v (rawInt s.heap.objs.size)->IsPair h v x y->gH B h c a (k+1)->gH C h d b (k+1)->IsPair h s.heap.objs.size x y->h.objs.size=s.heap.objs.size+1->
   (∀e o,e≠z->e≠v->e≠c->e≠d->s.heap.get? e=some o->h.get? e=some o)->Q (some (.ref s.heap.objs.size)) { s with heap:=h }):wpAny (model prog w) A (pyNext (.ref z)) Q E s:=by
 have W:s.TypeIs (.ref z) "zip":=#[_,H,Z]
 unfold pyNext
 refine Gb (La (Hd (name:=Str.ofString "__next__") W HM (Hi HM W K' (show wpAny _ _ (field (.ref z) 2 >>= _) _ _ _ from ?_) (IY _))))
 refine Gb (GL H Z (x:=.bool false) Z (show wpAny _ _ (field (.ref z) 3 >>= _) _ _ _ from Gb (GL H Z (x:=.ref u) Z (Gb (Hs hu Z ?_)))))
 refine(show wpAny _ _ (Builtin.SmallTypes.ownedTupleIsFree (.ref z) >>= _) _ _ _ from Gb ?_)
 unfold Builtin.SmallTypes.ownedTupleIsFree
 refine Gb (GL H Z (x:=.none) Z (Ge ?_))
 simp only[Ln]
 refine Gb (Iw (Gb (GL H Z (x:=.ref v) Z (Gb (IJ H P5 λX F S=>?_)))))
 replace F:IsZip X z u v .ellipsis:=F
 refine Gb ?_
 simp only[Ob,On,IG,Lo]
 refine Gb (Gb (NC (show wpAny _ _ (Builtin.SmallTypes.nextOf (.ref c) >>= _) _ _ _ from ?_)))
 refine Gb (zP (s:={ s with heap:=X }) (h1.kp λo e=>S.extBut _ _ D.cz e) (g1.kp λo e=>S.extBut _ _ D.az e) hx λG i2 l=>Ge ?_)
 have Y:IsPair G v p q:=l.extBut _ _ D.vc (S.extBut _ _ D.vz hv)
 refine Gb (Hs (s:={ s with heap:=G }) Y Z (Gb (Og (s:={ s with heap:=G }) Y λI J r=>?_)))
 replace J:IsPair I v x q:=J
 refine Gb (Oi (Ge (Gb (Gb (NC (show wpAny _ _ (Builtin.SmallTypes.nextOf (.ref d) >>= _) _ _ _ from ?_))))))
 have K:∀e o,e≠z->e≠c->e≠v->s.heap.get? e=some o->I.get? e=some o:=λe o N f g w=>r.extBut _ _ g (l.extBut _ _ f (S.extBut _ _ N w))
 refine Gb (zP (s:={ s with heap:=I }) (h2.kp λo e=>K _ _ D.dz D.cd.symm D.vd.symm e) (g2.kp λo e=>K _ _ D.bz D.bc D.bv e) hy λL i4 i=>Ge ?_)
 have v4:IsPair L v x q:=i.extBut _ _ D.vd J
 refine Gb (Hs (s:={ s with heap:=L }) v4 Z (Gb (Og (s:={ s with heap:=L }) v4 λm V j=>?_)))
 replace V:IsPair m v x y:=V
 refine Gb (Oi (Ge (Ge (Gb (Hs (s:={ s with heap:=m }) V Z (Gb (Np ?_)))))))
 have e5:m.objs.size=s.heap.objs.size:=by rw[j.1,i.1,r.1,l.1,S.1]
 have k5:∀e o,e≠z->e≠v->e≠c->e≠d->s.heap.get? e=some o->m.get? e=some o:=λe o N f g O w=>j.extBut _ _ f (i.extBut _ _ O (K e o N g f w))
 have z5:IsZip m z u v .ellipsis:=j.extBut _ _ D.vz.symm (i.extBut _ _ D.dz.symm (r.extBut _ _ D.vz.symm (l.extBut _ _ D.cz.symm F)))
 have j1:gH B m c a (k+1):=i2.kp λo e=>j.extBut _ _ D.vc.symm (i.extBut _ _ D.cd (r.extBut _ _ D.vc.symm e))
 have j2:gH C m d b (k+1):=i4.kp λo e=>j.extBut _ _ D.vd.symm e
 have lz:z < m.objs.size:=Gk z5
 refine(show wpAny _ _ (Builtin.SmallTypes.ownedTupleHandOut (.ref z) (.ref m.objs.size) >>= _) _ _ _ from Gb ?_)
 unfold Builtin.SmallTypes.ownedTupleHandOut
 have z6:IsZip (m.push { cls:=.type "tuple",data:=.seq (List.toArray [x,y]) }) z u v .ellipsis:=Gf _ z5
 refine Gb (IJ z6 P5 λm7 P R=>?_)
 replace P:IsZip m7 z u v (rawInt m.objs.size):=P
 refine IJ P P5 λM t T=>?_
 replace t:IsZip M z u v (rawInt m.objs.size):=t
 have U:∀e o,e≠z->m.get? e=some o->M.get? e=some o:=λe o n w=>T.extBut _ _ n (R.extBut _ _ n (Gf _ w))
 have t8:IsPair M m.objs.size x y:=T.extBut _ _ (Hn lz) (R.extBut _ _ (Hn lz) (Gm _ Z))
 have e8:M.objs.size=m.objs.size+1:=by rw[T.1,R.1,Hl]
 rw[e5]at t t8 e8
 refine Ge #[_,Z,Ge ?_]
 show Q (some (.ref m.objs.size)) _
 rw[e5]
 exact hQ M t (U _ _ D.vz V) (j1.kp λo e=>U _ o D.cz e) (j2.kp λo e=>U _ o D.dz e) t8 e8 λe o N f g O w=>U e o N (k5 e o N f g O w)
theorem BJ{b2:Bool}{ys:Array Value}{p q:Value}{Q:Option Value->Shared->Prop}(C:A.handled=none)(D:uU z u v c d a b)
  (h:IsZip s.heap z u v .none) (F:IsPair s.heap u (.ref c) (.ref d)) (G:gH I s.heap c a k) (J:iy I s.heap a L) (K:L[k]?=none)
  (O:∀H,(∀e o,e≠z->e≠v->e≠c->e≠d->s.heap.get? e=some o->H.get? e=some o)->Q none { s with heap:=H }):wpAny (model prog w) A (pyNext (.ref z)) Q E s:=by
 have g:s.TypeIs (.ref z) "zip":=#[_,h,Z]
 unfold pyNext
 refine Gb (La (Hd (name:=Str.ofString "__next__") g HM (Hi HM g K' (show wpAny _ _ (field (.ref z) 2 >>= _) _ _ _ from ?_) (IY _))))
 refine Gb (GL h Z (x:=.bool false) Z (show wpAny _ _ (field (.ref z) 3 >>= _) _ _ _ from Gb (GL h Z (x:=.ref u) Z (Gb (Hs F Z ?_)))))
 refine(show wpAny _ _ (Builtin.SmallTypes.ownedTupleIsFree (.ref z) >>= _) _ _ _ from Gb ?_)
 unfold Builtin.SmallTypes.ownedTupleIsFree
 refine Gb (GL h Z (x:=.none) Z (Ge ?_))
 simp only[Ln]
 refine Gb (Iw (Gb (GL h Z (x:=.ref v) Z (Gb (IJ h P5 λm f S=>?_)))))
 replace f:IsZip m z u v .ellipsis:=f
 refine Gb ?_
 simp only[Ob,On,IG,Lo]
 refine Gb (Gb (NC (show wpAny _ _ (Builtin.SmallTypes.nextOf (.ref c) >>= _) _ _ _ from ?_)))
 refine Gb (Qq (s:={ s with heap:=m }) (by simpa using C) (G.kp λo e=>S.extBut _ _ D.cz e) (J.kp λo e=>S.extBut _ _ D.az e) K λM e i j=>?_)
 have l:IsZip M z u v .ellipsis:=i _ _ D.cz.symm f
 refine IJ (s:={ s with heap:=M }) l P5 λn U r=>?_
 have t:Shared.TypeIs { s with heap:=n } e "StopIteration":=by
  cases e with
  |ref x=>
   obtain⟨o,y,B⟩:=j
   have P:x≠z:=λw=>by
    subst w
    have:=y.symm.trans l
    cases this
    injection B with w
    exact absurd w PZ
   exact#[o,r.extBut _ _ P y,B]
  |_=>exact j
 exact Gb (IE (T:="StopIteration") (b:=true) t Ms (Ge (O n λe o N V R W w=>r.extBut _ _ N (i _ _ R (S.extBut _ _ N w)))))
theorem BK{b1 b2:Bool}{xs ys:Array Value}{Q:Value->Shared->Prop}(J:iy b1 s.heap a xs)(L:iy b2 s.heap b ys)
  (h:∀H,IsZip H (s.heap.objs.size+4) (s.heap.objs.size+2) (s.heap.objs.size+3) .none->IsPair H (s.heap.objs.size+2) (.ref s.heap.objs.size) (.ref (s.heap.objs.size+1))->
   IsPair H (s.heap.objs.size+3) .none .none->gH b1 H s.heap.objs.size a 0->gH b2 H (s.heap.objs.size+1) b 0->(∀e o,s.heap.get? e=some o->H.get? e=some o)->Q (.ref (s.heap.objs.size+4)) { s with heap:=H }):
  wpAny (model prog w) A (call (.type "zip") [.ref a,.ref b]) Q E s:=by
 refine NY (S:=λ_ R c=>c=s/\R (.ok (.ret (.ref (s.heap.objs.size+4)))) { s with heap:=((((s.heap.push { cls:=.type (eZ b1),data:=.fields (List.toArray [.ref a,.int 0 0]) }).push { cls:=.type (eZ b2),data:=.fields (List.toArray [.ref b,.int 0 0]) }).push { cls:=.type "tuple",data:=.seq (List.toArray [.ref s.heap.objs.size,.ref (s.heap.objs.size+1)]) }).push { cls:=.type "tuple",data:=.seq (List.toArray [.none,.none]) }).push { cls:=.type "zip",data:=.fields (List.toArray [.none,.bool false,.bool false,.ref (s.heap.objs.size+2),.ref (s.heap.objs.size+3)]) } })
  PySem.F.called_zip PZ (PySem.F.typeCall_zip_2 _ _) (PySem.F.newCall_zip_2 _ _) (λO=>PySem.F.args_object_init_3 O _ _) PySem.F.entry_zip_new (.of_wp λp w' A' R c P=>?_) #[Z,?_]
 ·obtain⟨rfl,q⟩:=P
  obtain⟨r,g,D,t,os⟩:=c
  have u:=sub_zip
  have T:iy b1 (Shared.heap #[r,g,D,t,os]) a xs:=J
  have _L:iy b2 (Shared.heap #[r.push { cls:=.type (eZ b1),data:=.fields (List.toArray [.ref a,.int 0 0]) },g,D,t,os]) b ys:=L.kp λo e=>Gf _ e
  wp_walk using xY T,xY _L
  refine#[_,Z,?_]
  simp only[Hl]at q ⊢
  exact q
 ·have z (h:Heap) (o:Obj):(h.push o).objs.size=h.objs.size+1:=Hl ..
  generalize d:s.heap.push { cls:=.type (eZ b1),data:=.fields (List.toArray [.ref a,.int 0 0]) }=M
  generalize f:M.push { cls:=.type (eZ b2),data:=.fields (List.toArray [.ref b,.int 0 0]) }=i
  generalize j:i.push { cls:=.type "tuple",data:=.seq (List.toArray [.ref s.heap.objs.size,.ref (s.heap.objs.size+1)]) }=k
  generalize l:k.push { cls:=.type "tuple",data:=.seq (List.toArray [.none,.none]) }=n
  generalize v:n.push { cls:=.type "zip",data:=.fields (List.toArray [.none,.bool false,.bool false,.ref (s.heap.objs.size+2),.ref (s.heap.objs.size+3)]) }=m
  have N:M.objs.size=s.heap.objs.size+1:=by rw[<- d,z]
  have x:i.objs.size=s.heap.objs.size+2:=by rw[<- f,z,N]
  have y:k.objs.size=s.heap.objs.size+3:=by rw[<- j,z,x]
  have U:n.objs.size=s.heap.objs.size+4:=by rw[<- l,z,y]
  have K:∀e o,n.get? e=some o->m.get? e=some o:=λe o w=>by rw[<- v];exact Gf _ w
  have B:∀e o,k.get? e=some o->m.get? e=some o:=λe o w=>K e o (by rw[<- l];exact Gf _ w)
  have C:∀e o,i.get? e=some o->m.get? e=some o:=λe o w=>B e o (by rw[<- j];exact Gf _ w)
  have G:∀e o,M.get? e=some o->m.get? e=some o:=λe o w=>C e o (by rw[<- f];exact Gf _ w)
  have V:∀e o,s.heap.get? e=some o->m.get? e=some o:=λe o w=>G e o (by rw[<- d];exact Gf _ w)
  have I:IsZip m (s.heap.objs.size+4) (s.heap.objs.size+2) (s.heap.objs.size+3) .none:=by rw[<- U,<- v];exact Gm _ Z
  have W:IsPair m (s.heap.objs.size+3) .none .none:=K _ _ (by rw[<- y,<- l];exact Gm _ Z)
  have X:IsPair m (s.heap.objs.size+2) (.ref s.heap.objs.size) (.ref (s.heap.objs.size+1)):=B _ _ (by rw[<- x,<- j];exact Gm _ Z)
  have Y:m.get? (s.heap.objs.size+1)=some { cls:=.type (eZ b2),data:=.fields (List.toArray [.ref b,.int 0 0]) }:=C _ _ (by rw[<- N,<- f];exact Gm _ Z)
  have q1:m.get? s.heap.objs.size=some { cls:=.type (eZ b1),data:=.fields (List.toArray [.ref a,.int 0 0]) }:=G _ _ (by rw[<- d];exact Gm _ Z)
  refine#[#[_,I,Z],h m I X W ?_ ?_ V]
  ·cases b1<;>exact#[_,q1,Z,Z]
  ·cases b2<;>exact#[_,Y,Z,Z]
end
theorem xA(n a b:Nat)(h:a < n)(H:b < n):uU (n+4) (n+2) (n+3) n (n+1) a b:=by
 refine#[?_,?_,?_,?_,?_,?_,?_,?_,?_,?_,?_,?_,?_,?_,?_,?_,?_,?_]<;>(show(_:Nat)≠_;omega)
section
variable {prog:Program}{w:World}{A:Around}{E:Value->Shared->Prop}
theorem xJ(h:l≠J):∀(n i:Nat) (s:Shared) (Q:List Value->Shared->Prop),s.heap.IsListIter J l i->s.heap.IsList l I->i+n<=I.size->
  (∀a,a.IsListIter J l (i+n)->Heap.SameBut J s.heap a->Q ((I.toList.drop i).take n) { s with heap:=a })->wpAny (model prog w) A (draw (.ref J) n) Q E s
 |0,i,s,Q,b,_,_,q=>show wpAny _ _ (pure []) Q E s from Ge (by simpa using q s.heap b (M7 ..))
 |n+1,i,s,Q,b,c,d,q=>by
  have H:i < I.size:=by omega
  refine(show wpAny _ _ (pyNext (.ref J) >>= _) Q E s from Gb (NQ b c (x:=I[i]) (by simp [H]) λm j S=>?_))
  refine Gb (GN (xJ h n (i+1) _ _ j (c.extBut S.extBut h) P0 λf g k=>Ge ?_))
  have e:=q f (by rw[show i+(n+1)=i+1+n by omega];exact g) (S.trans k)
  rwa [show I.toList.drop i=I[i]::I.toList.drop (i+1) by simp [List.drop_eq_getElem_cons,H],List.take_succ_cons]at e
theorem xp{s:Shared}{Q:List Value->Shared->Prop}(f:A.handled=none)(h:s.heap.IsList l i)(a:i.size=n)
  (q:∀c,Heap.ExtBut s.heap.objs.size s.heap c->Q i.toList { s with heap:=c }):wpAny (model prog w) A (unpackItems (.ref l) n none) Q E s:=by
 have H:l≠s.heap.objs.size:=by obtain⟨o,g,_⟩:=h;exact Go (Gk g)
 unfold unpackItems
 refine Gb ?_
 unfold notIterableAtAll
 refine Gb (Ij h.typeIs slot_list_iter.lookup ?_)
 refine Ge ?_
 simp only[Gs,HW]
 refine Gb (GN (LO h ?_))
 have I:(s.heap.push { cls:=.type "list_iterator",data:=.fields (List.toArray [.ref l,.int 0 0]) }).IsListIter s.heap.objs.size l 0:=#[_,Gm _ Z,Z,Z]
 refine Gb (GN (xJ H n 0 _ _ I (h.push _) P0 λj J S=>?_))
 have k:(i.toList.drop 0).take n=i.toList:=by rw[Ox,Ii (by simp [a])]
 rw[k,GG (by simp [a])]
 have L:j.IsList l i:=(h.push _).extBut S.extBut H
 refine Gb (GN (N9 f J L (by simp [a]) λm p=>?_))
 simp only[Option.isSome_none,Gs,HW]
 exact Ge (q m λb o d e=>p b o d (S.extBut b o d (Gf _ e)))
end
section
variable {X:Cx}{pos:Pos}
inductive Ey(K:Frag)(n:Nat)(t:uT)(v:V)(c:St)(H:Hp)(Q:St->Hp->Prop):Prop
 |mk(a b:_)(_:v= .ref a)(_:aH K H a b)(_:b.length=n)(_:t b c H Q)
theorem YU{E:List Expr}{k n:Nat}{t:uT}(g:X.calm=true)(h:BO X E t)
  (i:(assignEach E X.env).length=n:=by rfl) (c:(assignEach E X.env).findIdx? (·.1)=none:=by rfl):PG X (.Tuple E k pos) (Ey X.K n t):=by
 intro P s f H v u Q I r d
 obtain⟨a,x,j,l,m,d⟩:=d
 subst j
 cases r
 obtain⟨q,R,p,A⟩:=I.list l
 rw[assign_Tuple]
 refine Gb (IN ?_)
 unfold unpack
 rw[i,c]
 refine Gb (GN (xp (I.ok.hd g) p.isList (by simp [<- m,R.length]) λw y=>?_))
 have z:ap X P f H { s with heap:=w }:=I.kept (t':=s.toks) λb o e=>y b o (Go (Gk e)) e
 exact h P _ f H x _ Q z (by simpa using R) d
inductive tU(K:Frag)(i j k:Nat)(D:a9)(f:St)(x:V)(b:Hp):Prop
 |mk(a c d e:_)(_:x= .ref a)(_:aw K b a [c,d,e])(_:D.nx (((f.set k (some e)).set j (some d)).set i (some c)) b)
def yj(K:Frag)(t:TE)(i j k:Nat):TS:=λD a H=>t a H (tU K i j k D a)
theorem wt{t e:Expr}{T:TE}{x y z:Str}{i j k:Nat}(n:X.calm=true)(c:X.N.Nodup)(w:X.N[i]?=some x)(A:X.N[j]?=some y)(B:X.N[k]?=some z)(L:oO X.env.scope x)(C:oO X.env.scope y)(E:oO X.env.scope z)(F:PE X e T)
  (G:X.fn x=true∨X.env.scope.names.lookup x=some .local:=by first |exact .inl Z |exact .inr Z) (J:X.fn y=true∨X.env.scope.names.lookup y=some .local:=by first |exact .inl Z |exact .inr Z) (M:X.fn z=true∨X.env.scope.names.lookup z=some .local:=by first |exact .inl Z |exact .inr Z)
  (O:swapsWithSole [t] e pos.line X.env=pure false:=by rfl) (P:swappedStores [t] e X.env=pure (some [x,y,z]):=by rfl):PS X (.Assign [t] e pos) (yj X.K T i j k):=by
 intro p s f H D I h
 rw[exec_Assign_arm]
 refine Gb (IN ?_)
 rw[O]
 refine Gb (Ge ?_)
 rw[GG PZ]
 refine Gb (aQ (F p s f H _ I h) λv S d=>?_)
 obtain⟨xv,g,l,R,a,v1,v2,v3,Q,V,q⟩:=d
 rw[P]
 refine Gb (Ge ?_)
 subst Q
 cases R
 obtain⟨W,r,Y,hz⟩:=l.tuple V
 cases r with
 |cons q1 r=>
  cases r with
  |cons q2 r=>
   cases r with
   |cons q3 r=>
    cases r
    rename_i u U m
    unfold assignStores
    refine Gb (Iw (Gb (wpAny_unpackItems_tuple (items:=(List.toArray [u,U,m])) (I.ok.hd n) Y λh' hx=>?_)))
    have I2:ap X p f g { S with heap:=h' }:=l.kept (t':=S.toks) λb o e=>hx b o (Go (Gk e)) e
    refine Gb ?_
    show wpAny _ _ (assignInOrder [λv=>bindName X.env z v,λv=>bindName X.env y v,λv=>bindName X.env x v] [m,U,u]) _ _ _
    refine Gb (GN (Nu (zk I2 c B E q3 (λs2 I3=>?_) M)))
    refine Gb (GN (Nu (zk I3 c A C q2 (λs3 I4=>?_) J)))
    refine Gb (GN (Nu (zk I4 c w L q1 (λs4 I5=>?_) G)))
    exact Ge (Ge #[_,g,I5,q])
end
theorem vk(l b:Addr)(I i:Array Value)(n N:Nat)(D:Option Addr)(S:Array (Option Value))(e:¬(!I.isEmpty&&Builtin.List.listTooLong (I.size+i.size))=true)(W:I.size<=sizeLine)(a:I.size+i.size<=sizeLine+1):
  Meets (Builtin.«list.extend» #[[.ref l,.ref b],[]]) (λ_ R s=>s.heap.get? l=some { cls:=.type "list",dict:=none,data:=.seq I n,slots:=(List.toArray []) }/\s.heap.get? b=some #[.type "tuple",D,.seq i N,S]/\R (.ok (.ret Value.none)) { s with heap:=s.heap.update l (Obj.mapSeq λx=>x++i),toks:=s.toks }):=by
 refine OS λp w A R s h=>?_
 obtain⟨f,g,d,t,os⟩:=s
 obtain⟨H,c,h⟩:=h
 have F:=AutoSeq1.idx_int
 have j:=AutoSeq1.sub_tuple_tuple
 have k:=AutoSeq1.sub_list_list
 have m:=AutoSeq1.sub_tuple_list
 have o:=AutoSeq1.sub_list_tuple
 have hz:(I++i).size<=sizeLine+1:=by rw[Mv];exact a
 wp_walk using (Ml H Z (hz:=W) (_hz':=hz)),HX H,HX c
 exact#[_,Z,h]
section
variable {X:Cx}
inductive gX(K:Frag)(x:V)(a:List V)(H:Hp)(Q:VK):Prop
 |mk(l b c d:_)(_:x= .ref l)(_:a=[.ref b])(_:H l=some (.lst c))(_:aw K H b d)(_:c.length+d.length<=sizeLine)(_:Q .non (af H l (.lst (c++d))))
theorem Yp:Cc X "list.extend" (gX X.K):=by
 intro p s A H x V v U Q I g j h
 obtain⟨l,b,B,C,rfl,rfl,f,k,D,q⟩:=h
 cases g
 obtain⟨u,rfl,m⟩:=j.one
 cases m
 obtain⟨z,a,n,r,E,e⟩:=I.lstM f
 obtain⟨i,R,P,F⟩:=I.tuple k
 have o:=R.length
 have d:a.toArray.size+i.toArray.size<=sizeLine:=by rw[Gj,Gj];omega
 have c:¬(!a.toArray.isEmpty&&Builtin.List.listTooLong (a.toArray.size+i.toArray.size))=true:=by
  rw[fb d,Mj]
  exact Gn
 obtain⟨⟨G,O,J,S⟩,t,w,N,y⟩:=P
 cases w
 cases y
 refine MH Oq #[_,e,Z] Of (N6 _ _) (vk l b a.toArray i.toArray n N O S c (by rw[Gj];omega) P0) #[e,t,?_]
 refine#[.non,_,I.lset (its':=a++i) f e P5 (r.append R) (by rw[Gi];omega),Z,q]
end
section
variable {prog:Program}{w:World}{A:Around}{E:Value->Shared->Prop}{s:Shared}
theorem q8{R:Result->Shared->Prop}{P:Nat->Value->Prop}{St:Nat->Shared->Prop}
  (W:WalksS prog w A.in1 I N j G n P St) (S:Addr) (H:¬S∈N) (c:List Str) (O:c.length=n) (Q:∀i v,P i v->∃x t,c[i]?=some x/\v= .str x t) (d:∀L:List Str,L.Nodup->(∀x∈L,x∈c)->L.length+1 < scanBound):
  ∀(k i:Nat) (s:Shared) (L:List Str),n - i=k->i<=n->St i s->cj prog w s.heap S L->(∀x,x∈L↔x∈c.take i)->L.length<=i->
   (∀a l,Moved (S::j) G s a->cj prog w a.heap S l->(∀x,x∈l↔x∈c)->l.length<=n->R (.ok (.ret .none)) a)->
   codeAny (model prog w) A (.builtin "set.update.loop" #[[.ref S,.ref I],[]]) R s:=by
 have f:¬S∈j:=λz=>H (W.sub _ z)
 have sub:∀b∈j,b∈S::j:=λb z=>GJ _ z
 intro k
 induction k with
 |zero=>
  intro i s L T U st p q F r
  have e:i=n:=by omega
  subst e
  refine HQ Lw ?_
  rw[Hr IF]
  show wpAny _ A.in1 (pyNext (.ref I) >>= _) _ _ s
  refine Gb (W.done s _ _ st λa m=>?_)
  show wpAny _ A.in1 (ret Value.none) _ _ a
  refine Ge (r a L (m.mono sub) (p.at λo e=>m.heap S o f e) (λx=>?_) F)
  rw[q x,<- O,Ho]
 |succ k V=>
  intro i s L T U st p q F r
  have J:i < n:=by omega
  refine HQ Lw ?_
  rw[Hr IF]
  show wpAny _ A.in1 (pyNext (.ref I) >>= _) _ _ s
  refine Gb (W.item i s _ _ J st λv a X u m=>?_)
  obtain⟨x,t,B,rfl⟩:=Q i v X
  show wpAny _ A.in1 (holding [Value.str x t] (setAdd S (.str x t)) >>= _) _ _ a
  refine Gb (GN ?_)
  have h:L.Nodup:=by obtain⟨_,_,_,_,_,_,_,_,_,h,_⟩:=p;exact h
  refine XE (p.at λo e=>m.heap S o f e) (d L h λx B=>Ht ((q x).mp B)) λb h' Y K S2 g=>?_
  refine Ge #[IA IF _,V (i+1) _ _ P0 J (W.frame _ a _ _ u g λb d o e=>?_) S2 (λy=>?_) ?_ λC l M D q1 q2=>?_]
  ·rw[K.2 b (λz:b=S=>H (by rw[<- z];exact d))];exact e
  ·have tk:c.take (i+1)=c.take i++[x]:=by rw[IP,B];rfl
   rw[tk,I8,Mp,<- q y]
   split
   ·rename_i hm
    exact#[.inl,λz=>z.elim id λe=>e▸hm]
   ·rw[I8,Mp]
  ·split
   ·omega
   ·rw[Gi,IH];omega
  ·refine r C l (Moved.trans W.gtrans ((m.mono sub).then_heap g λb o d e=>?_) M) D q1 q2
   rw[K.2 b (λz:b=S=>d (by rw[z];exact GF))];exact e
end
section
variable {prog:Program}{w:World}{A:Around}{E:Value->Shared->Prop}{s:Shared}
set_option maxHeartbeats 3200000 in
theorem JD{Q:Value->Shared->Prop}
  (hh:A.handled=none) (hl:s.heap.IsList l I) (hi:StrsAre I.toList n) (C:∀L:List Str,L.Nodup->(∀x∈L,x∈n)->L.length+1 < scanBound)
  (h:∀(a:Heap) (t:Nat) L,cj prog w a s.heap.objs.size L->(∀x,x∈L↔x∈n)->L.length<=I.size->
   (∀b o,b < s.heap.objs.size->s.heap.get? b=some o->a.get? b=some o)->s.toks<=t->Q (.ref s.heap.objs.size) { s with heap:=a,toks:=t }):
  wpAny (model prog w) A (call (.type "set") [.ref l]) Q E s:=by
 obtain⟨c,tl,m1⟩:=PySem.F.called_set.mro
 have m0:=PySem.F.called_set.made
 have sb:=PySem.F.called_set.sub
 refine Nt (Nf ?_)
 show wpAny _ _ (callAny (.type "set") _) _ _ _
 refine Ge #[Code.quiet_builtin _ P6,HQ PySem.F.entry_type_call ?_]
 rw[Around.under_plain (weight_type_call_type "set" [.ref l] []) Z]
 have n1:=PySem.F.called_set.notType
 have n2:=PySem.F.called_set.canCreate
 have ct:=PySem.F.typeCall_set_1 (.ref l)
 repeat (any_goals (first |assumption |wp_step))
 refine IK (KN (.ref l) (E:=E) (G:=λv S=>v= .ref s.heap.objs.size/\S={ s with heap:=s.heap.push (bp w) }) #[Z,Z]) λr S D=>?_
 cases r with
 |error e=>exact D
 |ok fl=>
  cases fl with
  |ret o2=>
   obtain⟨rfl,rfl⟩:=D
   have J:(s.heap.push (bp w)).get? s.heap.objs.size=some (bp w):=Gm _ Z
   have hT:Shared.TypeIs { s with heap:=s.heap.push (bp w) } (.ref s.heap.objs.size) "set":=#[_,J,Z]
   have li:=PySem.F.called_set.init.lookup
   have bi:=PySem.F.called_set.init.bind (.ref s.heap.objs.size)
   repeat (any_goals (first |assumption |wp_step))
   refine IK (codeAny_call_builtin (R:=wants (λr d=>r= .none/\∃a t L,d={ s with heap:=a,toks:=t }/\cj prog w a s.heap.objs.size L/\(∀x,x∈L↔x∈n)/\L.length<=I.size/\
     (∀b o,b < s.heap.objs.size->s.heap.get? b=some o->a.get? b=some o)/\s.toks<=t) E) PySem.F.called_set.init.plain PySem.F.entry_set_init (check_set_init_1 hT ?_)) λp d H=>?_
   ·obtain⟨ol,q,u,nl,y⟩:=hl
    obtain⟨o1,g,K,O⟩:=ol
    simp only at u y
    subst u
    subst y
    have f:(s.heap.push (bp w)).get? l=some { cls:=.type "list",dict:=g,data:=.seq I nl,slots:=O }:=Gf _ q
    have ns:=PySem.F.sub_list_set
    have nf:=PySem.F.sub_list_frozenset
    have ne:(Value.type "list"==Value.type "dict")=false:=by decide
    have j:(s.heap.push (bp w)).IsList l I:=#[_,f,Z,nl,Z]
    unfold bp at J hT f j ⊢
    unfold Builtin.«set.__init__» noKeywords Builtin.Frozenset.updateFrom
    generalize M:pyIter=PI
    wp_walk
    subst M
    refine LO j ?_
    refine Gb (No ?_)
    have z:l < s.heap.objs.size:=Gk q
    have h3:A.in1.in1.in1.handled=none:=by simp [hh]
    have N:l≠(s.heap.push (bp w)).objs.size:=by rw[Hl];exact Go (IL z)
    have P:¬s.heap.objs.size∈[(s.heap.push (bp w)).objs.size,l]:=by
     rw[Hl]
     simp only[Iz,GU,Ma,not_or]
     exact#[Go (HR _),Hn z]
    have B:n.length=I.size:=by rw[_L.StrsAre.len hi,GK]
    refine q8 ((Walks.list h3 _ l N I).toS) s.heap.objs.size P n B (λi v hv=>StrsAre.at' hi i v (by rw[Ip];exact hv)) C (I.size - 0) 0 _ [] P0 (Gp _)
     #[#[_,Gm _ Z,Z,Z],j.push _] (XF (Gf _ J)) (λx=>by simp) (Gh _) λs' L m T U V=>?_
    obtain⟨a,g',d',W,X⟩:=s'
    have eg:g'=s.gens:=m.gens
    have ed:d'=s.drawn:=m.drawn
    have eo:X=s.os:=m.os
    subst eg
    subst ed
    subst eo
    show wpAny _ _ _ _ _ _
    refine Ge ?_
    show wpAny _ _ (ret Value.none) _ _ _
    refine Ge #[Z,a,W,L,Z,T,U,V,λb o C e=>?_,m.toks]
    have b1:b≠s.heap.objs.size:=Go C
    have b2:b≠(s.heap.push (bp w)).objs.size:=by rw[Hl];exact Go (IL C)
    exact m.heap b o (by simp only[Iz,GU,Ma,not_or];exact#[b1,b2]) (Gf _ (Gf _ e))
   ·cases p with
    |error e=>exact H
    |ok k=>
     cases k with
     |ret r=>
      obtain⟨rfl,a,t,L,rfl,T,U,V,Y,q3⟩:=H
      repeat (any_goals (first |assumption |wp_step))
      exact h _ _ _ T U V Y q3
     |_=>exact H.elim
  |_=>exact D.elim
end
section
variable {X:Cx}
theorem qy(m:X.calm=true):dR X (.type "set") (λg H Q=>∃(p:Addr) (S:List Str),g=[.ref p]/\aH X.K H p (S.map V.str)/\(∀L:List Str,L.Nodup->(∀x∈L,x∈S)->L.length+1 < scanBound)/\
  ∀l L,H l=none->L.Nodup->(∀x,x∈L↔x∈S)->Q (.ref l) (af H l (D5 X.prog X.w l L))):=by
 intro P s B H g U Q I r h
 obtain⟨p,S,rfl,n,t,q⟩:=h
 obtain⟨u,rfl,R⟩:=eJ r
 cases R
 obtain⟨i,v,y,C⟩:=I.list n
 have j:=zO v
 have D:i.length=S.length:=(_L.StrsAre.len j).symm
 refine JD (I.ok.hd m) y.isList (by simpa using j) t λc T L d z E k _=>?_
 have a:L.Nodup:=by obtain⟨_,_,_,_,_,_,_,_,_,a,_⟩:=d;exact a
 have A:∀b o,s.heap.get? b=some o->c.get? b=some o:=λb o e=>k b o (Gk e) e
 obtain⟨o,f⟩:∃o,c.get? s.heap.objs.size=some o:=let #[o,_,_,_,f,_]:=d;#[o,f]
 exact#[.ref s.heap.objs.size,_,I.laid A (Gh _) (show aK X.prog X.w _ c _ (D5 X.prog X.w s.heap.objs.size L) from #[d,#[o,f],λF G x e=>cj.at x e]),Z,q _ _ (I.hok.fresh (Gh _)) a z]
end
section
variable {X:Cx}{CX:nB}{k:Nat}{f C:Addr}{fd:FuncData}{ps:List Str}{sp:Sp}{dvs:List V}{ds:List Value}{E:XK}{x m:Str}{p pos apos:Pos}{e:Expr}{es:List Expr}{t:TA}
structure oM(K:Frag)(C:Addr)(m:Str)(f:Addr):Prop where
 rd:PySem.W.readsIn K C (.type "type")=true
 ga:specialIn K (.ref C) "__getattribute__"=some (some (.builtin "type.__getattribute__"))
 at_:PySem.W.findCls K (.ref C) (.type "type") m=some (.val (.ref f))
 kp:keepIn K (.ref f)=true
theorem YV{pl:Sem Bool}(j:Gl X x)(l:X.mg x=some (.ref C))(M:oM X.K C m f)(F:ah X.prog X.w X.K X.mg X.base CX k f fd ps sp)(n:bH k X.A)(q:au X.K fd ps ds)(u:ax dvs ds)(v:dj CX X E)(y:PA X (e::es) t)
  (a:(x==("__debug__":Str))=false:=by decide)
  (c:starEach (e::es) X.env=(false,eval e X.env)::starEach es X.env:=by rfl) (d:(backTo pos (starEach es X.env)).any (·.1)=false:=by rfl)
  (z:eval (.Call (.Attribute (.Name x p) m apos) (e::es) [] pos) X.env=(do
   let O <- eval (.Name x p) X.env
   standAt apos.atName
   let (f,first) <- holding [O] (getMethod O m pl)
   callWith pos f first (backTo pos (starEach (e::es) X.env)) (backToKw pos (keywordEach [] X.env))):=by rfl):
  PE X (.Call (.Attribute (.Name x p) m apos) (e::es) [] pos) (dF sp dvs E t):=by
 intro P s g H Q I h
 refine LD (pl:=pl) (zJ I j l ?_ a) z
 refine PySem.W.method_cls I.kIn M.ga (PySem.W.cls_value I.kIn M.rd M.at_ Z ?_)
 have B:ap X P g H { s with toks:=s.toks+1 }:=I.kept (h':=s.heap) λb o e=>e
 refine MJ (h₀:=X.base) I.ok.mod.kin M.kp (aQ (y pos P _ g H _ B h) λU S #[G,J,i,r,D]=>#[i.kIn,?_]) c d
 exact QC F n q u v i r D
end
abbrev eM(h:Heap)(z u v T:Addr)(f:Bool):Prop:=
 h.get? z=some { cls:=.type "zip",dict:=none,data:=.fields (List.toArray [rawInt T,.bool f,.bool false,.ref u,.ref v]),slots:=(List.toArray []) }
section
variable {prog:Program}{w:World}{A:Around}{E:Value->Shared->Prop}{s:Shared}
theorem ZO{Q:Option Obj->Shared->Prop}(h:Q (s.heap.get? a) s):wpAny M A (loadIfAlive a) Q E s:=λ_ _ _=>h
theorem Cp{Q:Bool->Shared->Prop}(H:eM s.heap z u v T f)(a:∃o,s.heap.get? T=some o)
  (q:∀h,eM h z u v T true->Heap.ExtBut z s.heap h->h.objs.size=s.heap.objs.size->Q false { s with heap:=h }):wpAny (model prog w) A (Builtin.SmallTypes.ownedTupleIsFree (.ref z)) Q E s:=by
 unfold Builtin.SmallTypes.ownedTupleIsFree
 refine Gb (GL H Z (x:=rawInt T) Z ?_)
 show wpAny _ _ (loadIfAlive ((T:Int).toNat) >>= _) _ _ s
 refine Gb (ZO ?_)
 obtain⟨o,c⟩:=a
 rw[Hq,c]
 simp only[Nz,Gs,HW]
 refine Gb (GL H Z (x:=.bool f) Z ?_)
 cases f with
 |true=>
  simp only[IC,Gs,HW]
  exact Gb (Ge (Ge (q s.heap H (λb o _ e=>e) Z)))
 |false=>
  rw[Gw PZ]
  refine Gb (IJ H P5 λh d S=>Ge (q h d S.extBut S.1))
theorem xw{Q:Option Value->Shared->Prop}(D:uU z u v c d a b)
  (g:eM s.heap z u v T f) (p:∃o,s.heap.get? T=some o) (q:IsPair s.heap u (.ref c) (.ref d)) (r:gH B s.heap c a k) (t:gH l s.heap d b k) (G:iy B s.heap a C) (F:iy l s.heap b Y) (I:C[k]?=some x) (J:Y[k]?=some y)
  (L:∀h,eM h z u v T true->gH B h c a (k+1)->gH l h d b (k+1)->IsPair h s.heap.objs.size x y->h.objs.size=s.heap.objs.size+1->
   (∀e o,e≠z->e≠c->e≠d->s.heap.get? e=some o->h.get? e=some o)->Q (some (.ref s.heap.objs.size)) { s with heap:=h }):wpAny (model prog w) A (pyNext (.ref z)) Q E s:=by
 have H:s.TypeIs (.ref z) "zip":=#[_,g,Z]
 unfold pyNext
 refine Gb (La (Hd (name:=Str.ofString "__next__") H HM (Hi HM H K' (show wpAny _ _ (field (.ref z) 2 >>= _) _ _ _ from ?_) (IY _))))
 refine Gb (GL g Z (x:=.bool false) Z (show wpAny _ _ (field (.ref z) 3 >>= _) _ _ _ from Gb (GL g Z (x:=.ref u) Z (Gb (Hs q Z ?_)))))
 refine(show wpAny _ _ (Builtin.SmallTypes.ownedTupleIsFree (.ref z) >>= _) _ _ _ from Gb (Cp g p λO P i n=>?_))
 simp only[Gs,HW]
 refine Gb ?_
 simp only[NM,IG,Lo]
 refine Gb (Gb (GN (show wpAny _ _ (Builtin.SmallTypes.nextOf (.ref c) >>= _) _ _ _ from ?_)))
 refine Gb (zP (s:={ s with heap:=O }) (r.kp λo e=>i _ _ D.cz e) (G.kp λo e=>i _ _ D.az e) I λM R j=>Ge (Ge ?_))
 refine Gb (Gb (GN (show wpAny _ _ (Builtin.SmallTypes.nextOf (.ref d) >>= _) _ _ _ from ?_)))
 have K:∀e o,e≠z->e≠c->s.heap.get? e=some o->M.get? e=some o:=λe o n U w=>j.extBut _ _ U (i _ _ n w)
 refine Gb (zP (s:={ s with heap:=M }) (t.kp λo e=>K _ _ D.dz D.cd.symm e) (F.kp λo e=>K _ _ D.bz D.bc e) J λm V S=>Ge (Ge (Ge ?_)))
 show wpAny _ _ (newTuple [x,y] >>= _) _ _ _
 refine Gb (Np (Ge #[_,Z,Ge ?_]))
 have N:m.objs.size=s.heap.objs.size:=by rw[S.1,j.1];exact n
 have W:eM m z u v T true:=S.extBut _ _ D.dz.symm (j.extBut _ _ D.cz.symm P)
 show Q (some (.ref m.objs.size)) _
 rw[N]
 refine L _ (Gf _ W) (R.kp λo e=>Gf _ (S.extBut _ _ D.cd e)) (V.kp λo e=>Gf _ e) (by rw[<- N];exact Gm _ Z) (by rw[Hl,N]) λe o X a2 a3 w=>Gf _ (S.extBut _ _ a3 (K _ _ X a2 w))
theorem BG{b2:Bool}{ys:Array Value}{Q:Option Value->Shared->Prop}(j:A.handled=none)(D:uU z u v c d a b)
  (H:eM s.heap z u v T f) (l:∃o,s.heap.get? T=some o) (m:IsPair s.heap u (.ref c) (.ref d)) (p:gH B s.heap c a k) (G:iy B s.heap a q) (r:q[k]?=none)
  (t:∀i,(∀e o,e≠z->e≠c->e≠d->s.heap.get? e=some o->i.get? e=some o)->Q none { s with heap:=i }):wpAny (model prog w) A (pyNext (.ref z)) Q E s:=by
 have h:s.TypeIs (.ref z) "zip":=#[_,H,Z]
 unfold pyNext
 refine Gb (La (Hd (name:=Str.ofString "__next__") h HM (Hi HM h K' (show wpAny _ _ (field (.ref z) 2 >>= _) _ _ _ from ?_) (IY _))))
 refine Gb (GL H Z (x:=.bool false) Z (show wpAny _ _ (field (.ref z) 3 >>= _) _ _ _ from Gb (GL H Z (x:=.ref u) Z (Gb (Hs m Z ?_)))))
 refine(show wpAny _ _ (Builtin.SmallTypes.ownedTupleIsFree (.ref z) >>= _) _ _ _ from Gb (Cp H l λM F g n=>?_))
 simp only[Gs,HW]
 refine Gb ?_
 simp only[NM,IG,Lo]
 refine Gb (Gb (GN (show wpAny _ _ (Builtin.SmallTypes.nextOf (.ref c) >>= _) _ _ _ from ?_)))
 refine Gb (Qq (s:={ s with heap:=M }) (by simpa using j) (p.kp λo e=>g _ _ D.cz e) (G.kp λo e=>g _ _ D.az e) r λy e S C=>?_)
 exact Gb (IE (T:="StopIteration") (b:=true) C Ms (Ge (t y λe o n N I w=>S _ _ N (g _ _ n w))))
end
theorem Jl:typeLookup (.type "zip") "__getattr__"=pure none:=by rw[HP,Hk];kernel_rfl
theorem XI:typeLookup (.type "zip") "keys"=pure none:=by rw[HP,Hk];kernel_rfl
theorem Q4:entryFor table "zip.__getattribute__"=some Builtin.«object.__getattribute__»:=
 Mt (id':="object.__getattribute__") (by kernel_rfl) P6 P6 (by kernel_rfl)
theorem KG(a:Addr)(x:Array Value)(S:Array (Option Value))(u:Tok):
  Meets (Builtin.«object.__getattribute__» #[[.ref a,.str "keys" u],[]]) (λA R s=>s.heap.get? a=some { cls:=.type "zip",dict:=none,data:=.fields x,slots:=S }/\raisesAttr (.ref a) "keys" A R s):=
 OS λp w A R s H=>by
  obtain⟨c,g,d,t,os⟩:=s
  obtain⟨e,H⟩:=H
  have f:(#[c,g,d,t,os]:Shared).TypeIs (.ref a) "zip":=#[_,e,Z]
  have b:=XI
  have h:(["__module__","__name__","__qualname__","__doc__","__annotations__"]:List Str).contains "keys"=false:=by decide+kernel
  unfold Builtin.«object.__getattribute__»
  repeat (any_goals (first |assumption |wp_step))
  try simp only[h,Gs,HW]
  repeat (any_goals (first |assumption |wp_step))
  exact wpAny_raiseAttrError H.1 H.2 (attrMsg_fits P6 (by size_fits))
section
variable {prog:Program}{w:World}{A:Around}{E:Value->Shared->Prop}{s:Shared}
theorem vK{Q:Option Value->Shared->Prop}(f:s.heap.get? a=some { cls:=.type "zip",dict:=none,data:=.fields x,slots:=j })(k:A.handled=none)
  (h:∀c T,(∀b o,s.heap.get? b=some o->c.get? b=some o)->Q none { s with heap:=c,toks:=T }):wpAny (model prog w) A (getAttr? (.ref a) "keys") Q E s:=by
 obtain⟨l,g,d,T,os⟩:=s
 have i:∀t,(#[l,g,d,t,os]:Shared).TypeIs (.ref a) "zip":=λ_=>#[_,f,Z]
 have m:=sub_AttributeError
 have n:=PySem.F.slot_zip_getattribute.lookup
 have p:=PySem.F.slot_zip_getattribute.bind (.ref a)
 have q:=Jl
 unfold getAttr? getAttrBy? getAttrBy
 repeat (any_goals (first |assumption |exact i _ | ((with_reducible show wpAny _ _ (call (Value.builtin "zip.__getattribute__") _ _) _ _ _);refine MH PySem.F.slot_zip_getattribute (i _) Q4 (PySem.F.args_zip_getattribute_2 _ _) (KG a x j _) #[f,by simpa using k,λc t e H=>?_]) |wp_step))
 obtain⟨r,u,v⟩:=H.there
 show wpAny _ _ (getattributeRaised _ _ _ _ _ _ _) _ _ _
 unfold getattributeRaised
 repeat (any_goals (first |assumption |wp_step))
 exact h _ _ H.keeps
def yy(h:Heap)(z u v c d a b Dd:Addr)(x y:Array Value)(i:Nat):Prop:=
 ((IsZip h z u v .none/\∃p q,IsPair h v p q)∨∃T f o,eM h z u v T f/\h.get? T=some o/\T≠z/\T≠c/\T≠d/\T≠Dd)/\IsPair h u (.ref c) (.ref d)/\gH false h c a i/\gH false h d b i/\iy false h a x/\iy false h b y
theorem xC{Dd:Addr}{Q:Option Value->Shared->Prop}(D:uU z u v c d a b)(l:Dd < s.heap.objs.size)(S:yy s.heap z u v c d a b Dd J Y k)(L:J[k]?=some x)(M:Y[k]?=some y)
  (N:∀h,yy h z u v c d a b Dd J Y (k+1)->IsPair h s.heap.objs.size x y->h.objs.size=s.heap.objs.size+1->(∀e o,e≠z->e≠v->e≠c->e≠d->s.heap.get? e=some o->h.get? e=some o)->Q (some (.ref s.heap.objs.size)) { s with heap:=h }):wpAny (model prog w) A (pyNext (.ref z)) Q E s:=by
 obtain⟨H,g,j,m,G,i⟩:=S
 obtain⟨oc,n,_⟩:=j.ob
 obtain⟨od,r,_⟩:=m.ob
 rcases H with ⟨H,p,q,U⟩ | ⟨T,f,o,H,O,t,P,R,V⟩
 ·refine xz D H g U j m G i L M λh B v1 I C t F K=>N h #[.inr #[s.heap.objs.size,false,_,B,t,Hn (Gk H),Hn (Gk n),Hn (Gk r),Hn l],K _ _ D.uz D.uv D.uc D.ud g,I,C,G.kp λo e=>K _ _ D.az D.av D.ac D.ad e,i.kp λo e=>K _ _ D.bz D.bv D.bc D.bd e] t F K
 ·refine xw D H #[o,O] g j m G i L M λh B I C W F K=>N h #[.inr #[T,true,o,B,K _ _ t P R O,t,P,R,V],K _ _ D.uz D.uc D.ud g,I,C,G.kp λo e=>K _ _ D.az D.ac D.ad e,i.kp λo e=>K _ _ D.bz D.bc D.bd e] W F λe o X n2 n3 n4 w=>K e o X n3 n4 w
theorem BL{Dd:Addr}{Q:Option Value->Shared->Prop}(g:A.handled=none)(D:uU z u v c d a b)(n:yy s.heap z u v c d a b Dd x ys k)(i:x[k]?=none)
  (j:∀H,(∀e o,e≠z->e≠v->e≠c->e≠d->s.heap.get? e=some o->H.get? e=some o)->Q none { s with heap:=H }):wpAny (model prog w) A (pyNext (.ref z)) Q E s:=by
 obtain⟨h,l,m,B,G,C⟩:=n
 rcases h with ⟨h,p,q,F⟩ | ⟨T,f,o,h,r,I,J,L,M⟩
 ·exact BJ (b2:=false) (p:=p) (q:=q) (ys:=ys) g D h l m G i j
 ·exact BG (b2:=false) (ys:=ys) g D h #[o,r] l m G i λH K=>j H λe o N O t y w=>K e o N t y w
structure Ee(D z u v c d a b:Addr):Prop where
 z:D≠z
 u:D≠u
 v:D≠v
 c:D≠c
 d:D≠d
 a:D≠a
 b:D≠b
theorem yy.keep{h j:Heap}{Dd:Addr}(F:Ee Dd z u v c d a b)(k:∀e o,e≠Dd->h.get? e=some o->j.get? e=some o)(st:yy h z u v c d a b Dd x y i):yy j z u v c d a b Dd x y i:=by
 obtain⟨H,l,m,n,G,r⟩:=st
 refine#[?_,k _ _ F.u.symm l,m.kp λo e=>k _ _ F.c.symm e,n.kp λo e=>k _ _ F.d.symm e,G.kp λo e=>k _ _ F.a.symm e,r.kp λo e=>k _ _ F.b.symm e]
 rcases H with ⟨H,p,q,B⟩ | ⟨T,f,o,H,g,C,D,I,t⟩
 ·exact .inl #[k _ _ F.z.symm H,p,q,k _ _ F.v.symm B]
 ·exact .inr #[T,f,o,k _ _ F.z.symm H,k _ _ t g,C,D,I,t]
theorem KH{K:Type}[DecidableEq K]{knd:KeyKind prog w K}{R:Result->Shared->Prop}{Dd:Addr}{x:Array Value}(X:A.handled=none)(D:uU z u v c d a b)(F:Ee Dd z u v c d a b)(m:List (K×Value))(Y:m.length=x.size)(h0:x.size<=sizeLine)
  (hP:∀(i:Nat),i < x.size->∃f V k,x[i]?=some f/\ys[i]?=some V/\knd.is k f=true/\m[i]?=some (k,V)):
  ∀(j i:Nat) (s:Shared) (n:Int),x.size - i=j->i<=x.size->yy s.heap z u v c d a b Dd x ys i->s.heap.DictOf knd Dd (merged [] (m.take i))->
   (∀h T,(∀e o,e≠Dd->e≠z->e≠v->e≠c->e≠d->s.heap.get? e=some o->h.get? e=some o)->h.DictOf knd Dd (merged [] m)->R (.ok (.ret .none)) { s with heap:=h,toks:=T })->
   codeAny (model prog w) A (.builtin "dict.update.loop" #[[.ref Dd,.ref z,.int n 0,.none],[]]) R s:=by
 intro j
 induction j with
 |zero=>
  intro i s n hj hi st q C
  have e:i=x.size:=by omega
  subst e
  refine HQ Jx ?_
  rw[Hr zz]
  show wpAny _ A.in1 (pyNext (.ref z) >>= _) _ _ s
  refine Gb (BL (by simpa using X) D st P5 λh g=>?_)
  show wpAny _ A.in1 (Builtin.Dict.addKeywords Dd [] >>= λ_=>ret Value.none) _ _ { s with heap:=h }
  refine Gb ?_
  unfold Builtin.Dict.addKeywords
  refine Ge (Ge (C h s.toks (λe o _ N t y B w=>g e o N t y B w) ?_))
  rw[<- Y,Ho]at q
  obtain⟨o,es,ep,ho,r⟩:=q
  exact#[o,es,ep,g _ _ F.z F.v F.c F.d ho,r]
 |succ j ih=>
  intro i s n hj hi st q C
  have M:i < x.size:=by omega
  obtain⟨f,V,k,hx,hy,O,hm⟩:=hP i M
  refine HQ Jx ?_
  rw[Hr zz]
  show wpAny _ A.in1 (pyNext (.ref z) >>= _) _ _ s
  obtain⟨oD,G,I,H,rD⟩:=id q
  have L:Dd < s.heap.objs.size:=Gk H
  refine Gb (xC D L st hx hy λl S P N g=>?_)
  have hb:Shared.TypeIs { s with heap:=l } (.ref s.heap.objs.size) "tuple":=#[_,P,Z]
  have J:l.DictOf knd Dd (merged [] (m.take i)):=#[oD,G,I,g _ _ F.z F.v F.c F.d H,rD]
  dsimp only
  refine Gb (GN ?_)
  refine Gb (wpAny_tryCatch ?_)
  unfold Builtin.Dict.pairItems
  refine Gb (Iq hb ?_)
  rw[Gw PZ]
  refine Gb (Hs P Z (Ge ?_))
  show wpAny _ A.in1 (holding [f,V] (dictSet Dd f V)) _ _ { s with heap:=l }
  unfold dictSet
  refine GN (GN (Gb (knd.pyHash O ?_)))
  have Q:(merged ([]:List (K×Value)) (m.take i)).length<=i:=by
   have:=OY ([]:List (K×Value)) (m.take i)
   rw[GV]at this
   simp only[MN]at this
   omega
  refine wpAny_dictSetHashed_pairs (s:={ s with heap:=l,toks:=s.toks+1 }) O J (λh p sb=>?_) P0
  rw[<- merged_take_succ [] m i (k,V) hm]at p
  have U:∀e o,e≠Dd->l.get? e=some o->h.get? e=some o:=λe o ne w=>(sb.2 e ne).trans w
  refine Ge #[IA zz _,ih (i+1) _ (n+1) P0 M (S.keep F U) p λh2 T k2 d2=>C h2 T (λe o W N t y B w=>k2 e o W N t y B (U _ _ W (g e o N t y B w))) d2]
theorem KU{K:Type}[DecidableEq K]{knd:KeyKind prog w K}{more:List (K×Value)}{Q:Value->Shared->Prop}(N:A.handled=none)(D:uU z u v c d a b)
  (j:IsZip s.heap z u v .none) (P:IsPair s.heap u (.ref c) (.ref d)) (m:∃p q,IsPair s.heap v p q) (U:gH false s.heap c a 0) (V:gH false s.heap d b 0) (W:iy false s.heap a x) (X:iy false s.heap b ys)
  (hn:more.length=x.size) (n:x.size<=sizeLine) (hP:∀(i:Nat),i < x.size->∃Y vu k,x[i]?=some Y/\ys[i]?=some vu/\knd.is k Y=true/\more[i]?=some (k,vu))
  (h:∀l t,l.DictOf knd s.heap.objs.size (merged [] more)->(∀e o,e≠z->e≠v->e≠c->e≠d->s.heap.get? e=some o->l.get? e=some o)->Q (.ref s.heap.objs.size) { s with heap:=l,toks:=t }):
  wpAny (model prog w) A (call (.type "dict") [.ref z]) Q E s:=by
 refine PL (Q₁:=λO S=>O= .ref s.heap.objs.size/\S={ s with heap:=s.heap.push { cls:=.type "dict",data:=.dict (List.toArray []) } }) PySem.F.kt_called_dict (PySem.F.kt_typeCall_dict_1 _) PySem.F.entry_dict_init (kt_code_dict_new _ #[Z,Z]) ?_
 rintro O S ⟨rfl,rfl⟩
 have f:(s.heap.push { cls:=.type "dict",data:=.dict (List.toArray []) }).DictOf knd s.heap.objs.size []:=Nl s.heap
 refine#[f.typeIs,PySem.F.args_dict_init_2 _ _,?_]
 unfold Builtin.«dict.__init__»
 refine Gb ?_
 unfold Builtin.Dict.selfAndRest
 refine Gb (wpAny_notOrdered_dict f.typeIs ?_)
 show wpAny _ _ (pure (s.heap.objs.size,[Value.ref z])) _ _ _
 refine Ge ?_
 show wpAny _ _ (Builtin.Dict.updateFrom "dict.__init__" s.heap.objs.size (.ref z) [] .none) _ _ _
 unfold Builtin.Dict.updateFrom
 generalize hH:s.heap.push { cls:=.type "dict",data:=.dict (List.toArray []) }=H at f ⊢
 have G:∀b o,s.heap.get? b=some o->H.get? b=some o:=λb o e=>by rw[<- hH];exact Gf _ e
 refine Gb (Iq #[_,G _ _ j,Z] ?_)
 rw[Gw PZ]
 refine Gb (vK (s:={ s with heap:=H }) (G _ _ j) (by simpa using N) λM t k1=>?_)
 simp only[NA,Ln]
 refine Gb (Iw ?_)
 have g:∀b o,s.heap.get? b=some o->M.get? b=some o:=λb o e=>k1 _ _ (G _ _ e)
 refine Gb (wpAny_pyIter_zip (s:={ s with heap:=M,toks:=t }) (g _ _ j) ?_)
 obtain⟨oD,eD,y,B,rD⟩:=f
 obtain⟨p,q,m⟩:=m
 obtain⟨oc,C,_⟩:=U.ob
 obtain⟨od,I,_⟩:=V.ob
 obtain⟨oa,J,_⟩:=id W
 obtain⟨ob,L,_⟩:=id X
 have F:Ee s.heap.objs.size z u v c d a b:=#[Hn (Gk j),Hn (Gk P),Hn (Gk m),Hn (Gk C),Hn (Gk I),Hn (Gk J),Hn (Gk L)]
 refine Ge #[IA zz _,IK (KH (knd:=knd) (A:=A.in1) (R:=λr s'=>r= .ok (.ret .none)/\Q (.ref s.heap.objs.size) s') (by simpa using N) D F more hn n hP x.size 0 { s with heap:=M,toks:=t } 0 Z (Gp _)
  #[.inl #[g _ _ j,p,q,g _ _ m],g _ _ P,U.kp λo e=>g _ _ e,V.kp λo e=>g _ _ e,W.kp λo e=>g _ _ e,X.kp λo e=>g _ _ e] #[oD,eD,y,k1 _ _ B,rD] λl T k2 d2=>#[Z,?_]) λr s' q=>?_]
 ·exact h l T d2 λe o n1 n2 n3 n4 w=>k2 e o (Go (Gk w)) n1 n2 n3 n4 (g _ _ w)
 ·obtain⟨rfl,q⟩:=q
  exact#[Z,q]
end
section
variable {X:Cx}{e1 e2:Expr}{ta:TA}{p p2 pos pos2:Pos}
inductive DT(K:Frag)(Q:VK)(e:List V)(c:Hp):Prop
 |mk(a b:Addr)(d:List bh)(f:List V)(_:e=[.ref a,.ref b])(_:aw K c a (d.map kV))(_:aw K c b f)(_:d.length=f.length)(_:∀l,c l=none->Q (.ref l) (af c l (.dK (bV [] (d.zip f)))))
def FN(K:Frag)(ta:TA):TE:=λa H Q=>ta a H (DT K Q)
theorem YW{P:Program}{w:World}:∀{K:List bh} {U:List Value},ax (K.map kV) U->∀(i:Nat) (k:bh),K[i]?=some k->∃u,U[i]?=some u/\(aT P w).is k u=true
 | [],_,_,i,k,h=>by simp at h
 |k0::K,_,.cons (b:=u) h t,0,k,e=>by
  have E:k0=k:=by simpa using e
  subst E
  exact#[u,Z,JU h]
 |k0::K,_,.cons h t,i+1,k,e=>by simpa using YW (P:=P) (w:=w) t i k (by simpa using e)
theorem p8:∀{K:List bh} {y:List V} {u:List Value},ax y u->KV (K.zip y) (K.zip u)
 | [],_,_,_=>by simp only[List.zip_nil_left];exact .nil
 |_::_,_,_,.nil=>by simp only[List.zip_nil_right];exact .nil
 |k::K,_,_,.cons h t=>.cons #[Z,h] (p8 t)
theorem YX(m:Gl X "dict")(n:X.mg "dict"=none)(t:Gl X "zip")(v:X.mg "zip"=none)(N:X.calm=true)(O:PA X [e1,e2] ta)
  (T:starEach [e1,e2] X.env=(false,eval e1 X.env)::starEach [e2] X.env:=by rfl) (U:(backTo pos2 (starEach [e2] X.env)).any (·.1)=false:=by rfl)
  (f:starEach [Expr.Call (.Name "zip" p2) [e1,e2] [] pos2] X.env=(false,eval (.Call (.Name "zip" p2) [e1,e2] [] pos2) X.env)::starEach [] X.env:=by rfl) (x:(backTo pos (starEach [] X.env)).any (·.1)=false:=by rfl):
  PE X (.Call (.Name "dict" p) [.Call (.Name "zip" p2) [e1,e2] [] pos2] [] pos) (FN X.K ta):=by
 intro P s V H Q I h
 refine Hu (zh I m n Pz ?_)
 refine Hh ?_ f x
 rw[f]
 show wpAny _ _ (spliced ((false,eval _ X.env)::backTo pos (starEach [] X.env))) _ _ s
 refine Im ?_
 refine Hu (zh I t v Px ?_)
 refine Hh (aQ (O pos2 P s V H _ I h) λus S z=>?_) T U
 obtain⟨vs,H1,d,W,Y⟩:=z
 obtain⟨a,b,c,ys,e,gx,gy,hl,q⟩:=Y
 subst e
 cases W with
 |cons r rr=>
  cases rr with
  |cons r' y=>
   cases y
   cases r
   cases r'
   obtain⟨A,F,G,z1⟩:=d.tuple gx
   obtain⟨j,R,C,z2⟩:=d.tuple gy
   have l1:=F.length
   have l2:=R.length
   rw[Gg]at l1 z1
   have la:a < S.heap.objs.size:=by obtain⟨o,D,_⟩:=G;exact Gk D
   have lb:b < S.heap.objs.size:=by obtain⟨o,D,_⟩:=C;exact Gk D
   refine BK (b1:=false) (b2:=false) (xs:=A.toArray) (ys:=j.toArray) G C λE J u' v' i1 i2 k=>?_
   refine II ?_
   have Dz:=xA S.heap.objs.size a b la lb
   refine KU (s:={ S with heap:=E }) (knd:=aT X.prog X.w) (more:=c.zip j) (d.ok.hd N) Dz J u' #[_,_,v'] i1 i2 (iy.kp (b:=false) G λo e=>k _ _ e) (iy.kp (b:=false) C λo e=>k _ _ e) (by rw[MM,Gj];omega) (by rw[Gj];omega) (λi hi=>?_) λh2 tk dd k2=>?_
   ·rw[Gj]at hi
    have L:i < c.length:=by omega
    have M:i < j.length:=by omega
    obtain⟨u,hu,ku⟩:=YW F i _ (Gc L)
    refine#[u,j[i],c[i],by simpa using hu,by simp [M],ku,?_]
    rw[M6]
    exact#[Gc L,Gc M]
   ·have g:KV (bV [] (c.zip ys)) (merged [] (c.zip j)):=KV.merge (p8 R) .nil
    have zl:(bV [] (c.zip ys)).length<=sizeLine:=by
     rw[g.length]
     have:=OY ([]:List (bh×Value)) (c.zip j)
     rw[MM]at this
     simp only[MN]at this
     omega
    have k3:∀e o,S.heap.get? e=some o->h2.get? e=some o:=λe o w=>by
     have l:=Gk w
     exact k2 e o (Go (Gu l (Il _ _))) (Go (Gu l (Il _ _))) (Go l) (Go (Gu l (Il _ _))) (k _ _ w)
    have B:S.heap.objs.size<=E.objs.size:=IV (HZ (Il _ 4) (Gk J))
    exact#[.ref E.objs.size,_,d.laid k3 B (QD zl (beq_eq_false_iff_ne.mpr (G7 (Go (Gu d.big B)))) g dd),Z,q _ (d.hok.fresh B)]
end
end _L
namespace _L
open PySem PySem.Spec PyProof.Rows PySem.SeqAt
section
variable {X:Cx}
theorem ZP{P:List (Addr×Obj)}{f:St}{H:Hp}{s:Shared}(I:ap X P f H s){A:Around}{k:List (bh×V)}{v a:List (bh×Value)}(r:KV k v)(g:KV k a)(N:(a.map (·.1)).Nodup)(j:∀p∈k,∃i,p.2= .int i):PySem.W.KeqHits A s a v true:=by
 refine Xf λp l=>?_
 have L:=r.length
 obtain⟨i,m,e⟩:=List.getElem_of_mem l
 have h:i < k.length:=by omega
 have b:k[i]?=some (k[i].1,k[i].2):=Gc h
 obtain⟨o,q,R⟩:=r.get b
 obtain⟨x,Q,c⟩:=g.get b
 have E:p=(k[i].1,o):=by
  have:v[i]?=some p:=by rw[Gc m,e]
  rw[this]at q
  exact Hg q
 subst E
 obtain⟨n,t⟩:=j _ (IR h)
 rw[t]at R c
 obtain⟨T,rfl⟩:=R
 obtain⟨u,rfl⟩:=c
 refine#[_,Jt N (GP Q),?_]
 obtain⟨y,d,w⟩:=HT.eqAt_int A s n T n u
 rw[w.mpr Z]at d
 exact d
theorem AF(e:X.A.units < cLine):eN X (compareOp .NotEq) (λx y H Q=>∃a b k,x= .ref a/\y= .ref b/\H a=some (.dK k)/\H b=some (.dK k)/\(∀p∈k,∃i,p.2= .int i)/\Q (.bl false) H):=by
 intro P s w H x y v u Q I f g h
 obtain⟨a,b,k,rfl,rfl,j,l,m,q⟩:=h
 cases f
 cases g
 obtain⟨z,M,V,R,D⟩:=Q6 I.hok j
 obtain⟨B,o,C,c,d⟩:=Q6 I.hok l
 obtain⟨_,_,_,_,_,_,_,_,n⟩:=id d
 have L:=R.length
 have t:=c.length
 refine PySem.W.keq_ne (r:=true) M o D d e (λ_=>ZP I R c n m) ?_
 rw[<- L,<- t,Lq]
 exact#[.bl false,H,I,Z,q]
end
end _L
namespace _L
open PySem PySem.Spec PyProof.Rows
section
variable {X:Cx}{st:Stmt}{ss:List Stmt}{e:Expr}{es:List Expr}
def FM:TS:=λ_ _ _=>False
theorem QE:lH X ss FM:=λ_ _ _ _ _ _ h=>False.elim h
end
end _L
namespace _L
open PySem PySem.Spec PyProof.Rows PySem.SeqAt
inductive Dq(K:Frag)(x y:V)(H:Hp)(Q:VK):Prop
 |mk(a b d e:_)(_:x= .ref a)(_:y= .ref b)(_:aw K H a d)(_:aw K H b e)(_:(d.all cq=true/\e.all cq=true/\Q (.bl (pE d e)) H)∨∃(w:Str) (c:Addr) (zs:List V) (u:Str) (i:Int),d=[.str w,.ref c]/\aw K H c zs/\e=[.str u,.int i]/\Q (.bl false) H)
theorem AE{X:Cx}(d:X.A.units+1 < cLine):eN X (compareOp .Eq) (Dq X.K):=by
 intro p s m H x y v U Q I f g h
 obtain⟨a,b,n,Y,rfl,rfl,k,l,h | ⟨w,c,M,u,i,rfl,o,rfl,q⟩⟩:=h
 ·exact AD (Mz d) p s m H _ _ v U Q I f g #[a,b,n,Y,Z,Z,k,l,h]
 cases f
 cases g
 obtain⟨N,r,P,_⟩:=I.tuple k
 obtain⟨O,R,t,_⟩:=I.tuple l
 obtain⟨S,V,z,_⟩:=I.tuple o
 cases r with
 |cons B r=>
  cases r with
  |cons C r=>
   cases r
   cases R with
   |cons D R=>
    cases R with
    |cons E R=>
     cases R
     obtain⟨T,rfl⟩:=B
     cases C
     obtain⟨F,rfl⟩:=D
     obtain⟨G,rfl⟩:=E
     refine OG (e:=λj=>if j=0 then w==u else false) (show s.heap.IsTuple a _ from P) (show s.heap.IsTuple b _ from t) (Mz d) (λj J L=>?_) ?_
     ·match j,J,L with
      |0,_,_=>exact OV w T u F
      |1,_,_=>exact OB i G (show s.heap.IsTuple c _ from z) (by simpa [Around.in1,Around.units] using d)
     ·have e:((List.range (min 2 2)).all (λj=>if j=0 then w==u else false)&&(2:Nat)==2)=false:=by
       show((if 0=0 then w==u else false)&&((if 1=0 then w==u else false)&&true)&&true)=false
       simp
      exact#[.bl false,H,I,HL Value.bool e,q]
end _L
namespace _L
open PySem PySem.Spec PyProof.Rows
theorem XJ(l:Addr)(i:Array Value)(n:Nat)(D:Option Addr)(S:Array (Option Value)):
  Meets (Builtin.«enumerate.__new__» #[[.type "enumerate",.ref l],[]]) (λ_ R s=>s.heap.get? l=some { cls:=.type "tuple",dict:=D,data:=.seq i n,slots:=S }/\
   R (.ok (.ret (.ref (s.heap.push { cls:=.type "tuple_iterator",data:=.fields (List.toArray [.ref l,.int 0 0]) }).objs.size)))
    { s with heap:=(s.heap.push { cls:=.type "tuple_iterator",data:=.fields (List.toArray [.ref l,.int 0 0]) }).push { cls:=.type "enumerate",data:=.fields (List.toArray [.none,.bool false,.ref s.heap.objs.size,rawInt 0,.none,.none]) } }):=
 .of_wp λp w A R s h=>by
  obtain⟨e,g,d,t,os⟩:=s;obtain⟨H,h⟩:=h
  have b:=sub_enumerate
  have a:Heap.IsTuple (Shared.heap #[e,g,d,t,os]) l i:=#[_,H,Z,n,Z]
  wp_walk using HX H
  refine wpAny_stack_any λst=>Ge ?_
  split
  ·rename_i c _ _ _ _ _
   cases (c==Value.type "enumerate")
   ·wp_walk using HX H,Ld a
    exact#[_,Z,h]
   ·wp_walk using HX H,Ld a
    exact#[_,Z,h]
  ·wp_walk using HX H,Ld a
   exact#[_,Z,h]
section
variable {prog:Program}{w:World}{A:Around}{E:Value->Shared->Prop}{s:Shared}
theorem Yq{Q:Value->Shared->Prop}(j:s.heap.IsTuple l i)
  (h:∀H,IsEnum H (s.heap.objs.size+1) s.heap.objs.size 0 .none->H.IsTupleIter s.heap.objs.size l 0->(∀b o,s.heap.get? b=some o->H.get? b=some o)->Q (.ref (s.heap.objs.size+1)) { s with heap:=H }):
  wpAny (model prog w) A (call (.type "enumerate") [.ref l]) Q E s:=by
 obtain⟨⟨c,d,D,S⟩,k,a,n,e⟩:=j
 replace a:c= .type "tuple":=a
 replace e:D= .seq i n:=e
 subst a e
 refine NY PySem.F.called_enumerate PZ (PySem.F.typeCall_enumerate_1 _) (PySem.F.newCall_enumerate_1 _) (λO=>Ll O _) PySem.F.entry_enumerate_new (XJ l i n d S) #[k,?_]
 have f:(s.heap.push { cls:=.type "tuple_iterator",data:=.fields (List.toArray [.ref l,.int 0 0]) }).objs.size=s.heap.objs.size+1:=Hl ..
 show _/\_
 rw[f]
 have g:IsEnum ((s.heap.push { cls:=.type "tuple_iterator",data:=.fields (List.toArray [.ref l,.int 0 0]) }).push { cls:=.type "enumerate",data:=.fields (List.toArray [.none,.bool false,.ref s.heap.objs.size,rawInt 0,.none,.none]) }) (s.heap.objs.size+1) s.heap.objs.size 0 .none:=by
  have:=Gm (s.heap.push { cls:=.type "tuple_iterator",data:=.fields (List.toArray [.ref l,.int 0 0]) }) (o:={ cls:=.type "enumerate",data:=.fields (List.toArray [.none,.bool false,.ref s.heap.objs.size,rawInt 0,.none,.none]) }) Z
  rw[f]at this;exact this
 exact#[#[_,g,Z],h _ g #[_,Gf _ (Gm _ Z),Z,Z] λb o x=>Gf _ (Gf _ x)]
theorem uy{c:Type}{Q:c->Shared->Prop}(d:A.handled=none)
  (h:∀H (e:Addr),(∀b o,s.heap.get? b=some o->H.get? b=some o)->Shared.TypeIs { s with heap:=H } (.ref e) "StopIteration"->E (.ref e) { s with heap:=H }):
  wpAny (model prog w) A (do raiseNew (<- newExc (.type "StopIteration") []):Sem c) Q E s:=by
 refine Gb ?_
 simp only[newExc,newTuple]
 refine Gb (Hf ?_ (by size_fits))
 refine Gb (m:=firstArgMember _ _) (LP (a:=Value.none) ?_ ?_)
 ·first |rfl | (simp only[firstArgMember];rfl)
 refine Hf ?_ (by size_fits)
 simp only[raiseNew]
 refine Gb (wpAny_handled ?_)
 rw[d]
 refine Gb (Ge (wpAny_throw (h _ _ (λb o e=>Gf _ (Gf _ e)) ?_)))
 exact#[_,Gm _ Z,Z]
theorem Kx{J T:Addr}{i:Nat}{I:Array Value}{Q:Value->Shared->Prop}(g:A.handled=none)(H:s.heap.IsTupleIter J T i)(j:s.heap.IsTuple T I)(l:I[i]?=none)
  (q:∀h (e:Addr),Heap.ExtBut J s.heap h->Shared.TypeIs { s with heap:=h } (.ref e) "StopIteration"->E (.ref e) { s with heap:=h }):wpAny (model prog w) A (Builtin.SmallTypes.nextOf (.ref J)) Q E s:=by
 obtain⟨o,a,p,c⟩:=id H
 obtain⟨O,d,_,N,f⟩:=j
 unfold Builtin.SmallTypes.nextOf
 refine Gb (Hd (name:=Str.ofString "__next__") H.typeIs Hz (Hi Hz H.typeIs I0 (show wpAny _ _ (field (.ref J) 0 >>= _) _ _ s from ?_) (IW _)))
 refine Gb (GL a c (x:=.ref T) Z (show wpAny _ _ (if (Value.ref T==Value.none)=true then _ else _) _ _ s from ?_))
 rw[GG (show ¬((Value.ref T==Value.none)=true) from Gn)]
 refine(show wpAny _ _ (field (.ref J) 1 >>= _) _ _ s from Gb (GL a c (x:=.int i 0) Z (show wpAny _ _ (seqItems? (.ref T) >>= _) _ _ s from Gb (Hs d f ?_))))
 simp only[Hq,l]
 refine Gb (Iw (Gb (Hm a c P5 ?_)))
 refine uy (by simpa using g) λh e k t=>q h e (λb o m n=>k b o ?_) t
 exact(Gv _ _ (G7 m)).trans n
theorem ZQ(m:A.handled=none)(a l:Addr)(d:l≠a)(I:Array Value):
  Draws prog w A a [a,l] I.size (λi v=>I[i]?=some v) (λi h=>h.IsTupleIter a l i/\h.IsTuple l I) where
 live:=λ_ _ st=>let #[o,H,_]:=st.1;#[o,H]
 frame:=λ_ _ _ st g=>#[st.1.at λo e=>g a P5 o e,let #[o,H,r]:=st.2;#[o,g l P5 o H,r]]
 item:=λi s Q E j st n=>Kw st.1 st.2 (x:=I[i]) (by simp [j]) λf b c=>n _ f s.toks (by simp [j]) #[b,let #[o,H,r]:=st.2;#[o,c.extBut l o d H,r]] c
 done:=λs Q E st p=>Kx m st.1 st.2 P5 λf e k t=>p f e k t
theorem Yr(c:A.handled=none)(a l:Addr)(I:Array Value)(i:Nat)(d:I[i]?=none):
  Draws prog w A a [a,l] i (λ_ _=>True) (λj h=>j=i/\h.IsTupleIter a l i/\h.IsTuple l I) where
 live:=λ_ _ st=>let #[o,H,_]:=st.2.1;#[o,H]
 frame:=λ_ _ _ st b=>#[st.1,st.2.1.at λo e=>b a P5 o e,let #[o,H,r]:=st.2.2;#[o,b l P5 o H,r]]
 item:=λj s Q E f st n=>absurd st.1 (Go f)
 done:=λs Q E st g=>Kx c st.2.1 st.2.2 d λm e k t=>g m e k t
end
noncomputable def yr(K:Frag)(a:Addr):It:=
 #[λi H=>∃X x,aw K H a X/\X[i]?=some x,λi H x h=>∃p v,x= .ref p/\H p=none/\h=af H p (.tup [.int i,v])/\∀X,aw K H a X->X[i]?=some v,λi H=>∃X,aw K H a X/\X.length<=i]
theorem Ys{P:Program}{K:Frag}(a e g:Addr)(r:e≠g):mJ P w K (.Tuple e0 kx tp) (yr K a) [e,g] e (λi h=>(∃O,IsEnum h e g i O)/\h.IsTupleIter g a i) where
 mem:=by simp
 obj:=λi h st b hb=>by
  obtain⟨⟨O,j⟩,⟨o,ei,c,d⟩⟩:=st
  rcases List.mem_cons.mp hb with rfl |hb
  ·exact#[_,j,λv z=>by cases (show Data.fields _=Data.cell v from z)]
  ·have q:b=g:=by simpa using hb
   subst q
   exact#[o,ei,λv z=>by rw[d]at z;cases z]
 keep:=λi h A st k=>#[let #[O,j]:=st.1;#[O,k e P5 _ j],st.2.at λo q=>k g P5 o q]
 item:=by
  intro X Q S T U i f s J H E I L st W
  subst Q S T
  obtain⟨⟨O,j⟩,l⟩:=st
  obtain⟨xs,x,M,N⟩:=W
  obtain⟨m,R,p,hz⟩:=I.tuple M
  obtain⟨u,hu,ru⟩:=R.get N
  have Y:e < s.heap.objs.size:=Gk j
  have l0:g < s.heap.objs.size:=by obtain⟨_,q,_⟩:=l;exact Gk q
  have h0:a≠g:=λz=>by rw[z]at p;obtain⟨o1,e1,c1,_⟩:=l;obtain⟨o2,B,c2,_⟩:=p;rw[e1]at B;cases B;exact absurd (c1.symm.trans c2) PZ
  have h1:e∉[g,a]:=λz=>by
   rcases List.mem_cons.mp z with z |z
   ·exact r z
   ·rw[List.mem_singleton.mp z]at j;obtain⟨o2,B,c2,_⟩:=p;unfold IsEnum at j;rw[j]at B;cases B;exact absurd (show Value.type "enumerate"=Value.type "tuple" from c2) PZ
  refine wpAny_pyNext_enum_itemD (ZQ (by simpa using I.ok.hd U) g a h0 m.toArray) j #[l,p] (by have:=R.length;have:=(List.getElem?_eq_some_iff.mp N).1;simp;omega) r h1 λx' A t C ho y hT h4 hk=>#[_,Z,?_]
  have D:=y.1
  have ex:u=x':=by
   have h2:m.toArray[i]?=some u:=by simpa using hu
   rw[h2]at C
   exact Hg C
  subst ex
  have hn:H s.heap.objs.size=none:=I.hok.fresh (Gh _)
  have I1:ap X f J H { s with heap:=A,toks:=t+1 }:=I.turnedN L λb o hb q=>hk b o (λz=>hb (by simp [z])) (λz=>hb (by simp [z])) q
  have r2:ax [V.int i,x] [Value.int i t,u]:=.cons #[_,Z] (.cons ru .nil)
  have I2:ap X f J (af H s.heap.objs.size (.tup [.int i,x])) { s with heap:=A,toks:=t+1 }:=
   I1.track (I.fpOk (Gh _) hn) I.sz #[by show 2<=sizeLine;decide,_,r2,_,hT,Z,_,Z]
  have F:∀b∈[e,g],eX X f (af H s.heap.objs.size (.tup [.int i,x])) b:=λb hb=>by
   obtain⟨f0,f1⟩:=L b hb
   refine#[?_,f1]
   rw[ji]
   ·exact f0
   ·rcases List.mem_cons.mp hb with rfl |hb
    ·exact Go Y
    ·have q:b=g:=by simpa using hb
     subst q
     exact Go l0
  refine wpAny_letOwnedTupleGo_enum (s:={ s with heap:=A,toks:=t+1 }) ho λG h3 n=>?_
  replace n:Heap.SameBut e A G:=n
  have I3:ap X f J (af H s.heap.objs.size (.tup [.int i,x])) { s with heap:=G,toks:=t+1 }:=I2.turnedN F λb o hb q=>(n.2 b λz=>hb (by simp [z])).trans q
  refine#[.ref s.heap.objs.size,_,I3,Z,#[_,x,Z,hn,Z,λys hy=>by rw[I.tuple_inj hy M];exact N],#[#[u,by simpa using h3],D.at λo q=>(n.2 g r.symm).trans q],λb hb=>(F b hb).1]
 done:=by
  intro X Q S T U i f s J H E I L st W
  subst Q S T
  obtain⟨⟨O,j⟩,l⟩:=st
  obtain⟨xs,M,N⟩:=W
  obtain⟨m,R,p,hz⟩:=I.tuple M
  have hl:=R.length
  refine wpAny_pyNext_enum_endD (Yr (by simpa using I.ok.hd U) g a m.toArray i (by simp;omega)) j #[Z,l,p] λA eb=>#[Z,?_]
  exact I.turnedN (t':=s.toks) L λb o hb q=>eb b o (λz=>hb (by simp [z])) q
 self:=λ_ _ _ _ _ st h=>by
  obtain⟨⟨O,j⟩,_⟩:=st
  exact OM j h
section
variable {X:Cx}{elts:List Expr}{kx:Nat}{tp:Pos}
inductive nF(K:Frag)(R:It->Hp->Prop)(c:List V)(b:Hp):Prop
 |mk(a:_)(_:c=[.ref a])(_:∃xs,aw K b a xs)(_:R (yr K a) b)
def yR(K:Frag)(t:TA):TI:=λa H R=>t a H (nF K R)
theorem se(g:Gl X "enumerate")(j:X.mg "enumerate"=none)(k:PA X [a] t)(m:starEach [a] X.env=[(false,eval a X.env)]:=by rfl):PI X (.Tuple elts kx tp) (.Call (.Name "enumerate" p) [a] [] c) (yR X.K t):=by
 intro P s n H R I h
 refine Call_ (zh I g j Py (Hh (aQ (k c P s n H _ I h) λU S z=>?_) m Z))
 obtain⟨V,o,i,u,Q⟩:=z
 obtain⟨l,e,⟨A,v⟩,q⟩:=Q
 subst e
 cases u with
 |cons r w=>
  cases w
  cases r
  obtain⟨x,B,p,C⟩:=i.tuple v
  refine Yq p λD f d y=>?_
  refine OM f ?_
  refine#[S.heap.objs.size+1,[S.heap.objs.size+1,S.heap.objs.size],_,_,o,Z,i.kept (t':=S.toks) y,Ys l _ _ (Hn (HR _)),#[#[_,f],d],λb hb=>?_,q]
  rcases List.mem_cons.mp hb with rfl |hb
  ·exact i.fpOk (Ic _) (i.hok.fresh (Ic _))
  ·have e:b=S.heap.objs.size:=by simpa using hb
   subst e
   exact i.fpOk (Gh _) (i.hok.fresh (Gh _))
end
theorem Yt{K:Frag}{xs:List V}{g:TG}{t:TS}{D:a9}(Pv:Nat->St->Hp->Prop)(j:Pv 0 b H)(k:∀i b H,i<=xs.length->Pv i b H->aw K H a xs)
  (l:∀E:a9,E.rt=D.rt->∀i x p b H,xs[i]?=some x->H p=none->(∀c e,Pv (i+1) c e->E.nx c e)->∀G:Prop,((g (.ref p) b (af H p (.tup [.int i,x])) λf n=>t E f n)->G)->Pv i b H->G) (o:∀b H,Pv xs.length b H->D.nx b H):oy (yr K a) g t D b H:=by
 refine#[λi m b H=>m=xs.length - i/\i<=xs.length/\Pv i b H,#[xs.length,P5,Gp _,j],?_]
 rintro i m b H ⟨rfl,s,p⟩
 have q:=k i b H s p
 by_cases d:i < xs.length
 ·refine .inr #[#[xs,xs[i],q,Gc d],Pv (i+1),λc e P=>#[xs.length - (i+1),P0,Z,d,P],λx e y=>?_]
  obtain⟨r,v,rfl,u,rfl,w⟩:=y
  exact l { D with nx:=Pv (i+1),ct:=Pv (i+1),bk:=D.nx } Z i v r b H (w xs q) u (λ_ _ h=>h) _ (λz=>z) p
 ·exact .inl #[#[xs,q,P0],o _ _ (by rw[show xs.length=i by omega];exact p)]
abbrev FE(K:Frag)(i j:Nat):TG:=oC K 2 (dh (bu i) (dh (bu j) pN))
theorem CU{t:St}(h:t.length=2):∃a b,t=[a,b]:=by
 cases t with
 |nil=>cases h
 |cons a r=>
  cases r with
  |nil=>cases h
  |cons b R=>
   cases R with
   |nil=>exact#[a,b,Z]
   |cons _ _=>cases h
theorem XL{K:Frag}{X:List V}{t:TE}{n:List V->Hp->Prop}(f:Nat->V)(u:X.length<=sizeLine)(b:aH K H a X)
  (p:∀(i:Nat) (x:V),X[i]?=some x->∃q y z,x= .ref q/\aw K H q [y,z]/\∀Q:VK,Q (f i) H->t (some y::some z::c) H Q) (r:n ((List.range X.length).map f) H):
  eE (uN K a) 2 c (FE K 0 1) lD t n H:=by
 refine#[λi m o d=>m=X.length - i/\i<=X.length/\o=(List.range i).map f/\d=H,#[X.length,P5,Gp _,P5,Z],?_]
 rintro i m o d ⟨rfl,w,rfl,rfl⟩
 by_cases h:i < X.length
 ·refine .inr #[#[X,X[i],b,Gc h],?_,λY g=>Y=(List.range (i+1)).map f/\g=d,λY g #[P,s]=>#[X.length - (i+1),P0,Z,h,P,s],λv g T j y=>?_]
  ·rw[Gg,Lv]
   omega
  obtain⟨e,y⟩:=y
  subst e
  obtain⟨q,A,B,rfl,k,l⟩:=p i v (y X b)
  obtain⟨C,D,rfl⟩:=CU j
  refine#[q,_,Z,k,Z,_,_,Z,_,_,Z,Z,#[[some _,some _],Z,Z],l _ #[?_,Z]]
  rw[List.range_succ,GY]
  rfl
 ·have e:i=X.length:=by omega
  subst e
  exact .inl #[#[X,b,Gh _],r]
def yn(K:Frag)(A:Addr)(t:El)(b:TS):TS:=λD a H=>t D (λx C d _ h=>mroIn K C (.ref A)=some true/\∀T,h T=none->b D a (af (af h T (gg T)) x (gK C d T x))) a H
section
variable {X:Cx}{st a₀ b₀:Stmt}{as bs:List Stmt}{tb:El}{ta tc:TS}{ca cb:Str}{np np' hp hp' pos:Pos}{A B:Addr}
theorem wu(a:X.stack=X.env::X.outer)(J:X.env.frame=some X.env.locals)(hb:Fi X st tb)(hg:Gl X ca)(hm:X.mg ca=some (.ref A))(hA:clsIn X.K A≠none)(tA:typeIn X.K (.ref A)=some (.type "type"))(mA:mroIn X.K A (.type "BaseException")=some true)
  (hs:∀e,lH (X.mark e λ_ _=>False) (a₀::as) ta) (L:(ca==("__debug__":Str))=false:=by decide):
  PS X (.Try [st] [.ExceptHandler (some (.Name ca np)) none (a₀::as) hp] [] [] pos) (yn X.K A tb ta):=by
 intro p s M H D I h
 refine wpAny_Try_except (M1 (HI (hb p s M H D _ I h) (λf b q=>?_) λe b q=>?_))
 ·cases f with
  |next=>exact Lb (Lb q)
  |ret v=>exact q
  |brk=>exact q
  |cont=>exact q
 obtain⟨x,C,d,T,N,rfl,l,Y,hT,m,q⟩:=q
 obtain⟨⟨ox,vs,h1,h2,h3,h4,O,h6⟩,_⟩:=l.hok x _ Y
 obtain⟨⟨oT,G,t1,t2,t3⟩,_⟩:=l.hok T _ hT
 have o:=(Array.getElem?_eq_some_iff.mp h6).1
 have P:X.A.frames=some (X.env::X.outer):=by rw[<- a];exact l.ok.frames
 have R:b.heap.FunFrames X.base (X.env::X.outer):=by rw[<- a];exact l.stack
 refine Qm (base:=X.base) P R J h1 O h6 m t1 t2 t3 λg2 Nd=>?_
 have u:(dS T b.heap).get? x=some ox:=(Gv _ _ m).trans h1
 refine y6 (s:={ b with heap:=g2 }) Nd u O o λg3 U=>?_
 obtain⟨t,hn,E,i⟩:=(l.cleared hT t1 t2 t3).noted (C:=C) (d:=d) (t':=b.toks) Y u h2 h4 O o (by unfold iH;rw[a];exact U)
 have i:ap X p M (af (af N t (gg t)) x (gK C d t x)) { b with heap:=g3 }:=i
 obtain⟨⟨o1,v1,k1,k2,k3,k4,k5,k6⟩,_⟩:=i.hok x _ jc
 have F:af (af N t (gg t)) x (gK C d t x) t=some (gg t):=by rw[ji E,jc]
 obtain⟨⟨o2,t0,u1,u2,u3⟩,_⟩:=i.hok t _ F
 have g:∀{E':Value->Shared->Prop} {c:Stmt} {V:List Stmt} {G:TS} {hp:Pos},(∀e,lH (X.mark e λ_ _=>False) (c::V) G)->G D M (af (af N t (gg t)) x (gK C d t x))->codeAny (model X.prog X.w) (X.A.mark (some (.ref x))) (Code.handlers (.ref x) [.ExceptHandler none none (c::V) hp] X.env) (λr S=>match r with | .ok f=>SP X p D f S | .error y=>cameBackBy (model X.prog X.w) X.A X.env E' y S) { b with heap:=g3 }:=by
  intro E' c V G hp hz qz
  refine codeAny_handlers_suite ?_
  unfold setFlight
  refine Gb (GL k1 k5 k6 ?_)
  rw[Gw (show(Value.ref t != Value.none)=true from by simp)]
  refine Hm u1 u2 (Array.getElem?_eq_some_iff.mp u3).1 ?_
  have I4:=i.cleared F u1 u2 u3
  refine HI (hz (.ref x) p _ _ _ D (I4.mark (.ref x) λ_ _=>False) qz) (λf s6 Q=>?_) λ_ _ z=>z.elim
  cases f with
  |next=>obtain⟨j,W,k,n⟩:=Q;exact#[_,_,k.unmark I.ok,n]
  |brk=>obtain⟨j,W,k,n⟩:=Q;exact#[_,_,k.unmark I.ok,n]
  |cont=>obtain⟨j,W,k,n⟩:=Q;exact#[_,_,k.unmark I.ok,n]
  |ret v=>obtain⟨y,j,W,k,rv,n⟩:=Q;exact#[y,_,_,k.unmark I.ok,rv,n]
 obtain⟨mC,q⟩:=q
 refine wpAny_handleBy_cons (codeAny_handlers_test ?_) (by intro z;cases z)
 refine zJ (i.mark (.ref x) λ_ _=>False) hg hm ?_ L
 refine KL i.kIn k1 k2 hA tA mA mC _ _ _ _ (λ_ _ e=>e) ?_
 exact g hs (q t hn)
end
section
variable {X:Cx}{pins:List (Addr×Obj)}{σ:St}{H:Hp}{s:Shared}{A:Around}{E:Value->Shared->Prop}
theorem pi{Q:Value->Shared->Prop}(I:ap X pins σ H s)(e:H a=some (.dK k))(j:H b=some (.dK m))(f:a≠b)(c:k.length+m.length<=sizeLine)
  (h:∀S,ap X pins σ (af H a (.dK (bV k m))) S->Q .none S):wpAny (model X.prog X.w) A (call (.builtin "dict.update") [.ref a,.ref b]) Q E s:=by
 obtain⟨z,l,V,R,i⟩:=Q6 I.hok e
 obtain⟨u,g,v,r,D⟩:=Q6 I.hok j
 refine NW MS i.typeIs PySem.F.entry_dict_update (PySem.F.args_dict_update_2 _ _) (meets_dict_update (aT X.prog X.w) a b f g)
  #[V,v,i,D,by rw[<- R.length,<- r.length];exact c,λn d _ o=>h _ ?_]
 have p:∃q,n.get? a=some q:=let #[q,_,_,t,_]:=d;#[q,t]
 exact QR I (by rw[e];exact True.intro) o p (QD (Gr (kX m k) c) l (KV.merge r R) d)
inductive Du(x:V)(e:List V)(H:Hp)(Q:VK):Prop
 |mk(a b:Addr)(d c:List (bh×V))(_:x= .ref a)(_:e=[.ref b])(_:H a=some (.dK d))(_:H b=some (.dK c))(_:a≠b)(_:d.length+c.length<=sizeLine)(_:Q .non (af H a (.dK (bV d c))))
theorem vH:Cc X "dict.update" Du:=by
 intro pins s σ H x V v U Q I r R h
 obtain⟨a,b,k,m,rfl,rfl,e,f,c,d,q⟩:=h
 obtain⟨u,rfl,g⟩:=ax.one R
 cases r
 cases g
 exact pi I e f c d λS i=>#[.non,_,i,Z,q]
end
end _L
namespace _L
open PySem PySem.Spec PyProof.Rows
theorem bH.m(r:bH k A)(h:j<=k:=by omega):bH j A:=r.mono h
theorem bK{N P:List Str}{s:Scope}(a:s.kind=.function:=by rfl)(b:s.isCoroutine=false:=by rfl)(c:s.isGenerator=false:=by rfl)(d:N.Nodup:=by decide +kernel)(e:N.take P.length=P:=by rfl)(f:∀x∈P,s.names.lookup x=some .local ∨ s.names.lookup x=some .cell:=by decide +kernel)(g:∀y∈s.names,y.2≠.free:=by decide +kernel):aj N P s:=#[a,b,c,d,e,f,g]
theorem oY{N:List Str}{s t:Scope}{M:List Str}{i:List Nat}(a:∀y∈t.names,y.2≠.cell:=by decide +kernel)(b:t.kind=.function:=by rfl)(c:∀y∈t.names,y.2=.local->t.names.lookup y.1=some .local:=by decide +kernel)(d:∀y∈t.names,y.2=.free->s.names.lookup y.1=some .cell:=by decide +kernel)(e:M.drop n=i.map (λi=>N.getD i Str.empty):=by decide +kernel)(f:M.length=n+i.length:=by rfl)(g:∀j∈i,t.names.lookup (N.getD j Str.empty)=some .free:=by decide +kernel):bG N s t M n i:=#[a,b,c,d,e,f,g]
end _L
local macro_rules|`(tactic|obtain $p:rcasesPat:=$t)=>`(tactic|(refine _L.aU λG k=>?_;rcases $t:term with $p:rcasesPat<;>(refine k ?_;clear k)))
namespace _K
open PySem PySem.Spec PyProof.Rows _L
abbrev z0z:List Str:=["_law_box_here","_law_wide"]
abbrev z1z:List Str:=["term"]
abbrev z2z:List Str:=["_law_box_here"]
abbrev z3z:List Str:=["statement","behind"]
abbrev z4z:List Str:=["statement"]
abbrev z5z:List Str:=["_law_box_here","_law_names_here","_law_heads","_law_spare","_law_deep"]
abbrev z6z:List Str:=["self","parts","cells","most"]
abbrev z7z:List Str:=["self","statement","behind"]
abbrev z8z:List Str:=["path","what"]
abbrev z9z:List Str:=["term","held"]
abbrev z10z:List Str:=["self","deed","deep"]
abbrev z11z:List Str:=["_law_box_here","_law_names_here","_law_deep"]
abbrev z12z:List Str:=["self","body","behind"]
abbrev z13z:List Str:=["part","n","held"]
abbrev z14z:List Str:=["self","part","args","deep"]
abbrev z15z:List Str:=["self","path","old","deep"]
abbrev z16z:List Str:=["body","behind"]
abbrev z17z:List Str:=["_law_box_here","_law_a","_law_b"]
abbrev z18z:List Str:=["name","params","body"]
abbrev z19z:List Str:=["_law_box_here","_law_f","_law_inner_here","_law_w"]
abbrev z20z:List Str:=["self","statement","place","behind"]
abbrev z21z:List Str:=["sign","left","right"]
abbrev z22z:List Str:=["self","cells","most"]
abbrev z23z:List Str:=["self","path","old","deed","deep"]
abbrev z24z:List Str:=["_law_box_here","_law_total"]
abbrev z25z:List Str:=["_law_box_here","_law_names_here"]
abbrev z26z:List Str:=["parts","f","args","cells","most"]
abbrev z27z:List Str:=["parts","old","cells","most"]
abbrev z28z:List Str:=["_law_box_here","_law_total","_law_letters","_law_wide","_law_spot_here","_law_signs","_law_first","_law_form","_law_found","_law_k","_law_one","_law_word","_law_some","_law_odd"]
abbrev z29z:List Str:=["_law_k","_law_box_here","_law_letters"]
abbrev z30z:List Str:=["_law_j","_law_box_here","_law_letters"]
abbrev z31z:List Str:=["num","var","op","go","ask","back","chain","sets","iff","ends","calls","reads","gives"]
abbrev z32z:List Str:=["_law_one","_law_box_here","_law_names_here"]
abbrev z33z:List Str:=["_law_box_here","_law_total","_law_room"]
abbrev z34z:List Str:=["_law_box_here","_law_f","_law_g","_law_w"]
abbrev z35z:List Str:=["_law_parts","_law_f","_law_args","_law_cells_here"]
abbrev z36z:List Str:=["_law_parts","_law_book_here","_law_cells_here","_law_box_here"]
abbrev z37z:List Str:=["_law_box_here","_law_names_here","_law_heads","_law_spare","_law_deep","_law_kind","_law_x","_law_f","_law_params","_law_body_here"]
abbrev z38z:List Str:=["_law_box_here","_law_f","_law_inner_here","_law_w","_law_n","_law_i","_law_s","_law_x","_law_y","_law_body_here","_law_spot_here","_law_start","_law_loop"]
abbrev z39z:List Str:=["_law_box_here","_law_f","_law_inner_here","_law_w","_law_n","_law_i","_law_s","_law_x","_law_y","_law_spot_here","_law_body_here","_law_kept","_law_some","_law_start","_law_loop"]
abbrev z40z:List Str:=["_law_box_here","_law_program","_law_total","_law_f","_law_params","_law_body_here"]
variable {P:Program}{w:World}{K:Frag}{mg:Str->Option Value}{base:Heap}
noncomputable def bL(i:Nat):Stmt:=PySem.Challenge.pw_againbook_k37_nothing_changed.main.body.getD i (.Pass #[0,0,0,0])
noncomputable abbrev A5:Stmt:=bL 60
noncomputable abbrev sR:Stmt:=bL 61
noncomputable abbrev gZ:Stmt:=bL 63
def aB(p:Addr)(H h:Hp):Prop:=∀b o,b≠p->H b=some o->h b=some o
theorem aB.refl:aB p H H:=λ_ _ _ h=>h
theorem aB.trans(a:aB p H d)(b:aB p d e):aB p H e:=λc o n h=>b c o n (a c o n h)
theorem aB.of_eq{H a:Hp}(h:∀b,b≠p->a b=H b):aB p H a:=λb o n e=>by rw[h b n];exact e
theorem aB.upd_new{o:HO}(a:aB p H h)(n:h r=none):aB p H (af h r o):=λb u N e=>by
 have q:=a b u N e
 rw[ji (jk q n)];exact q
theorem aB.upd_own(a:aB p H h)(n:H r=none):aB p H (af h r o):=λb u N e=>by
 rw[ji (jk e n)];exact a b u N e
structure aq(H:Hp)(p:Addr):Prop where
 ob:∃a b:Int,0<=a/\1<=b/\b<=2147483646/\H p=some (.lst [.int a,.int b])
theorem aq.eq{c:Hp}(B:aq H p)(e:c p=H p):aq c p:=by
 obtain⟨a,b,d,f,g,h⟩:=B.ob
 exact#[a,b,d,f,g,by rw[e];exact h]
theorem aq.upd_new{o:HO}(B:aq H p)(n:H r=none):aq (af H r o) p:=by
 obtain⟨a,b,c,d,e,h⟩:=B.ob
 exact B.eq (by rw[ji (jk h n)])
theorem aq.ne(B:aq H p)(n:H r=none):r≠p:=by
 obtain⟨a,b,c,d,e,h⟩:=B.ob
 exact G7 (jk h n)
inductive aZ(c:List V)(H:Hp)(Q:VK)(a:XK):Prop
 |mk(p:Addr)(w:Int)(_:c=[.ref p,.int w])(_:aq H p)(_:0 < w)(_:w<=1000000000000000000)(_:∀(d:Int) (H':Hp),0<=d->d < w->aq H' p->(∀b,b≠p->H' b=H b)->Q (.int d) H')
inductive n8(K:Frag)(e:List V)(H:Hp)(Q:VK)(c:XK):Prop
 |mk(a:Addr)(d:List Int)(k:Int)(_:e=[.ref a,.int k])(_:aH K H a (d.map V.int))(_:0<=k)(_:k < 1000)(_:∀(r:Addr) (H':Hp),H r=none->aq H' r->(∀b,b≠r->H' b=H b)->Q (.ref r) H')
theorem ug:(10:Int) ^ (18:Int).toNat=1000000000000000000:=by decide
theorem pZ{ns:List Int}{k:Int}(H:0<=k)(a:k < (ns.length:Int)):∃v:Int,dA (ns.map V.int) k=some (.int v):=by
 have h:k.toNat < ns.length:=by omega
 have e:k=((k.toNat:Nat):Int):=by omega
 have q:dA (ns.map V.int) ((k.toNat:Nat):Int)=some (.int ns[k.toNat]):=jH (by rw[Gz,Gc h];rfl)
 rw[<- e]at q
 exact#[_,q]
structure Cl(P:Program)(w:World)(K:Frag)(mg:Str->Option Value)(base:Heap)(L:Nat)(f:Addr)(fd:FuncData)(ps:List Str)(sp:Sp)(py:Str):Prop where
 g:ah P w K mg base ay L f fd ps sp
 b:au K fd ps []
 k:keepIn K (.ref f)=true
 m:mg py=some (.ref f)
theorem Cl.e{X:Cx}{e:Expr}(c:Cl X.prog X.w X.K X.mg X.base L f o q s a)(i:bH L X.A)(j:PA X (e::E) t)(l:Gl X a:=by rfl)(h:(a==("__debug__":Str))=false:=by decide)(n:starEach (e::E) X.env=(false,eval e X.env)::starEach E X.env:=by rfl)(H:(backTo d (starEach E X.env)).any (·.1)=false:=by rfl):PE X (.Call (.Name a p) (e::E) [] d) (dF s [] E0 t):=kC c.g i l c.m c.k c.b .nil a6 j h n H
theorem jx{X:Cx}(h:PE X a t):PE X (.Subscript a (.Constant (.int i) j p) b) (dG (fc X.K) t (tC (.int i))):=jr jM h jf λ_ _=>Z
theorem jy{X:Cx}{p:Pos}(i:Nat)(h:X.N.Nodup)(H:PE X e t)(b:X.N[i]?=some x:=by rfl)(c:oO X.env.scope x:=by exact Or.inl Z)(d:swapsWith e (some (.Name x a)) p.line X.env=pure false:=by rfl)(f:X.fn x=true∨X.env.scope.names.lookup x=some .local:=by first |exact .inl Z |exact .inr Z |assumption):PS X (.Assign [.Name x a] e p) (dO t (bu i)):=kL h b c H d f
theorem js{K:Frag}{H:Hp}{Q:VK}(h:H p=some (.tup x))(a:dA x n=some v)(q:Q v H)(e:b[i]?=some (some (.ref p)):=by rfl):dG (fc K) (a7 i) (tC (.int n)) b H Q:=#[_,e,p,x,n,v,Z,Z,aw.of h,a,q]
theorem j5{X:Cx}(h:PE X a t):PT X (.Compare a [.Eq] [.Constant (.str x) j p] b) (iO (dG Do t (tC (.str x)))):=jz qi h jm Z
theorem za{X:Cx}(h:PE X a t):PT X (.Compare a [.Eq] [.Constant (.int x) j p] b) (iO (dG Do t (tC (.int x)))):=jz qi h jf Z
theorem hG:aj ["_law_box_here","_law_wide","_law_digit","_law_one","_law_mixed"] z0z (aa sR):=bK
theorem wc(F:aN K "_law_take" "_law_take" sR f x):ah P w K mg base ay 1 f x z0z aZ:=by
 refine F.ok hG ?_ λC A O s H V Q E z h=>?_
 ·rintro _ _ _ _ ⟨p,w,rfl,_⟩
  rfl
 obtain⟨p,W,rfl,B,d,g,q⟩:=h
 obtain⟨a,b,l,i,j,e⟩:=B.ob
 refine#[_,jd (jv (jz Jn (jr jq (pv 0) jf (λ_ _=>Z)) jf (aD _))
   (jd (jy 2 hG.nd (ju kQ (jr jq (pv 0) jf (λ_ _=>Z)) (pv 1)))
   (jd (zb (ju Kc (jr jq (pv 0) jf (λ_ _=>Z)) (pv 1)) (qq (pv 0) jf zn))
   (jg (jo (pv 2))))) jp)
  (jd (jy 3 hG.nd (ju kQ (ju zi (jr jq (pv 0) jf (λ_ _=>Z)) jf) jf))
  (jd (zb (ju jY (ju kQ (ju jY (ju zi (pv 3) jf) jf) jf) jf) (qq (pv 0) jf zn))
  (jd (jy 4 hG.nd (ju Kc (ju jY (ju zi (pv 3) jf) (jr jq (pv 0) jf (λ_ _=>Z))) jf))
  (jd (jv (jz Jn (pv 1) (ju J4 jf jf) (aD _)) (jg (jy 4 hG.nd (ju zi (pv 4) (pv 4)))) jp)
  (jg (jo (ju kQ (pv 4) (pv 1)))))))),?_]
 refine#[_,Z,p,_,_,_,Z,Z,aH.of e,Z,_,_,Z,Z,_,Z,?_]
 refine bP (λc=>?_) (λc=>?_)
 ·have D:(0:Int) < a:=HK c
  refine#[_,Z,p,_,_,_,Z,Z,aH.of e,Z,_,Z,_,_,Z,Z,d,?_]
  refine#[_,Z,p,_,_,_,Z,Z,aH.of e,Z,_,Z,_,_,Z,Z,#[d,g],_,Z,p,_,_,0,Z,Z,e,Z,_,Z,?_]
  refine q (a % W) _ (Hv _ P0) (Hj _ d) #[a / W,b,Oz l P0,i,j,jc] λb n=>ji n
 ·have I:0<=b*69621 % 2147483647:=Hv _ PZ
  have J:b*69621 % 2147483647 < 2147483647:=Hj _ PZ
  refine#[_,Z,p,_,_,_,Z,Z,aH.of e,Z,_,_,Z,Z,.inr #[PZ,PZ],_,_,Z,Z,(by show(0:Int) < 2147483647;decide),?_]
  refine#[_,Z,_,_,Z,Z,.inr #[PZ,PZ],_,_,Z,Z,_,_,Z,Z,(by show(0:Int) < 2147483646;decide),_,_,Z,Z,_,Z,p,_,_,1,Z,Z,e,Z,?_]
  generalize m:b*69621 % 2147483647=o at*
  have N:0<=(o*48271+30103) % 2147483646:=Hv _ PZ
  have L:(o*48271+30103) % 2147483646 < 2147483646:=Hj _ PZ
  generalize r:(o*48271+30103) % 2147483646=t at*
  refine#[_,Z,_,_,Z,Z,.inr #[PZ,PZ],_,Z,p,_,_,_,Z,Z,aH.of jc,Z,_,_,Z,Z,_,_,Z,Z,#[PZ,PZ],?_]
  have X:0<=(o*2147483647+(t+1)) / 8191:=by omega
  have R:(o*2147483647+(t+1)) / 8191 < 18446744073709551616:=by omega
  generalize u:(o*2147483647+(t+1)) / 8191=M at*
  refine#[_,Z,_,_,Z,Z,#[PZ,PZ,PZ],_,_,Z,Z,_,Z,?_]
  have v:aq (af H p (.lst [.int a,.int (t+1)])) p:=#[a,t+1,l,P0,P0,jc]
  refine bP (λy=>?_) (λy=>?_)
  ·refine#[_,Z,_,Z,_,_,Z,Z,.inl #[P0,P0],?_]
   refine#[_,Z,_,Z,_,_,Z,Z,d,?_]
   exact q _ _ (Hv _ P0) (Hj _ d) v λb n=>ji n
  ·refine#[_,Z,_,Z,_,_,Z,Z,d,?_]
   exact q _ _ (Hv _ P0) (Hj _ d) v λb n=>ji n
theorem lQ:aj ["_law_script","_law_k","_law_cell","_law_seed"] ["_law_script","_law_k"] (aa A5):=bK
theorem Al(F:aN K "_law_box" "_law_box" A5 f I)(m:mg "len"=none)(M:mg "int"=none):ah P w K mg base ay 1 f I ["_law_script","_law_k"] (n8 K):=by
 refine F.ok lQ ?_ λJ A o s H W Q E X h=>?_
 ·rintro _ _ _ _ ⟨a,ns,k,rfl,_⟩
  rfl
 obtain⟨a,ns,k,rfl,d,i,L,q⟩:=h
 refine#[_,jd (jy 2 lQ.nd (ju jY (ju zi jf (pv 1)) jf))
  (jd (jv (jz K0 (pv 1) (jN jK Z m HJ (ja (pv 0) jb)) (aD _))
   (jg (jy 2 lQ.nd (jr jq (pv 0) (pv 1) (λ_ _=>Z))))
   (jg (jv (jz Jn (jN jK Z m HJ (ja (pv 0) jb)) jf (aD _))
    (jg (jy 2 lQ.nd (ju jY (pv 2) (ju zi (ju kQ (jr jq (pv 0) (ju kQ (pv 1) (jN jK Z m HJ (ja (pv 0) jb))) (λ_ _=>Z)) jf) jf)))) jp)))
  (jd (jy 3 lQ.nd (ju jY (ju kQ (ju jY (ju zi (ju kQ (pv 2) jf) jf) (ju zi jf (pv 1))) jf) jf))
  (jg (jo (jF (ja (ju zi (pv 2) (jD Jg Z M PQ (ja (JE rV (pv 2) (ju J4 jf jf) (aD _)) jb))) (ja (pv 3) jb))))))),?_]
 have e:(ns.map V.int).length=ns.length:=Gg _
 have T:∀c:Int,∃v:V,∃x:Int,v= .int x/\1<=x/\x<=2147483646/\v= .int ((c % 2147483629*48271+40692*k) % 2147483646+1):=λc=>by
  have N:0<=(c % 2147483629*48271+40692*k) % 2147483646:=Hv _ PZ
  have O:(c % 2147483629*48271+40692*k) % 2147483646 < 2147483646:=Hj _ PZ
  exact#[_,_,Z,P0,P0,Z]
 have j:∀(c:Int) (r:Addr),H r=none->Q (.ref r) (af H r (.lst [.int (c*(if decide ((10:Int) ^ (18:Int).toNat<=c)=true then 1 else 0)),.int ((c % 2147483629*48271+40692*k) % 2147483646+1)])):=λc r R=>by
  refine q r _ R #[_,_,?_,?_,?_,jc] λb n=>ji n
  ·rw[ug]
   by_cases h:(1000000000000000000:Int)<=c
   ·rw[G8 h,Gw Z];omega
   ·rw[GH h,GG Gn];omega
  ·have N:0<=(c % 2147483629*48271+40692*k) % 2147483646:=Hv _ PZ
   omega
  ·have O:(c % 2147483629*48271+40692*k) % 2147483646 < 2147483646:=Hj _ PZ
   omega
 have B:∀c:Int,uI c (if decide ((10:Int) ^ (18:Int).toNat<=c)=true then 1 else 0):=λc=>.inr (by split<;>decide)
 refine ai λF0 u=>#[_,Z,_,_,Z,Z,.inl #[PZ,PZ],_,_,Z,Z,u _ _ ?_]
 clear u
 refine ai λS y=>?_
 have l:∀c:Int,S [some (.ref a),some (.int k),some (.int c),none] H:=λc=>y _ _ (ai λF2 U=>#[_,Z,_,_,Z,Z,(by show(0:Int) < 2147483629;decide),_,_,Z,Z,.inr #[PZ,PZ],_,Z,_,_,Z,Z,.inl #[PZ,PZ],_,_,Z,Z,_,_,Z,Z,(by show(0:Int) < 2147483646;decide),_,_,Z,Z,U _ _ (#[_,Z,_,Z,_,_,Z,Z,#[PZ,PZ,PZ],_,_,Z,Z,.inr #[_,Z,_,_,Z,Z,B c,_,Z,bN,j c]])])
 clear y
 refine nG λG g=>#[_,Z,_,Z,a,_,Z,.inl d,_,_,Z,Z,_,Z,g _ _ ?_]
 clear g
 refine bP (λc=>?_) (λc=>?_)
 ·have C:k < (((ns.map V.int).length:Nat):Int):=HK c
  rw[e]at C
  obtain⟨v,p⟩:=pZ (ns:=ns) i C
  exact#[_,Z,_,Z,a,_,_,_,Z,Z,d,p,l v]
 ·have C:¬k < (((ns.map V.int).length:Nat):Int):=Mb (Bool.eq_false_iff.mpr c)
  rw[e]at C
  refine nG λG g=>#[_,Z,a,_,Z,.inl d,_,_,Z,Z,_,Z,g _ _ ?_]
  clear g
  refine bP (λz=>?_) (λz=>?_)
  ·have D:(0:Int) < (((ns.map V.int).length:Nat):Int):=HK z
   obtain⟨v,p⟩:=pZ (ns:=ns) (k:=k % (((ns.map V.int).length:Nat):Int)) (Hv _ P0) (by have:=Hj k D;rw[e]at this;rw[e];exact this)
   exact#[_,Z,_,Z,_,Z,_,Z,a,_,Z,.inl d,_,_,Z,Z,D,a,_,_,_,Z,Z,d,p,_,_,Z,Z,(by show(0:Int) < 2147483629;decide),_,_,Z,Z,.inr #[PZ,PZ],_,_,Z,Z,l _]
  ·exact l _
theorem nk(i j:Str):(i++j).length=i.length+j.length:=by
 show(i.cps++j.cps).size=i.cps.size+j.cps.size
 exact Mv
theorem zo:1000000<=sizeLine:=by rw[Mr];decide
theorem ao{H:Hp}{o:HO}(h:H b=some u)(n:H r=none):af H r o b=some u:=by rw[ji (jk h n)];exact h
theorem tR{z:Str}{k:Int}(H:0<=k)(a:k < (z.length:Int)):∃c:Nat,dA z.cps.toList k=some c:=by
 have b:z.cps.toList.length=z.length:=GK
 have h:k.toNat < z.cps.toList.length:=by omega
 have e:k=((k.toNat:Nat):Int):=by omega
 have q:dA z.cps.toList ((k.toNat:Nat):Int)=some z.cps.toList[k.toNat]:=jH (Gc h)
 rw[<- e]at q
 exact#[_,q]
theorem J6{ys:List Str}{k:Int}(H:0<=k)(a:k < (ys.length:Int)):∃y∈ys,dA (ys.map V.str) k=some (.str y):=by
 have h:k.toNat < ys.length:=by omega
 have e:k=((k.toNat:Nat):Int):=by omega
 have q:dA (ys.map V.str) ((k.toNat:Nat):Int)=some (.str ys[k.toNat]):=jH (by rw[Gz,Gc h];rfl)
 rw[<- e]at q
 exact#[_,IR h,q]
noncomputable def bn(s:List Str)(lo h:Option Int):List Str:=(s.drop (HT.sIx s.length 0 lo)).take (HT.sIx s.length s.length h - HT.sIx s.length 0 lo)
theorem zp(s:List Str)(lo h:Option Int):aX (s.map V.str) lo h=(bn s lo h).map V.str:=by
 unfold aX bn
 rw[Gg,Lx,OJ]
theorem zD{lo:Option Int}(h:y∈bn s lo H):y∈s:=NB (Ht h)
theorem z9(s:List Str)(lo h:Option Int):(bn s lo h).length<=s.length:=by
 unfold bn
 rw[GV,Ik]
 omega
theorem qJ:∀{ys:List Str},(∀y∈ys,y.length<=1)->(ys.map (·.length)).sum<=ys.length
 | [],_=>Gh _
 |y::r,h=>by
  have a:=h y GF
  have b:=qJ (ys:=r) λz H=>h z (GJ _ H)
  rw[HS,List.sum_cons,GX]
  omega
theorem qK{z:Str}{ys:List Str}(H:z.length=0)(h:∀y∈ys,y.length<=1):(Txt.join z ys).length<=ys.length:=by
 show(Builtin.Str.glued z ys).length<=_
 rw[size_glued,H,Nat.mul_zero,Nat.add_zero]
 exact qJ h
noncomputable def di:Str:="abcdefghijklmnopqrstuvwxyz"
theorem Jy:di.length=26:=by decide+kernel
noncomputable def oF(d:Int)(k:Nat):Nat:=97+((d+5*(0+(k:Int))) % 26).toNat
theorem vE(H:i < 20)(a:j < 20)(h:oF d i=oF d j):i=j:=by
 unfold oF at h
 omega
theorem y7(H:0<=k)(a:k < 26)(h:dA di.cps.toList k=some c):c=97+k.toNat:=by
 have q:∀m:Fin 26,dA di.cps.toList (m.val:Int)=some (97+m.val):=by decide+kernel
 have e:=q #[k.toNat,P0]
 have E:((k.toNat:Nat):Int)=k:=by omega
 dsimp only at e
 rw[E,h]at e
 injection e
def Sh(A S:Str)(d:Int)(c:Nat)(w:Str):Prop:=if d=2 then ∃R:Str,w=R++#[(List.toArray [c])] else w=A++#[(List.toArray [c])]++S∨w=A++#[(List.toArray [c])]++S++"z"∨w="qqqqqqq"++#[(List.toArray [c])]
theorem kG(a b:Str):(a++b).cps.toList=a.cps.toList++b.cps.toList:=by
 show(a.cps++b.cps).toList=_
 exact Array.toList_append
theorem Xk{R:Str}(h:R++(#[(List.toArray [c])]:Str)=r++#[(List.toArray [C])]):c=C:=by
 have e:=HL (Array.toList ∘ Str.cps) h
 have e:(R++(#[(List.toArray [c])]:Str)).cps.toList=(r++(#[(List.toArray [C])]:Str)).cps.toList:=e
 rw[kG,kG]at e
 have:=List.append_inj_right' e Z
 injection this
theorem vF{S:Str}(h:A++(#[(List.toArray [c])]:Str)++S=A++#[(List.toArray [C])]++S):c=C:=by
 have e:=HL (Array.toList ∘ Str.cps) h
 have e:(A++(#[(List.toArray [c])]:Str)++S).cps.toList=(A++(#[(List.toArray [C])]:Str)++S).cps.toList:=e
 rw[kG,kG,kG,kG]at e
 have:=Nh (Ly e)
 injection this
theorem DJ{A S : Str}{d : Int}{c C : Nat}{w : Str}(i : A.length + S.length <= 5)(h : Sh A S d c w)(H : Sh A S d C w) : c = C := by
  unfold Sh at h H
  have l : ∀ c : Nat, (#[(List.toArray [c])] : Str).length = 1 :=λ_ => Z
  have L : (Str.ofString "z").length = 1 := by decide +kernel
  have f : (Str.ofString "qqqqqqq").length = 7 := by decide +kernel
  split at h
  · rename_i a
    rw [Gw a] at H
    obtain ⟨R, rfl⟩ := h
    obtain ⟨r, e⟩ := H
    exact Xk e
  · rename_i a
    rw [GG a] at H
    rcases h with rfl | rfl | rfl <;> rcases H with e | e | e
    · exact vF e
    all_goals first
      | exact Xk e
      | (have g := HL Str.length e
         simp only [nk, l, L, f] at g
         omega)
      | skip
    have E := HL (Array.toList ∘ Str.cps) e
    have E : (A ++ (#[(List.toArray [c])] : Str) ++ S ++ ("z" : Str)).cps.toList = (A ++ (#[(List.toArray [C])] : Str) ++ S ++ ("z" : Str)).cps.toList := E
    rw [kG, kG (A ++ _ ++ S)] at E
    have b := Ly E
    rw [kG, kG, kG, kG] at b
    have := Nh (Ly b)
    injection this
theorem Xl{y:List Str}:y.Nodup↔∀i j:Nat,i < j->j < y.length->y[i]?≠y[j]?:=by
 unfold List.Nodup
 rw[List.pairwise_iff_getElem]
 refine#[λh i j H a e=>?_,λh i j b a H e=>h i j H a ?_]
 ·rw[Gc (by omega:i < y.length),Gc a]at e
  injection e with e
  exact h i j P0 a H e
 ·rw[Gc b,Gc a,e]
theorem tK{A S:Str}{d D:Int}{Y:List Str}(b:A.length+S.length<=5)(g:Y.length<=20)(h:∀j y,Y[j]?=some y->Sh A S D (oF d j) y):Y.Nodup:=by
 rw[Xl]
 intro i j c H e
 have a:=h i _ (Gc (by omega:i < Y.length))
 have f:=h j _ (Gc H)
 rw[Gc (by omega:i < Y.length),Gc H]at e
 injection e with e
 rw[e]at a
 have:=vE P0 P0 (DJ b a f)
 omega
theorem ZR{y:List Str}(h:y.Nodup)(b:a∉y):(y.set n a).Nodup:=by
 rw[Xl]at h ⊢
 intro i j H c e
 rw[LY]at c
 by_cases d:n=i
 ·rw[d,Lc P0,Iy P0]at e
  exact b (GP e.symm)
 ·by_cases f:n=j
  ·rw[f,Lc P0,Iy P0]at e
   exact b (GP e)
  ·rw[Iy d,Iy f]at e
   exact h i j H c e
theorem vO{y:List Str}(h:nH (.str a) (y.map V.str)=false):a∉y:=λm=>by
 unfold nH at h
 rw[N4]at h
 exact h (.str a) (List.mem_map.mpr #[a,m,Z]) (by simp [mw])
theorem ve{ss:List Str}{d1 d2:Int}(h:ss.length=(1+d1).toNat)(a:0<=d2)(b:d2 < 1+d1):(bn ss none (some d2)).length+(bn ss (some (d2+1)) none).length<=d1.toNat:=by
 obtain⟨k,rfl⟩:∃k:Nat,d2=k:=#[d2.toNat,(NO a).symm]
 obtain⟨n,rfl⟩:∃n:Nat,d1=n:=#[d1.toNat,(NO P0).symm]
 have H:k<=n:=by omega
 have h:ss.length=n+1:=by rw[h];omega
 clear a b
 unfold bn
 rw[show((k:Int)+1)=((k+1:Nat):Int) from Z,HT.sIx_nat,HT.sIx_nat,GV,GV,Ik,h,I9 (HY H),I9 (Nat.le_succ_of_le H)]
 refine Gr (Nat.add_le_add (MT _ _) (MT _ _)) ?_
 show k - 0+(n+1 - (k+1))<=n
 rw[My,Nat.add_sub_add_right,NJ H]
 exact Gh _
theorem EL{S:Str}:Sh A S d c ("qqqqqqq"++#[(List.toArray [c])]):=by
 unfold Sh
 split
 ·exact#[_,Z]
 ·exact .inr (.inr Z)
theorem EM{A S:Str}{d:Int}{c:Nat}{w:Str}(h:if d=2 then ∃R:Str,w=R++#[(List.toArray [c])] else w=A++#[(List.toArray [c])]++S∨w=A++#[(List.toArray [c])]++S++"z"):Sh A S d c w:=by
 unfold Sh
 split at h
 ·rename_i e;rw[Gw e];exact h
 ·rename_i e;rw[GG e];exact h.elim .inl λz=>.inr (.inl z)
noncomputable def pre(s:List Str)(d:Int):Str:=Txt.join "" (bn s none (some d))
noncomputable def eU(s:List Str)(d:Int):Str:=Txt.join "" (bn s (some (d+1)) none)
inductive fQ(b:List V)(H:Hp)(Q:VK)(a:XK):Prop
 |mk(p:Addr)(n:Int)(_:b=[.ref p,.int n])(_:aq H p)(_:1<=n)(_:n<=20)(_:∀(r:Addr) (ys:List Str) (H':Hp),H r=none->H' r=some (.lst (ys.map V.str))->(ys.length:Int)=n->(∀y∈ys,y.length<=20)/\ys.Nodup->aq H' p->aB p H H'->Q (.ref r) H')
theorem be:aj z28z z24z (aa gZ):=bK
noncomputable def KW:Scope:=#[.function,[(".0",.local),("_law_k",.local),("_law_take",.globalImplicit),("_law_box_here",.free),("_law_letters",.free)],false,false,[]]
theorem Yu:(z29z:List Str).Nodup:=by decide+kernel
theorem Yv:bG z28z (aa gZ) KW z29z 1 [0,2]:=oY
noncomputable def KY:Scope:=#[.function,[(".0",.local),("_law_j",.local),("_law_take",.globalImplicit),("_law_box_here",.free),("_law_letters",.free)],false,false,[]]
theorem Yw:(z30z:List Str).Nodup:=by decide+kernel
theorem Yx:bG z28z (aa gZ) KY z30z 1 [0,2]:=oY
theorem qY{p:Addr}{Q:List V->Hp->Prop}(o:n<=20)(B:aq f p)
  (q:∀(S:List Str) (H:Hp),S.length=n->(∀s∈S,s.length<=1)->aq H p->(∀b,b≠p->H b=f b)->Q (S.map V.str) H):
  eE (uC 0 n) 1 [some (.ref p),some (.str di)] (bu 0) lD (dG wB (a7 2) (dF aZ [] E0 (am (a7 1) (am (tC (.int 26)) aO)))) Q f:=by
 refine XA (λi y H=>∃S:List Str,y=S.map V.str/\S.length=i/\(∀s∈S,s.length<=1)/\aq H p/\∀b,b≠p->H b=f b)
  #[[],Z,Z,(λ_ h=>nomatch h),B,λ_ _=>Z] (Gr o PZ) (λi y H #[S,e,l,_]=>by rw[e,Gg,l];exact Gh _) ?_ ?_
 ·intro i y H x a
  obtain⟨S,rfl,g,j,m,E⟩:=a
  refine#[_,Z,_,Z,p,26,Z,m,PZ,PZ,λd A D r t u=>?_]
  obtain⟨c,v⟩:=tR (z:=di) D (by rw[Jy];exact r)
  refine#[_,_,c,Z,Z,PZ,v,S++[#[(List.toArray [c])]],by rw[GY];rfl,by rw[Gi,g];rfl,λs hs=>?_,t,λb N=>(u b N).trans (E b N)]
  rcases List.mem_append.mp hs with hs |hs
  ·exact j s hs
  ·rw[List.mem_singleton.mp hs];exact Gh 1
 ·intro y H a
  obtain⟨S,rfl,g,j,m,E⟩:=a
  exact q S H g j m E
def Rw(p g r:Addr)(n d D b e:Int)(i c:Nat)(s y:List Str)(H:Hp)(L:Nat)(Z:Str->Prop):_L.St->Hp->Prop:=λa h=>∃W:Str,(W.length<=L/\Z W)/\
 a=[some (.ref p),some (.int n),some (.str di),some (.int (1+d)),some (.int D),some (.ref g),some (.int b),some (.int e),some (.ref r),some (.int (0+(i:Int))),some (.str #[(List.toArray [c])]),some (.str W),none,none]/\
 h g=some (.lst (s.map V.str))/\h r=some (.lst (y.map V.str))/\aq h p/\aB p H h
def Rf(p r:Addr)(n:Int)(H:Hp):_L.St->Hp->Prop:=λa h=>a[8]?=some (some (.ref r))/\∃Y:List Str,h r=some (.lst (Y.map V.str))/\(Y.length:Int)=n/\((∀y∈Y,y.length<=20)/\Y.Nodup)/\aq h p/\aB p H h
theorem Qr(Y:List Str):(Y.map V.str).all cq=true:=by
 rw[LC]
 intro v h
 obtain⟨y,_,rfl⟩:=List.mem_map.mp h
 rfl
theorem tI(Y:List Str)(j:Nat)(y:Str):(Y.map V.str).set j (V.str y)=(Y.set j y).map V.str:=(OT ..).symm
inductive NI(p g r:Addr)(n b c d e:Int)(v:List Str)(H:Hp)(i:Nat)(x:_L.St)(a:Hp):Prop
 |mk(s t u:Option V)(w:List Str)(f:x=[some (.ref p),some (.int n),some (.str di),some (.int (1+b)),some (.int c),some (.ref g),some (.int d),some (.int e),some (.ref r),s,t,u,none,none])(h:a g=some (.lst (v.map V.str)))(k:a r=some (.lst (w.map V.str)))(l:w.length=i)(m:(∀y∈w,y.length<=20)/\∀j y,w[j]?=some y->Sh (pre v c) (eU v c) e (oF d j) y)(o:aq a p)(q:aB p H a)
theorem rN(F:aN K "_law_names" "_law_names" gZ f fd)(GT:ah P w K mg base ay 1 fT f4 z0z aZ)(x:au K f4 z0z [])(C:keepIn K (.ref fT)=true)
  (M:mg "_law_take"=some (.ref fT)) (mr:mg "range"=none):ah P w K mg base ay 2 f fd z24z fQ:=by
 refine F.ok be ?_ λc1 A o1 s H vs Q E D h=>?_
 ·rintro _ _ _ _ ⟨p,n,rfl,_⟩
  rfl
 obtain⟨p,n,rfl,B,a4,a',q⟩:=h
 refine#[_,(@jd _ _ _ _ _ (@kL _ _ (2) _ _ _ _ be.nd Z (Or.inr Z) (@jm _ _ _ _) P7 (.inl Z)) (@jd _ _ _ _ _ (@kL _ _ (3) _ _ _ _ be.nd Z (Or.inl Z) (@ju _ _ _ _ _ _ _ _ jY (@jf _ _ _ _) (@kC _ _ _ _ _ _ _ _ _ _ _ _ _ _ _ _ GT D Z M C x .nil a6 (@ja _ _ _ _ _ (@pv _ 0 _ _ P7 (.inr (.inl Z)) PZ PZ) (@ja _ _ _ _ _ (@jf _ _ _ _) (@jb _) P7) P7) PZ P7 P7)) P7 (.inl Z)) (@jd _ _ _ _ _ (@kL _ _ (4) _ _ _ _ be.nd Z (Or.inl Z) (@kC _ _ _ _ _ _ _ _ _ _ _ _ _ _ _ _ GT D Z M C x .nil a6 (@ja _ _ _ _ _ (@pv _ 0 _ _ P7 (.inr (.inl Z)) PZ PZ) (@ja _ _ _ _ _ (@pv _ 3 _ _ P7 (.inl Z) PZ PZ) (@jb _) P7) P7) PZ P7 P7) P7 (.inl Z)) (@jd _ _ _ _ _ (@YS _ _ _ _ _ _ _ _ _ _ (5) (z29z) (1) ([0,2]) _ _ _ _ be.nd Z (Or.inl Z) Z (@km _ _ _ _ _ _ Z mr (@ja _ _ _ _ _ (@pv _ 3 _ _ P7 (by first |exact Or.inl Z |exact Or.inr (Or.inl Z) |exact Or.inr (Or.inr Z)) PZ PZ) (@jb _) P7) P7) Yv (λ_ _ _ _ _=>(@jw _ _ (0) _ Yu Z (Or.inl Z) (by first |exact .inl Z |exact .inr Z))) (λ_ _ _ _ _=>(@zA _)) (λ_ _ _ _ _=>(@jr _ _ _ _ _ _ _ J5 (@pv _ 2 _ _ P7 (by first |exact Or.inl Z |exact Or.inr (Or.inl Z) |exact Or.inr (Or.inr Z)) PZ PZ) (@kC _ _ _ _ _ _ _ _ _ _ _ _ _ _ _ _ GT D Z M C x .nil a6 (@ja _ _ _ _ _ (@pv _ 1 _ _ P7 (by first |exact Or.inl Z |exact Or.inr (Or.inl Z) |exact Or.inr (Or.inr Z)) PZ PZ) (@ja _ _ _ _ _ (@jf _ _ _ _) (@jb _) P7) P7) PZ P7 P7) (λ_ _=>Z))) P7 (by first |exact .inl Z |exact .inr Z) (by intro _;rfl)) (@jd _ _ _ _ _ (@kL _ _ (6) _ _ _ _ be.nd Z (Or.inl Z) (@kC _ _ _ _ _ _ _ _ _ _ _ _ _ _ _ _ GT D Z M C x .nil a6 (@ja _ _ _ _ _ (@pv _ 0 _ _ P7 (.inr (.inl Z)) PZ PZ) (@ja _ _ _ _ _ (@jf _ _ _ _) (@jb _) P7) P7) PZ P7 P7) P7 (.inl Z)) (@jd _ _ _ _ _ (@kL _ _ (7) _ _ _ _ be.nd Z (Or.inl Z) (@kC _ _ _ _ _ _ _ _ _ _ _ _ _ _ _ _ GT D Z M C x .nil a6 (@ja _ _ _ _ _ (@pv _ 0 _ _ P7 (.inr (.inl Z)) PZ PZ) (@ja _ _ _ _ _ (@jf _ _ _ _) (@jb _) P7) P7) PZ P7 P7) P7 (.inl Z)) (@jd _ _ _ _ _ (@kL _ _ (8) _ _ _ _ be.nd Z (Or.inl Z) (@jF _ _ _ _ (@jb _)) P7 (.inl Z)) (@jd _ _ _ _ _ (@kr _ _ _ _ _ _ _ _ He Z (@km _ _ _ _ _ _ Z mr (@ja _ _ _ _ _ (@pv _ 1 _ _ P7 (.inl Z) PZ PZ) (@jb _) P7) P7) (@jw _ _ (9) _ be.nd Z (Or.inl Z) (.inl Z)) (@jd _ _ _ _ _ (@kL _ _ (10) _ _ _ _ be.nd Z (Or.inl Z) (@jr _ _ _ _ _ _ _ J5 (@pv _ 2 _ _ P7 (.inr (.inl Z)) PZ PZ) (@ju _ _ _ _ _ _ _ _ kQ (@ju _ _ _ _ _ _ _ _ jY (@pv _ 6 _ _ P7 (.inl Z) PZ PZ) (@ju _ _ _ _ _ _ _ _ zi (@jf _ _ _ _) (@pv _ 9 _ _ P7 (.inl Z) PZ PZ))) (@jf _ _ _ _)) (λ_ _=>Z)) P7 (.inl Z)) (@jd _ _ _ _ _ (@j3 _ _ _ (@kL _ _ (11) _ _ _ _ be.nd Z (Or.inl Z) (@ju _ _ _ _ _ _ _ _ zw (@ju _ _ _ _ _ _ _ _ zw (@kn _ _ _ _ _ _ _ _ _ _ _ _ LB LG LF QP (@jm _ _ _ _) (@ja _ _ _ _ _ (@jG _ _ _ _ _ _ _ _ _ _ kh (@pv _ 5 _ _ P7 (.inl Z) PZ PZ) (@jU _) (@jE _ _ _ (@pv _ 4 _ _ P7 (.inl Z) PZ PZ))) (@jb _) P7) P7 P7 P7 P7 P7) (@pv _ 10 _ _ P7 (.inl Z) PZ PZ)) (@kn _ _ _ _ _ _ _ _ _ _ _ _ LB LG LF QP (@jm _ _ _ _) (@ja _ _ _ _ _ (@jG _ _ _ _ _ _ _ _ _ _ kh (@pv _ 5 _ _ P7 (.inl Z) PZ PZ) (@jE _ _ _ (@ju _ _ _ _ _ _ _ _ jY (@pv _ 4 _ _ P7 (.inl Z) PZ PZ) (@jf _ _ _ _))) (@jU _)) (@jb _) P7) P7 P7 P7 P7 P7)) P7 (.inl Z))) (@jd _ _ _ _ _ (@j3 _ _ _ (@jv _ _ _ _ _ _ _ _ (@PW.pt _ _ _ (@J3 _ _ _ _ _ _ _ (za (@pv _ 7 _ _ P7 (.inl Z) PZ PZ)) (@qG _ _ _ _ (za (@ju _ _ _ _ _ _ _ _ kQ (@pv _ 9 _ _ P7 (.inl Z) PZ PZ) (@jf _ _ _ _)))))) (@jg _ _ _ (@kL _ _ (11) _ _ _ _ be.nd Z (Or.inl Z) (@ju _ _ _ _ _ _ _ _ zw (@pv _ 11 _ _ P7 (.inl Z) PZ PZ) (@jm _ _ _ _)) P7 (.inl Z))) (@jp _))) (@jd _ _ _ _ _ (@j3 _ _ _ (@jv _ _ _ _ _ _ _ _ (za (@pv _ 7 _ _ P7 (.inl Z) PZ PZ)) (@jg _ _ _ (@kL _ _ (11) _ _ _ _ be.nd Z (Or.inl Z) (@ju _ _ _ _ _ _ _ _ zw (@kn _ _ _ _ _ _ _ _ _ _ _ _ LB LG LF QP (@jm _ _ _ _) (@ja _ _ _ _ _ (@zd _ _ _ _ _ _ _ (z30z) (1) ([0,2]) _ _ _ _ Z (@km _ _ _ _ _ _ Z mr (@ja _ _ _ _ _ (@kC _ _ _ _ _ _ _ _ _ _ _ _ _ _ _ _ GT D Z M C x .nil a6 (@ja _ _ _ _ _ (@pv _ 0 _ _ P7 (by first |exact Or.inl Z |exact Or.inr (Or.inl Z) |exact Or.inr (Or.inr Z)) PZ PZ) (@ja _ _ _ _ _ (@jf _ _ _ _) (@jb _) P7) P7) PZ P7 P7) (@jb _) P7) P7) Yx (λ_ _ _ _ _=>(@jw _ _ (0) _ Yw Z (Or.inl Z) (by first |exact .inl Z |exact .inr Z))) (λ_ _ _ _ _=>(@zA _)) (λ_ _ _ _ _=>(@jr _ _ _ _ _ _ _ J5 (@pv _ 2 _ _ P7 (by first |exact Or.inl Z |exact Or.inr (Or.inl Z) |exact Or.inr (Or.inr Z)) PZ PZ) (@kC _ _ _ _ _ _ _ _ _ _ _ _ _ _ _ _ GT D Z M C x .nil a6 (@ja _ _ _ _ _ (@pv _ 1 _ _ P7 (by first |exact Or.inl Z |exact Or.inr (Or.inl Z) |exact Or.inr (Or.inr Z)) PZ PZ) (@ja _ _ _ _ _ (@jf _ _ _ _) (@jb _) P7) P7) PZ P7 P7) (λ_ _=>Z))) (by intro _;rfl)) (@jb _) P7) P7 P7 P7 P7 P7) (@pv _ 10 _ _ P7 (.inl Z) PZ PZ)) P7 (.inl Z))) (@jp _))) (@jd _ _ _ _ _ (@j3 _ _ _ (@jv _ _ _ _ _ _ _ _ (@jz _ _ _ _ _ _ _ _ zg (@pv _ 11 _ _ P7 (.inl Z) PZ PZ) (@jh _ _ _ _ _ (@QQ _ _ P7)) Z) (@jg _ _ _ (@kL _ _ (11) _ _ _ _ be.nd Z (Or.inl Z) (@ju _ _ _ _ _ _ _ _ zw (@jm _ _ _ _) (@pv _ 10 _ _ P7 (.inl Z) PZ PZ)) P7 (.inl Z))) (@jp _))) (@jg _ _ _ (@jO _ _ _ _ (@kn _ _ _ _ _ _ _ _ _ _ _ _ Gx GS GQ jR (@pv _ 8 _ _ P7 (.inl Z) PZ PZ) (@ja _ _ _ _ _ (@pv _ 11 _ _ P7 (.inl Z) PZ PZ) (@jb _) P7) P7 P7 P7 P7 P7) P7))))))) (by intro _;rfl)) (@jd _ _ _ _ _ (@j3 _ _ _ (@jv _ _ _ _ _ _ _ _ (@jz _ _ _ _ _ _ _ _ qi (@kC _ _ _ _ _ _ _ _ _ _ _ _ _ _ _ _ GT D Z M C x .nil a6 (@ja _ _ _ _ _ (@pv _ 0 _ _ P7 (.inr (.inl Z)) PZ PZ) (@ja _ _ _ _ _ (@jf _ _ _ _) (@jb _) P7) P7) PZ P7 P7) (@jf _ _ _ _) (aD _)) (@jd _ _ _ _ _ (@kL _ _ (12) _ _ _ _ be.nd Z (Or.inl Z) (@jF _ _ _ _ (@QQ _ _ P7)) P7 (.inl Z)) (@jd _ _ _ _ _ (@kL _ _ (13) _ _ _ _ be.nd Z (Or.inl Z) (@jr _ _ _ _ _ _ _ jq (@pv _ 12 _ _ P7 (.inl Z) PZ PZ) (@kC _ _ _ _ _ _ _ _ _ _ _ _ _ _ _ _ GT D Z M C x .nil a6 (@ja _ _ _ _ _ (@pv _ 0 _ _ P7 (.inr (.inl Z)) PZ PZ) (@ja _ _ _ _ _ (@jf _ _ _ _) (@jb _) P7) P7) PZ P7 P7) (λ_ _=>Z)) P7 (.inl Z)) (@jg _ _ _ (@jv _ _ _ _ _ _ _ _ (@jz _ _ _ _ _ _ _ _ qS (@pv _ 13 _ _ P7 (.inl Z) PZ PZ) (@pv _ 8 _ _ P7 (.inl Z) PZ PZ) Z) (@jg _ _ _ (@zb _ _ _ _ _ _ (@pv _ 13 _ _ P7 (.inl Z) PZ PZ) (@qq _ _ _ _ _ _ _ (@pv _ 8 _ _ P7 (.inl Z) PZ PZ) (@kC _ _ _ _ _ _ _ _ _ _ _ _ _ _ _ _ GT D Z M C x .nil a6 (@ja _ _ _ _ _ (@pv _ 0 _ _ P7 (.inr (.inl Z)) PZ PZ) (@ja _ _ _ _ _ (@pv _ 1 _ _ P7 (.inl Z) PZ PZ) (@jb _) P7) P7) PZ P7 P7) zn (by intro _;rfl)) P7 P7 P7)) (@jp _))))) (@jp _))) (@jg _ _ _ (@jo _ _ _ _ (@pv _ 8 _ _ P7 (.inl Z) PZ PZ)))))))))))),?_]
 refine eS λE0 f0=>f0 _ _ ?_
 refine eS λG a=>#[_,Z,p,6,Z,B,PZ,PZ,λd1 H1 b0 b1 U e1=>#[_,_,Z,Z,a _ _ ?_]]
 refine eS λE2 f2=>#[_,Z,_,Z,p,_,Z,U,P0,P0,λd2 H2 b2 b3 B2 e2=>f2 _ _ ?_]
 clear f0 a f2
 refine eS λG a=>#[_,Z,_,Z,P0,P0,?_]
 refine qY (p:=p) P0 B2 λss H3 a3 e B3 e3 g hg=>a _ _ ?_
 clear a
 have k3:aB p H H3:=(aB.of_eq e1).trans ((aB.of_eq e2).trans (aB.of_eq e3))
 have v:g≠p:=B3.ne hg
 refine eS λG a=>#[_,Z,p,26,Z,B3.upd_new hg,PZ,PZ,λW H4 b4 b5 B4 e4=>a _ _ ?_]
 refine eS λE2 f2=>#[_,Z,p,3,Z,B4,PZ,PZ,λI H5 b7 b8 B5 e5=>f2 _ _ ?_]
 clear a f2
 have h2:H5 g=some (.lst (ss.map V.str)):=by rw[e5 g v,e4 g v];exact jc
 have k5:aB p H H5:=(k3.upd_new hg).trans ((aB.of_eq e4).trans (aB.of_eq e5))
 refine eS λG a=>#[PZ,λr u=>a _ _ ?_]
 clear a
 have m:r≠p:=B5.ne u
 have h4:g≠r:=jk h2 u
 have n3:H g=none:=by
  cases z:H g with
  |none=>rfl
  |some o=>have:=k3 g o v z;rw[hg]at this;cases this
 have X:H r=none:=by
  cases z:H r with
  |none=>rfl
  |some o=>have:=k5 r o m z;rw[u]at this;cases this
 have b9:=zo
 refine eS λG a=>eO λJ j=>#[_,Z,_,Z,P0,P0,j _ _ ?_]
 clear j
 refine kJ (lo:=0) (NI p g r n d1 d2 W I ss H) #[none,none,none,[],Z,ao h2 u,jc,Z,#[(λ_ h=>nomatch h),(λ_ _ h=>nomatch h)],B5.upd_new u,k5.upd_new u] ?_ ?_
 ·intro E0 _ i σ H' hi fE Gq T b
  obtain⟨ok,oo,ow,ys,rfl,L,Y,h0,d,B',k'⟩:=b
  clear a
  obtain⟨c,hc⟩:=tR (z:=di) (k:=(W+5*(0+(i:Int))) % 26) (Hv _ PZ) (by rw[Jy];exact Hj _ PZ)
  refine T ?_
  clear T
  show eV (dO _ _) _ E0 _ _
  refine eS λG a=>#[_,Z,_,Z,_,Z,_,_,Z,Z,.inl #[PZ,PZ],_,_,Z,Z,_,_,Z,Z,(by show(0:Int) < 26;decide),_,_,c,Z,Z,PZ,hc,a _ _ ?_]
  clear a
  have b':(#[(List.toArray [c])]:Str).length=1:=rfl
  have h5:c=oF W i:=y7 (Hv _ PZ) (Hj _ PZ) hc
  refine eS λG a=>dw (Rw p g r n d1 d2 W I i c ss ys H 13 (·=pre ss d2++#[(List.toArray [c])]++eU ss d2)) (λE2 _ t=>?_) λO H1 b=>?_
  ·clear a fE
   refine#[Z,_,Z,_,Z,_,Z,g,_,Z,aH.of L,λs1 n1=>?_]
   have z1:=qJ (ys:=bn ss none (some d2)) λy d=>e y (zD d)
   have z2:=z9 ss none (some d2)
   refine#[_,s1,bn ss none (some d2),Z,Z,aH.of (by rw[jc,zp]),PZ,P0,?_]
   have j1:=qK (z:="") (ys:=bn ss none (some d2)) P6 λy d=>e y (zD d)
   refine#[_,Z,_,_,Z,Z,P0,?_]
   refine#[Z,_,Z,_,Z,_,_,Z,Z,_,Z,g,_,Z,aH.of (ao L n1),λs2 n2=>?_]
   have z3:=qJ (ys:=bn ss (some (d2+1)) none) λy d=>e y (zD d)
   have z4:=z9 ss (some (d2+1)) none
   refine#[_,s2,bn ss (some (d2+1)) none,Z,Z,aH.of (by rw[jc,zp]),PZ,P0,?_]
   have j2:=qK (z:="") (ys:=bn ss (some (d2+1)) none) P6 λy d=>e y (zD d)
   refine#[_,_,Z,Z,by rw[nk];omega,?_]
   exact t _ _ #[_,#[by show(Txt.join ("":Str) (bn ss none (some d2))++(#[(List.toArray [c])]:Str)++Txt.join ("":Str) (bn ss (some (d2+1)) none)).length<=13;rw[nk,nk];omega,Z],Z,ao (ao L n1) n2,ao (ao Y n1) n2,(B'.upd_new n1).upd_new n2,(k'.upd_new n1).upd_new n2]
  obtain⟨w1,⟨c2,z1⟩,rfl,g1,r1,U,k1⟩:=b
  refine a _ _ ?_
  clear a
  refine eS λG a=>dw (Rw p g r n d1 d2 W I i c ss ys H 14 (λw=>w=pre ss d2++#[(List.toArray [c])]++eU ss d2∨w=pre ss d2++#[(List.toArray [c])]++eU ss d2++"z")) (λE2 _ t=>?_) λO H2 b=>?_
  ·clear a fE
   refine#[_,Z,Z,_,Z,?_]
   refine bP (λS=>?_) (λS=>?_)
   ·refine#[_,Z,_,_,Z,Z,(by show(0:Int) < 2;decide),Z,_,Z,?_]
    refine bP (λcb=>?_) (λcb=>?_)
    ·have hz:(Str.ofString "z").length=1:=by decide+kernel
     refine#[_,Z,_,_,Z,Z,by rw[hz];omega,?_]
     exact t _ _ #[_,#[by rw[nk,hz];omega,.inr (by rw[z1])],Z,g1,r1,U,k1]
    ·exact t _ _ #[w1,#[P0,.inl z1],Z,g1,r1,U,k1]
   ·exact vA (t _ _ #[w1,#[P0,.inl z1],Z,g1,r1,U,k1])
  obtain⟨w2,⟨c3,z2⟩,rfl,g2,r2,B2,k2⟩:=b
  refine a _ _ ?_
  clear a
  refine eS λG a=>dw (Rw p g r n d1 d2 W I i c ss ys H 14 (λw=>if I=2 then ∃R:Str,w=R++#[(List.toArray [c])] else w=pre ss d2++#[(List.toArray [c])]++eU ss d2∨w=pre ss d2++#[(List.toArray [c])]++eU ss d2++"z")) (λE2 _ t=>?_) λO H3 b=>?_
  ·clear a fE
   refine#[_,Z,Z,_,Z,?_]
   refine bP (λS=>?_) (λS=>?_)
   ·refine#[Z,_,Z,p,8,Z,B2,PZ,PZ,λd6 H6 d0 d3 B6 e6=>?_]
    refine#[_,Z,P0,P0,?_]
    refine qY (p:=p) P0 B6 λtt H7 c4 h3 B7 e7 g7 n7=>?_
    have jt:=qK (z:="") (ys:=tt) P6 h3
    have zt:=qJ h3
    refine#[_,g7,tt,Z,Z,aH.of jc,PZ,P0,?_]
    refine#[_,Z,_,_,Z,Z,P0,?_]
    have g8:H7 g=some (.lst (ss.map V.str)):=by rw[e7 g v,e6 g v];exact g2
    have r8:H7 r=some (.lst (ys.map V.str)):=by rw[e7 r m,e6 r m];exact r2
    have e5:I=2:=by injection HK S
    exact t _ _ #[_,#[by rw[nk];omega,(Gw e5).mpr #[_,Z]],Z,ao g8 n7,ao r8 n7,B7.upd_new n7,(k2.trans ((aB.of_eq e6).trans (aB.of_eq e7))).upd_new n7]
   ·have e5:I≠2:=λz=>S (by rw[z];exact G8 Z)
    exact t _ _ #[w2,#[P0,(GG e5).mpr z2],Z,g2,r2,B2,k2]
  obtain⟨w3,⟨c5,z3⟩,rfl,g3,r3,B3,k3⟩:=b
  refine a _ _ ?_
  clear a
  refine eS λG a=>dw (Rw p g r n d1 d2 W I i c ss ys H 14 (Sh (pre ss d2) (eU ss d2) I c)) (λE2 _ t=>?_) λO H4 b=>?_
  ·clear a fE
   refine#[_,Z,PZ,λt0 N=>?_]
   refine#[t0,_,Z,.inr (aw.of jc),Z,ZD P7,_,Z,?_]
   refine bP (λS=>?_) (λS=>?_)
   ·have hq:(Str.ofString "qqqqqqq").length=7:=by decide+kernel
    refine#[_,Z,_,_,Z,Z,by rw[hq];omega,?_]
    exact t _ _ #[_,#[by rw[nk,hq];omega,EL],Z,ao g3 N,ao r3 N,B3.upd_new N,k3.upd_new N]
   ·exact t _ _ #[w3,#[P0,EM z3],Z,ao g3 N,ao r3 N,B3.upd_new N,k3.upd_new N]
  obtain⟨w4,⟨c6,z4⟩,rfl,g4,r4,B4,k4⟩:=b
  refine a _ _ ?_
  clear a
  refine#[_,Z,.inl #[Z,_,aH.of r4],_,Z,r,_,_,Z,Z,r4,by rw[Gg];omega,?_]
  refine fE _ _ #[_,_,_,ys++[w4],Z,by rw[ji h4];exact g4,by rw[jc,GY];rfl,by rw[Gi,h0];rfl,#[λy hm=>?_,λj y hj=>?_],B4.eq (ji (G7 m)),k4.upd_own X]
  ·rcases List.mem_append.mp hm with hm |hm
   ·exact d.1 y hm
   ·rw[List.mem_singleton.mp hm];omega
  ·by_cases h6:j < ys.length
   ·rw[Iv h6]at hj
    exact d.2 j y hj
   ·have lj:=(List.getElem?_eq_some_iff.mp hj).1
    rw[Gi,IH]at lj
    have ej:j=ys.length:=by omega
    rw[ej,Io (Gh _),LV]at hj
    injection hj with hj
    rw[<- hj,ej,h0,<- h5]
    exact z4
 ·intro σ H' b
  obtain⟨ok,oo,ow,ys,rfl,L,Y,h0,d,B',k'⟩:=b
  have h1:(ys.length:Int)=n:=by omega
  have f5:=ve (ss:=ss) (d1:=d1) (d2:=d2) P0 P0 P0
  have j1:(pre ss d2).length<=_:=qK (z:="") (ys:=bn ss none (some d2)) P6 λy d=>e y (zD d)
  have j2:(eU ss d2).length<=_:=qK (z:="") (ys:=bn ss (some (d2+1)) none) P6 λy d=>e y (zD d)
  have nd:=tK P0 P0 d.2
  have d:=d.1
  refine a _ _ ?_
  clear a
  refine ai λF1 a=>dw (Rf p r n H) (λE2 _ t=>?_) λO H1 b=>?_
  ·clear a
   refine nG λG' g'=>#[_,Z,p,6,Z,B',PZ,PZ,λd6 H6 d0 d3 B6 e6=>#[Z,_,Z,g' _ _ ?_]]
   clear g'
   have r6:H6 r=some (.lst (ys.map V.str)):=by rw[e6 r m];exact Y
   have k6:aB p H H6:=k'.trans (aB.of_eq e6)
   refine bP (λS=>?_) (λS=>?_)
   ·refine eS λE3 f3=>#[PZ,λt0 N=>f3 _ _ ?_]
    clear f3
    have t1:t0≠p:=B6.ne N
    refine eS λE4 f3=>#[_,Z,_,Z,p,13,Z,B6.upd_new N,PZ,PZ,λd7 H7 d' a0 B7 e7=>?_]
    have t7:H7 t0=some (.lst ((z31z:List Str).map V.str)):=((e7 t0 t1).trans jc).trans (HL (λl=>some (HO.lst l)) P6)
    have r7:H7 r=some (.lst (ys.map V.str)):=by rw[e7 r m];exact ao r6 N
    have k7:aB p H H7:=(k6.upd_new N).trans (aB.of_eq e7)
    obtain⟨od,h7,h8⟩:=J6 (ys:=(z31z:List Str)) d' (by simpa using a0)
    refine#[t0,_,_,_,Z,Z,aH.of t7,h8,f3 _ _ ?_]
    clear f3
    have h':od.length<=20:=by
     have:∀y∈(z31z:List Str),y.length<=20:=by decide+kernel
     exact this od h7
    refine nG λG' g'=>#[_,Z,_,Z,r,_,Z,.inl (aH.of r7),Z,Qr _,_,Z,g' _ _ ?_]
    clear g'
    refine bP (λcb=>?_) (λcb=>?_)
    ·refine#[_,Z,_,Z,_,Z,_,Z,p,n,Z,B7,P0,P0,λd8 H8 a1 c9 B8 e8=>?_]
     have r8:H8 r=some (.lst (ys.map V.str)):=by rw[e8 r m];exact r7
     have k8:aB p H H8:=k7.trans (aB.of_eq e8)
     refine#[r,_,d8,d8.toNat,Z,Z,r8,?_,?_]
     ·unfold mN
      rw[Gw a1,Gg,Gw P0]
     refine t _ _ #[Z,ys.set d8.toNat od,by rw[jc,tI],by rw[LY];exact h1,#[λy hm=>?_,ZR nd (vO (by have c0:(!nH (.str od) (ys.map V.str))=true:=cb;rw[N7]at c0;exact c0))],B8.eq (ji (G7 m)),k8.upd_own X]
     rcases List.mem_or_eq_of_mem_set hm with hm |hm
     ·exact d y hm
     ·rw[hm];exact h'
    ·exact t _ _ #[Z,ys,r7,h1,#[d,nd],B7,k7]
   ·exact t _ _ #[Z,ys,r6,h1,#[d,nd],B6,k6]
  obtain⟨a2,y0,r1,l1,y1,U,k1⟩:=b
  refine a _ _ ?_
  exact#[_,a2,q r y0 H1 X r1 l1 y1 U k1]
def al(H h:Hp):Prop:=∀b x,H b=some (.tup x)->h b=some (.tup x)
theorem ae.tm(a:ae H c):al H c:=λb x h=>a b _ h
theorem je{H:Hp}{o:HO}(n:H p=none):ae H (af H p o):=λb u e=>ao e n
theorem cn{b:Bool}{A B:Prop}(h:b=true)(x:A):if b=true then A else B:=by rw[Gw h];exact x
theorem aS{b:Bool}{A B:Prop}(h:b=false)(x:B):if b=true then A else B:=by rw[h,GG Gn];exact x
theorem aE:sizeLine=16777216:=by rw[Mr]
theorem aq.same(B:aq H p)(s:ae H c):aq c p:=by
 obtain⟨a,b,d,e,f,h⟩:=B.ob
 exact#[a,b,d,e,f,s _ _ h]
theorem aB.of_same(s:ae H h):aB p H h:=λb o _ e=>s _ _ e
theorem aB.tm(k:aB p H h)(B:aq H p):al H h:=λb x e=>by
 obtain⟨a,c,_,_,_,f⟩:=B.ob
 exact k b _ (jP e f (by intro w;cases w)) e
theorem aB.none(k:aB p H h)(B:aq h p)(n:h r=none):H r=none:=by
 cases z:H r with
 |none=>rfl
 |some o=>have:=k _ _ (B.ne n) z;rw[n]at this;cases this
theorem ZS{K:Frag}{a:Addr}{xs:List V}{t:TE}{Q:List V->Hp->Prop}(u:xs.length<=sizeLine)(Pv:Nat->List V->Hp->Prop)(l:Pv 0 [] H)
  (n:∀i Y h,Pv i Y h->aH K h a xs/\Y.length<=i) (o:∀i x Y h,xs[i]?=some x->Pv i Y h->t (some x::d) h λy c=>Pv (i+1) (Y++[y]) c) (q:∀Y h,Pv xs.length Y h->Q Y h):
  eE (uN K a) 1 d (bu 0) lD t Q H:=by
 refine#[λi m Y h=>m=xs.length - i/\i<=xs.length/\Pv i Y h,#[xs.length,P5,Gp _,l],?_]
 intro i m Y h f
 obtain⟨rfl,z,p⟩:=f
 obtain⟨g,A⟩:=n i Y h p
 by_cases b:i < xs.length
 ·refine .inr #[#[xs,xs[i],g,Gc b],P0,Pv (i+1),λr c s=>#[xs.length - (i+1),P0,Z,b,s],λv c T j y=>?_]
  obtain⟨e,y⟩:=y
  subst e
  obtain⟨w,rfl⟩:=vC j
  exact#[#[[some _],Z,Z],o i v Y c (y xs g) p]
 ·have e:i=xs.length:=by omega
  subst e
  exact .inl #[#[xs,g,Gh _],q Y h p]
theorem qg{K:Frag}{xs:List V}{t:TE}{Q:List V->Hp->Prop}(u:xs.length<=sizeLine)(Pv:Nat->List V->Hp->Prop)(l:Pv 0 [] H)
  (n:∀i Y h,Pv i Y h->aw K h a xs/\Y.length<=i) (o:∀i x Y h,xs[i]?=some x->Pv i Y h->t (some x::d) h λy c=>Pv (i+1) (Y++[y]) c) (q:∀Y h,Pv xs.length Y h->Q Y h):
  eE (uO K a) 1 d (bu 0) lD t Q H:=by
 refine#[λi m Y h=>m=xs.length - i/\i<=xs.length/\Pv i Y h,#[xs.length,P5,Gp _,l],?_]
 intro i m Y h f
 obtain⟨rfl,z,p⟩:=f
 obtain⟨g,A⟩:=n i Y h p
 by_cases b:i < xs.length
 ·refine .inr #[#[xs,xs[i],g,Gc b],P0,Pv (i+1),λr c s=>#[xs.length - (i+1),P0,Z,b,s],λv c T j y=>?_]
  obtain⟨e,y⟩:=y
  subst e
  obtain⟨w,rfl⟩:=vC j
  exact#[#[[some _],Z,Z],o i v Y c (y xs g) p]
 ·have e:i=xs.length:=by omega
  subst e
  exact .inl #[#[xs,g,Gh _],q Y h p]
noncomputable abbrev i5:Stmt:=bL 62
noncomputable abbrev nU:Stmt:=bL 64
inductive Tm where
 |num (n:Int) |var (x:Str) |op (i:Nat) (a b:Tm)
noncomputable def Tm.depth:Tm->Nat
 | .num _=>0
 | .var _=>0
 | .op _ a b=>max a.depth b.depth+1
noncomputable def j':Str:="+-*/<="
theorem tJ:j'.length=6:=by decide+kernel
noncomputable def EK(i:Nat):Str:=#[(List.toArray [j'.cps.toList.getD i 0])]
theorem Bp(H:0<=d)(a:d < 6):dA j'.cps.toList d=some (j'.cps.toList.getD d.toNat 0):=by
 have b:j'.cps.toList.length=6:=by decide+kernel
 have h:d.toNat < j'.cps.toList.length:=by omega
 have e:d=((d.toNat:Nat):Int):=by omega
 have q:dA j'.cps.toList ((d.toNat:Nat):Int)=some (j'.cps.toList.getD d.toNat 0):=jH (by rw[IQ,Gc h];rfl)
 rw[<- e]at q
 exact q
def Tm.Good(y:List Str):Tm->Prop
 | .num n=>0<=n/\n < 1000000000000000000
 | .var x=>x∈y
 | .op i a b=>i < 6/\a.Good y/\b.Good y
def bj(H:Hp):Tm->Addr->Prop
 | .num n,p=>H p=some (.tup [.str "num",.int n])
 | .var x,p=>H p=some (.tup [.str "var",.str x])
 | .op i a b,p=>∃q r,H p=some (.tup [.str "op",.str (EK i),.ref q,.ref r])/\bj H a q/\bj H b r
theorem bj.mono{H a:Hp}(h:∀b x,H b=some (.tup x)->a b=some (.tup x)):∀{t:Tm} {p:Addr},bj H t p->bj a t p
 | .num _,_,e=>h _ _ e
 | .var _,_,e=>h _ _ e
 | .op _ _ _,_,z=>by obtain⟨q,r,e,E,c⟩:=z;exact #[q,r,h _ _ e,bj.mono h E,bj.mono h c]
theorem bj.same(h:ae H a)(e:bj H t p):bj a t p:=e.mono λb x z=>h b _ z
theorem bj.but(B:aq H p)(k:aB p H h)(e:bj H t a):bj h t a:=e.mono λb X z=>by
 obtain⟨x,y,_,_,_,d⟩:=B.ob
 exact k b _ (jP z d (by intro q;cases q)) z
theorem bj.new{H:Hp}{o:HO}(n:H r=none)(e:bj H t a):bj (af H r o) t a:=e.mono λb x z=>ao z n
inductive gJ(c:List V)(H:Hp)(Q:VK)(a:XK):Prop
 |mk(p:Addr)(_:c=[.ref p])(_:aq H p)(_:∀(d:Int) (H':Hp),0<=d->d < 1000000000000000000->aq H' p->(∀b,b≠p->H' b=H b)->Q (.int d) H')
inductive cp(n:Nat)(b:List V)(H:Hp)(Q:VK)(a:XK):Prop
 |mk(p g:Addr)(d:Int)(c:List Str)(_:b=[.ref p,.ref g,.int d])(_:aq H p)(_:H g=some (.lst (c.map V.str)))(_:1<=c.length)(_:c.length<=20)(_:0<=d)(_:d < (n:Int))(_:∀(r:Addr) (T:Tm) (H':Hp),bj H' T r->(T.depth:Int)<=d->T.Good c->aq H' p->aB p H H'->Q (.ref r) H')
theorem zY{Y:List Str}(B:aq H p)(h:H g=some (.lst (Y.map V.str))):g≠p:=by
 obtain⟨x,y,_,_,_,b⟩:=B.ob
 refine jP h b λz=>?_
 injection z with z
 match Y,z with
 |a::r,z=>injection z with c _;cases c
theorem tj:aj z2z z2z (aa i5):=bK
theorem ZT(F:aN K "_law_number" "_law_number" i5 f t)(C:Cl P w K mg base 1 I u z0z aZ "_law_take"):ah P w K mg base ay 2 f t z2z gJ:=by
 refine F.ok tj (λv H Q E h=>?_) (λx A o s H v Q E a h=>?_)
 ·obtain⟨p,rfl,_⟩:=h
  rfl
 obtain⟨p,rfl,B,q⟩:=h
 refine#[_,(jd (jv (za (C.e a (ja (pv 0) (ja jf jb)))) (jg (jo (C.e a (ja (pv 0) (ja (ju J4 jf jf) jb))))) jp) (jg (jo (C.e a (ja (pv 0) (ja jf jb)))))),?_]
 refine#[_,Z,p,4,Z,B,PZ,PZ,λL M y G m r=>#[Z,_,Z,?_]]
 refine bP (λc=>?_) (λc=>?_)
 ·refine#[_,Z,_,_,Z,Z,#[PZ,PZ,PZ],p,_,Z,m,PZ,PZ,λD g d i j k=>?_]
  have z:=ug
  exact q D g d P0 j λb n=>(k b n).trans (r b n)
 ·refine#[_,Z,p,9,Z,m,PZ,PZ,λD g d i j k=>?_]
  exact q D g d P0 j λb n=>(k b n).trans (r b n)
theorem nj:aj ["_law_box_here","_law_names_here","_law_deep","_law_kind","_law_one"] z11z (aa nU):=bK
theorem we(F:aN K "_law_term" "_law_term" nU f fd)(cF:Cl P w K mg base (n+2) f fd z11z (cp n) "_law_term")(S:Cl P w K mg base 1 fT f0 z0z aZ "_law_take")(cN:Cl P w K mg base 2 fN f2 z2z gJ "_law_number")(ml:mg "len"=none):ah P w K mg base ay (n+3) f fd z11z (cp (n+1)):=by
 refine F.ok nj ?_ λc0 A T s H vs Q E u h=>?_
 ·rintro _ _ _ _ ⟨p,g,d,ys,rfl,_⟩
  rfl
 obtain⟨p,g,d,ys,rfl,B,hg,v,x,h1,h2,q⟩:=h
 refine#[_,(jd (jy 3 nj.nd (S.e u.m (ja (pv 0) (ja jf jb)))) (jd (j3 (jv (PW.pt (Jm (jz K0 (pv 3) jf (aD _)) (q9 (PW.pt (J3 (jz Jn (pv 3) jf (aD _)) (qG (za (pv 2)))))))) (jg (jo (jh (ja jm (ja (cN.e u.m (ja (pv 0) jb)) jb))))) jp)) (jd (jv (jz K0 (pv 3) jf (aD _)) (jg (jo (jh (ja jm (ja (jr jq (pv 1) (S.e u.m (ja (pv 0) (ja (jN jK Z ml HJ (ja (pv 1) jb)) jb))) (λ_ _=>Z)) jb))))) jp) (jd (jy 4 nj.nd (cF.e u (ja (pv 0) (ja (pv 1) (ja (ju kP (pv 2) jf) jb))))) (jg (jo (jh (ja jm (ja (jr J5 jm (S.e u.m (ja (pv 0) (ja jf jb))) (λ_ _=>Z)) (ja (pv 4) (ja (cF.e u (ja (pv 0) (ja (pv 1) (ja (ju kP (pv 2) jf) jb)))) jb))))))))))),?_]
 have b0:=zo
 have j:g≠p:=zY B hg
 refine ai λF1 l=>#[_,Z,p,6,Z,B,PZ,PZ,λM O k0 k1 R e1=>l _ _ ?_]
 clear l
 have k:O g=some (.lst (ys.map V.str)):=by rw[e1 g j];exact hg
 have U:aB p H O:=aB.of_eq e1
 have num:∀(D:Int) (a:Hp) (r:Addr),0<=D->D < 1000000000000000000->aq a p->(∀b,b≠p->a b=O b)->a r=none->Q (.ref r) (af a r (.tup [.str "num",.int D])):=λD a r C I i o N=>
  q r (.num D) _ jc (by show((0:Nat):Int)<=d;omega) #[C,I] (i.upd_new N) ((U.trans (aB.of_eq o)).upd_new N)
 refine ai λF1 l=>dw (λJ H'=>J=[some (.ref p),some (.ref g),some (.int d),some (.int M),none]/\H'=O/\(M<=3∨d≠0)) (λE2 eR fm=>?_) λJ H' W=>?_
 ·clear l
  refine nG λG' G=>#[_,Z,_,_,Z,Z,_,Z,?_]
  refine bP (λc=>?_) (λc=>?_)
  ·refine G _ _ (yW ?_)
   show gE _ E2 _ _
   unfold gE
   rw[eR]
   exact#[_,Z,p,Z,R,λD a C I i o=>#[bN,λr N=>num D a r C I i o N]]
  refine#[_,Z,_,_,Z,Z,_,Z,?_]
  refine bP (λc2=>?_) (λc2=>?_)
  ·refine#[_,Z,Z,_,Z,G _ _ ?_]
   refine bP (λc3=>?_) (λc3=>?_)
   ·show gE _ E2 _ _
    unfold gE
    rw[eR]
    exact#[_,Z,p,Z,R,λD a C I i o=>#[bN,λr N=>num D a r C I i o N]]
   ·exact fm _ _ #[Z,Z,.inr λz=>c3 (by rw[z];rfl)]
  ·have c1:¬(3:Int) < M:=Mb (Bool.eq_false_iff.mpr c2)
   exact G _ _ (vA (fm _ _ #[Z,Z,.inl P0]))
 obtain⟨rfl,eH,hk⟩:=W
 rw[eH]
 refine l _ _ ?_
 clear l
 refine ai λF1 l=>nG λG' G=>#[_,Z,_,_,Z,Z,_,Z,G _ _ ?_]
 clear G
 refine bP (λc=>?_) (λc=>l _ _ ?_)
 ·-- a variable
  refine#[_,Z,_,Z,_,Z,g,_,Z,.inl (aH.of k),p,_,Z,R,by rw[Gg];omega,by rw[Gg];omega,λD a X L i o=>?_]
  rw[Gg]at L
  obtain⟨y,hy,Y⟩:=J6 (ys:=ys) X L
  have t:a g=some (.lst (ys.map V.str)):=by rw[o g j];exact k
  refine#[g,_,_,_,Z,Z,aH.of t,Y,bN,λr N=>?_]
  exact q r (.var y) _ jc (by show((0:Nat):Int)<=d;omega) hy (i.upd_new N) ((U.trans (aB.of_eq o)).upd_new N)
 ·have c':¬M < (4:Int):=Mb (Bool.eq_false_iff.mpr c)
  have hd:d≠0:=hk.resolve_left P0
  refine#[_,Z,_,Z,_,Z,_,_,Z,Z,p,g,d - 1,ys,Z,R,k,v,x,P0,P0,λr1 T1 a t1 d3 g0 i k2=>?_]
  have t:a g=some (.lst (ys.map V.str)):=k2 g _ j k
  refine#[_,Z,p,6,Z,i,PZ,PZ,λs3 H3 s0 s1 B3 e3=>?_]
  have h0:H3 g=some (.lst (ys.map V.str)):=by rw[e3 g j];exact t
  have k3:aB p a H3:=aB.of_eq e3
  refine#[j',_,_,Z,Z,(by rw[tJ];omega),Bp s0 s1,?_]
  refine#[_,Z,_,Z,_,Z,_,Z,_,_,Z,Z,p,g,d - 1,ys,Z,B3,h0,v,x,P0,P0,λr2 T2 H4 t2 d4 g1 B4 k4=>?_]
  refine#[oK,λr N=>?_]
  have t0:bj H4 T1 r1:=(t1.but i k3).but B3 k4
  refine q r (.op s3.toNat T1 T2) _ #[r1,r2,jc,t0.new N,t2.new N] ?_ #[P0,g0,g1] (B4.upd_new N) (((U.trans k2).trans (k3.trans k4)).upd_new N)
  show((max T1.depth T2.depth+1:Nat):Int)<=d
  omega
theorem vN:ah P w K mg base ay 2 f e z11z (cp 0):=by
 have n:∀v H Q E,¬cp 0 v H Q E:=λv H Q E h=>by
  obtain⟨p,g,d,y,_,_,_,_,_,i,b,_⟩:=h
  have c:d < ((0:Nat):Int):=b
  omega
 exact#[λv H Q E h=>absurd h (n v H Q E),λA o s H a u v Q E _ _ _ _ h=>absurd h (n v H Q E)]
theorem yo(F:aN K "_law_term" "_law_term" nU f a)(b:au K a z11z [])(m:mg "_law_term"=some (.ref f))(c:Cl P w K mg base 1 g d z0z aZ "_law_take")(C:Cl P w K mg base 2 h e z2z gJ "_law_number")(M:mg "len"=none):
  ∀n:Nat,ah P w K mg base ay (n+2) f a z11z (cp n)
 |0=>vN
 |n+1=>we F #[(yo F b m c C M n),b,F.kp,m] c C M
end _K
namespace _K
open PySem PySem.Spec PyProof.Rows _L
variable {P:Program}{w:World}{K:Frag}{mg:Str->Option Value}{base:Heap}
noncomputable def Tm.vars:Tm->List Str
 | .num _=>[]
 | .var x=>[x]
 | .op _ a b=>a.vars++b.vars
theorem ki:∀{t:Tm},t.Good y->∀x∈t.vars,x∈y
 | .num _,_,_,h=>nomatch h
 | .var _,g,_,h=>by rw[List.mem_singleton.mp h];exact g
 | .op _ _ _,g,_,h=>(List.mem_append.mp h).elim (ki g.2.1 _) (ki g.2.2 _)
theorem j7:∀{l m:List Str},l.Nodup->(∀x∈l,x∈m)->l.length<=m.length
 | [],_,_,_=>Gp _
 |x::l,m,n,h=>by
  rw[ML]at n
  have H:=h x GF
  have q:=j7 (l:=l) (m:=m.erase x) n.2 λy a=>(List.mem_erase_of_ne (λe=>n.1 (by rw[<- e];exact a))).mpr (h y (GJ _ a))
  rw[List.length_erase_of_mem H]at q
  have:0 < m.length:=List.length_pos_of_mem H
  rw[GX]
  omega
theorem Ky:∀{l m:List Str},l.Nodup->m.Nodup->(∀x,x∈l↔x∈m)->l.Perm m
 | [],[],_,_,_=>.nil
 | [],y::m,_,_,h=>absurd ((h y).mpr GF) P5
 |x::l,m,n,N,h=>by
  rw[ML]at n
  have a:x∈m:=(h x).mp GF
  refine(List.Perm.cons x (Ky n.2 (N.erase x) λy=>?_)).trans (List.perm_cons_erase a).symm
  rw[N.mem_erase_iff]
  constructor
  ·intro H
   exact#[λe=>n.1 (by rw[<- e];exact H),(h y).mp (GJ _ H)]
  ·rintro ⟨b,H⟩
   exact(List.mem_cons.mp ((h y).mpr H)).resolve_left b
theorem Qs:∀{p:Str} {l:List Str},risingS p l=true->(p::l).Pairwise λa b=>a.cps.toList<=b.cps.toList
 |p,[],_=>by simp
 |p,x::r,h=>by
  have H:(!ltCps x.cps.toList p.cps.toList&&risingS x r)=true:=h
  rw[Hy]at H
  have i:=Qs H.2
  have c:p.cps.toList<=x.cps.toList:=by
   have z:=H.1
   rw[ltCps_eq]at z
   simpa using z
  rw[List.pairwise_cons]at i ⊢
  refine#[λy hy=>?_,List.pairwise_cons.mpr i]
  rcases List.mem_cons.mp hy with rfl |hy
  ·exact c
  ·exact List.le_trans c (i.1 y hy)
theorem Qt(h:sortedS l=true):l.Pairwise λa b=>a.cps.toList<=b.cps.toList:=by
 cases l with
 |nil=>exact .nil
 |cons x r=>exact Qs h
theorem XN{l:List Str}(p:l.Perm m)(h:sortedS l=true)(H:sortedS m=true):l=m:=by
 refine List.Perm.eq_of_pairwise (λa b _ _ x y=>?_) (Qt h) (Qt H) p
 have e:=List.le_antisymm x y
 cases a
 cases b
 exact HL Str.mk (Array.toList_inj.mp e)
inductive Lf where
 |rd (x:Str) (t:Addr) (T:Tm)
 |st (x:Str) (t:Addr) (T:Tm)
 |wr (t u:Addr) (T U:Tm)
 |cl (x f:Str) (q:Addr) (ts:List (Addr×Tm))
 |gv (t:Addr) (T:Tm)
def uP(H:Hp):Lf->List V->Prop
 | .rd x t T,v=>v=[.str "read",.str x,.ref t]/\bj H T t
 | .st x t T,v=>v=[.str "set",.str x,.ref t]/\bj H T t
 | .wr t u T U,v=>v=[.str "write",.ref t,.ref u]/\bj H T t/\bj H U u
 | .cl x f q a,v=>v=[.str "call",.str x,.str f,.ref q]/\H q=some (.tup (a.map λc=>V.ref c.1))/\∀c∈a,bj H c.2 c.1
 | .gv t T,v=>v=[.str "give",.ref t]/\bj H T t
theorem uP.mono(k:al H a)(h:uP H l v):uP a l v:=by
 cases l with
 |rd x t T |st x t T |gv t T=>exact#[h.1,h.2.mono k]
 |wr t u T U=>exact#[h.1,h.2.1.mono k,h.2.2.mono k]
 |cl x f q d=>exact#[h.1,k _ _ h.2.1,λc b=>(h.2.2 c b).mono k]
inductive Bd where
 |nil
 |lf (p:Addr) (l:Lf) (r:Bd)
 |ite (p t:Addr) (T:Tm) (a b r:Bd)
 |loop (p t:Addr) (T:Tm) (a r:Bd)
noncomputable def Bd.app:Bd->Bd->Bd
 | .nil,s=>s
 | .lf p l r,s=>.lf p l (r.app s)
 | .ite p t T a b r,s=>.ite p t T a b (r.app s)
 | .loop p t T a r,s=>.loop p t T a (r.app s)
noncomputable def Bd.size:Bd->Nat
 | .nil=>0
 | .lf _ _ r=>r.size+1
 | .ite _ _ _ a b r=>a.size+b.size+r.size+1
 | .loop _ _ _ a r=>a.size+r.size+1
noncomputable def Bd.dep:Bd->Nat
 | .nil=>0
 | .lf _ _ r=>r.dep
 | .ite _ _ _ a b r=>max (max a.dep b.dep+1) r.dep
 | .loop _ _ _ a r=>max (a.dep+1) r.dep
def df(y:List Str)(T:Tm):Prop:=T.Good y/\T.depth < 6
def Lf.Ok(y:List Str):Lf->Prop
 | .rd x _ T=>x∈y/\df y T
 | .st x _ T=>x∈y/\df y T
 | .wr _ _ T U=>df y T/\df y U
 | .cl x _ _ t=>x∈y/\t.length<=6/\∀c∈t,df y c.2
 | .gv _ T=>df y T
def Bd.Ok(y:List Str):Bd->Prop
 | .nil=>True
 | .lf _ l r=>l.Ok y/\r.Ok y
 | .ite _ _ T a b r=>df y T/\a.Ok y/\b.Ok y/\r.Ok y
 | .loop _ _ T a r=>df y T/\a.Ok y/\r.Ok y
abbrev gW:=List (Str×Nat)
def Lf.Cs(F:gW):Lf->Prop
 | .cl _ f _ t=>(f,t.length)∈F
 |_=>True
def Bd.Cs(F:gW):Bd->Prop
 | .nil=>True
 | .lf _ l r=>l.Cs F/\r.Cs F
 | .ite _ _ _ a b r=>a.Cs F/\b.Cs F/\r.Cs F
 | .loop _ _ _ a r=>a.Cs F/\r.Cs F
theorem J7{F:gW}:∀{a b:Bd},a.Cs F->b.Cs F->(a.app b).Cs F
 | .nil,_,_,h=>h
 | .lf _ _ _,_,h,k=>#[h.1,J7 h.2 k]
 | .ite _ _ _ _ _ _,_,h,k=>#[h.1,h.2.1,J7 h.2.2 k]
 | .loop _ _ _ _ _,_,h,k=>#[h.1,J7 h.2 k]
theorem kj{F:gW}(k:∀f∈F,f∈G):∀{a:Bd},a.Cs F->a.Cs G
 | .nil,_=>trivial
 | .lf _ l _,h=>#[by cases l<;>first |exact k _ h.1 |trivial,kj k h.2]
 | .ite _ _ _ _ _ _,h=>#[kj k h.1,kj k h.2.1,kj k h.2.2]
 | .loop _ _ _ _ _,h=>#[kj k h.1,kj k h.2]
noncomputable def Lf.calls:Lf->gW
 | .cl _ f _ t=>[(f,t.length)]
 |_=>[]
noncomputable def Bd.calls:Bd->gW
 | .nil=>[]
 | .lf _ l r=>l.calls++r.calls
 | .ite _ _ _ a b r=>a.calls++(b.calls++r.calls)
 | .loop _ _ _ a r=>a.calls++r.calls
theorem zq:∀b:Bd,b.Cs b.calls
 | .nil=>trivial
 | .lf _ l r=>#[by cases l<;>first |exact List.mem_append_left _ List.mem_cons_self |trivial,kj (λ_ h=>List.mem_append_right _ h) (zq r)]
 | .ite _ _ _ a b r=>#[kj (λ_ h=>List.mem_append_left _ h) (zq a),kj (λ_ h=>List.mem_append_right _ (List.mem_append_left _ h)) (zq b),kj (λ_ h=>List.mem_append_right _ (List.mem_append_right _ h)) (zq r)]
 | .loop _ _ _ a r=>#[kj (λ_ h=>List.mem_append_left _ h) (zq a),kj (λ_ h=>List.mem_append_right _ h) (zq r)]
theorem zr{F:gW}:∀{b:Bd},b.Cs F->∀f∈b.calls,f∈F
 | .nil,_,_,h=>nomatch h
 | .lf _ l r,k,f,h=>(List.mem_append.mp h).elim (λh=>by cases l<;>first | (rw[List.mem_singleton.mp h];exact k.1) |exact nomatch h) (zr k.2 f)
 | .ite _ _ _ a b r,k,f,h=>(List.mem_append.mp h).elim (zr k.1 f) λh=>(List.mem_append.mp h).elim (zr k.2.1 f) (zr k.2.2 f)
 | .loop _ _ _ a r,k,f,h=>(List.mem_append.mp h).elim (zr k.1 f) (zr k.2 f)
theorem jW:∀(a b:Bd),(a.app b).size=a.size+b.size
 | .nil,b=>by show b.size=0+b.size;omega
 | .lf _ _ r,b=>by have:=jW r b;show(r.app b).size+1=r.size+1+b.size;omega
 | .ite _ _ _ x y r,b=>by have:=jW r b;show x.size+y.size+(r.app b).size+1=x.size+y.size+r.size+1+b.size;omega
 | .loop _ _ _ x r,b=>by have:=jW r b;show x.size+(r.app b).size+1=x.size+r.size+1+b.size;omega
theorem ze:∀(a b:Bd),(a.app b).dep=max a.dep b.dep
 | .nil,b=>(Nat.zero_max b.dep).symm
 | .lf _ _ r,b=>ze r b
 | .ite _ _ _ x y r,b=>by show max _ (r.app b).dep=max (max _ r.dep) b.dep;rw[ze r b,OR]
 | .loop _ _ _ x r,b=>by show max _ (r.app b).dep=max (max _ r.dep) b.dep;rw[ze r b,OR]
theorem J8:∀{a b:Bd},a.Ok y->b.Ok y->(a.app b).Ok y
 | .nil,_,_,h=>h
 | .lf _ _ _,_,g,h=>#[g.1,J8 g.2 h]
 | .ite _ _ _ _ _ _,_,g,h=>#[g.1,g.2.1,g.2.2.1,J8 g.2.2.2 h]
 | .loop _ _ _ _ _,_,g,h=>#[g.1,g.2.1,J8 g.2.2 h]
def dn(H:Hp):Bd->List V->Prop
 | .nil,x=>x=[]
 | .lf p l r,x=>∃v y,x= .ref p::y/\H p=some (.tup v)/\uP H l v/\dn H r y
 | .ite p t T a b r,x=>∃q Q A B y,x= .ref p::y/\H p=some (.tup [.str "if",.ref t,.ref q,.ref Q])/\bj H T t/\H q=some (.tup A)/\H Q=some (.tup B)/\dn H a A/\dn H b B/\dn H r y
 | .loop p t T a r,x=>∃q A y,x= .ref p::y/\H p=some (.tup [.str "while",.ref t,.ref q])/\bj H T t/\H q=some (.tup A)/\dn H a A/\dn H r y
theorem dn.mono(k:al H m):∀{x:List V},dn H a x->dn m a x:=by
 induction a with
 |nil=>exactλh=>h
 |lf p l r n=>rintro x ⟨v,y,e,c,d,f⟩;exact#[v,y,e,k _ _ c,d.mono k,n f]
 |ite p t T a b r i o I=>rintro x ⟨q,Q,A,B,y,e,c,g,d,f,j,s,u⟩;exact#[q,Q,A,B,y,e,k _ _ c,g.mono k,k _ _ d,k _ _ f,i j,o s,I u]
 |loop p t T a r i I=>rintro x ⟨q,A,y,e,c,g,d,f,j⟩;exact#[q,A,y,e,k _ _ c,g.mono k,k _ _ d,i f,I j]
theorem dn.app(k:dn H b y):∀{x:List V},dn H a x->dn H (a.app b) (x++y):=by
 induction a with
 |nil=>intro x h;have e:x=[]:=h;rw[e];exact k
 |lf p l r I=>rintro x ⟨v,z,e,c,d,f⟩;exact#[v,z++y,by rw[e];rfl,c,d,I f]
 |ite p t T a b r _ _ i=>rintro x ⟨q,Q,A,B,z,e,c,g,d,f,j,m,n⟩;exact#[q,Q,A,B,z++y,by rw[e];rfl,c,g,d,f,j,m,i n]
 |loop p t T a r _ i=>rintro x ⟨q,A,z,e,c,g,d,f,j⟩;exact#[q,A,z++y,by rw[e];rfl,c,g,d,f,i j]
theorem dn.len:∀{x:List V},dn H a x->x.length<=a.size:=by
 induction a with
 |nil=>intro x h;have e:x=[]:=h;rw[e];exact Gh 0
 |lf p l r I=>rintro x ⟨v,y,e,d,f,c⟩;rw[e];exact HY (I c)
 |ite p t T a b r _ _ i=>rintro x ⟨q,Q,A,B,y,e,d,j,f,c,g,m,k⟩;rw[e];exact HY (Gr (i k) (Ou _ _))
 |loop p t T a r _ i=>rintro x ⟨q,A,y,e,d,j,f,c,g⟩;rw[e];exact HY (Gr (i g) (Ou _ _))
inductive gN(H:Hp):V->Bd->Prop
 |lf (p:Addr) (l:Lf) (vs:List V) (h1:H p=some (.tup vs)) (h2:uP H l vs):gN H (.ref p) (.lf p l .nil)
 |ite (p t:Addr) (T:Tm) (a b:Bd) (qa qb:Addr) (as bs:List V) (h1:H p=some (.tup [.str "if",.ref t,.ref qa,.ref qb])) (h0:bj H T t) (h2:H qa=some (.tup as)) (h3:H qb=some (.tup bs)) (h4:dn H a as) (h5:dn H b bs):gN H (.ref p) (.ite p t T a b .nil)
 |loop (p t:Addr) (T:Tm) (a:Bd) (qa:Addr) (as:List V) (h1:H p=some (.tup [.str "while",.ref t,.ref qa])) (h0:bj H T t) (h2:H qa=some (.tup as)) (h3:dn H a as):gN H (.ref p) (.loop p t T a .nil)
theorem gN.bd(h:gN H v s):dn H s [v]:=by
 cases h with
 |lf p l V c d=>exact#[V,[],Z,c,d,Z]
 |ite p t T a b q Q A B c e d f g i=>exact#[q,Q,A,B,[],Z,c,e,d,f,g,i,Z]
 |loop p t T a q A c e d f=>exact#[q,A,[],Z,c,e,d,f,Z]
theorem gN.mono(k:al H g)(h:gN H v s):gN g v s:=by
 cases h with
 |lf p l V c d=>exact .lf p l V (k _ _ c) (d.mono k)
 |ite p t T a b q Q A B c e d f i j=>exact .ite p t T a b q Q A B (k _ _ c) (e.mono k) (k _ _ d) (k _ _ f) (i.mono k) (j.mono k)
 |loop p t T a q A c e d f=>exact .loop p t T a q A (k _ _ c) (e.mono k) (k _ _ d) (f.mono k)
theorem dn.last:∀{x:List V},dn H a x->x=[]/\a= .nil∨∃z v b s,x=z++[v]/\a=b.app s/\dn H b z/\gN H v s:=by
 induction a with
 |nil=>exactλh=>.inl #[h,Z]
 |lf p l r i=>
  rintro x ⟨u,y,e,f,g,n⟩
  rcases i n with ⟨E,d⟩ | ⟨z,v,b,s,E,d,j,k⟩
  ·exact .inr #[[],.ref p,.nil,.lf p l .nil,by rw[e,E];rfl,by rw[d];rfl,Z,.lf p l u f g]
  ·exact .inr #[.ref p::z,v,.lf p l b,s,by rw[e,E];rfl,by rw[d];rfl,#[u,z,Z,f,g,j],k]
 |ite p t T a b r _ _ i=>
  rintro x ⟨q,Q,A,B,y,e,f,m,g,n,G,C,o⟩
  rcases i o with ⟨E,d⟩ | ⟨z,v,c,s,E,d,j,k⟩
  ·exact .inr #[[],.ref p,.nil,.ite p t T a b .nil,by rw[e,E];rfl,by rw[d];rfl,Z,.ite p t T a b q Q A B f m g n G C]
  ·exact .inr #[.ref p::z,v,.ite p t T a b c,s,by rw[e,E];rfl,by rw[d];rfl,#[q,Q,A,B,z,Z,f,m,g,n,G,C,j],k]
 |loop p t T a r _ i=>
  rintro x ⟨q,A,y,e,f,m,g,G,o⟩
  rcases i o with ⟨E,d⟩ | ⟨z,v,c,s,E,d,j,k⟩
  ·exact .inr #[[],.ref p,.nil,.loop p t T a .nil,by rw[e,E];rfl,by rw[d];rfl,Z,.loop p t T a q A f m g G]
  ·exact .inr #[.ref p::z,v,.loop p t T a c,s,by rw[e,E];rfl,by rw[d];rfl,#[q,A,z,Z,f,m,g,G,j],k]
theorem zB:∀{a b:Bd},(a.app b).Ok y->a.Ok y/\b.Ok y
 | .nil,_,h=>#[trivial,h]
 | .lf _ _ _,_,h=>#[#[h.1,(zB h.2).1],(zB h.2).2]
 | .ite _ _ _ _ _ _,_,h=>#[#[h.1,h.2.1,h.2.2.1,(zB h.2.2.2).1],(zB h.2.2.2).2]
 | .loop _ _ _ _ _,_,h=>#[#[h.1,h.2.1,(zB h.2.2).1],(zB h.2.2).2]
structure Nm(ss:List Str)(M:Str->Prop):Prop where
 nd:ss.Nodup
 so:sortedS ss=true
 mem:∀x,x∈ss↔M x
theorem Nm.uniq(h:Nm a M)(g:Nm s M):a=s:=XN (Ky h.nd g.nd λx=>(h.mem x).trans (g.mem x).symm) h.so g.so
open Classical in
noncomputable def canon(M:Str->Prop):List Str:=if h:∃s,Nm s M then Classical.choose h else []
theorem Nm.canon(h:Nm s M):s=canon M:=by
 have e:∃s,Nm s M:=#[s,h]
 unfold _K.canon
 rw[dif_pos e]
 exact h.uniq (Classical.choose_spec e)
theorem Nm.len{s y:List Str}{M:Str->Prop}(h:Nm s M)(H:∀x,M x->x∈y):s.length<=y.length:=j7 h.nd λx a=>H x ((h.mem x).mp a)
def Lf.use(M:Str->Prop):Lf->Str->Prop
 | .rd x _ T,y=>(M y/\y≠x)∨y∈T.vars
 | .st x _ T,y=>(M y/\y≠x)∨y∈T.vars
 | .wr _ _ T U,y=>M y∨y∈T.vars∨y∈U.vars
 | .cl x _ _ t,y=>(M y/\y≠x)∨∃c∈t,y∈c.2.vars
 | .gv _ T,y=>y∈T.vars
def Bd.use:Bd->(Str->Prop)->Str->Prop
 | .nil,M=>M
 | .lf _ l r,M=>l.use (r.use M)
 | .ite _ _ T a b r,M=>λy=>(a.use (r.use M) y∨b.use (r.use M) y)∨y∈T.vars
 | .loop _ _ T a r,M=>λy=>(a.use (λ_=>False) y∨r.use M y)∨y∈T.vars
theorem JI:∀(a b:Bd) (M:Str->Prop),(a.app b).use M=a.use (b.use M)
 | .nil,_,_=>rfl
 | .lf _ l r,b,M=>by show l.use ((r.app b).use M)=l.use (r.use (b.use M));rw[JI r b M]
 | .ite _ _ T x y r,b,M=>by show(λz=>(x.use ((r.app b).use M) z∨y.use ((r.app b).use M) z)∨z∈T.vars)=λz=>(x.use (r.use (b.use M)) z∨y.use (r.use (b.use M)) z)∨z∈T.vars;rw[JI r b M]
 | .loop _ _ T x r,b,M=>by show(λz=>(x.use (λ_=>False) z∨(r.app b).use M z)∨z∈T.vars)=λz=>(x.use (λ_=>False) z∨r.use (b.use M) z)∨z∈T.vars;rw[JI r b M]
theorem Lf.use_in{M:Str->Prop}{l:Lf}(h:l.Ok Y)(a:∀x,M x->x∈Y):∀y,l.use M y->y∈Y:=by
 intro y H
 cases l with
 |rd x t T |st x t T=>exact H.elim (λz=>a y z.1) (ki h.2.1 y)
 |wr t u T U=>exact H.elim (a y) λz=>z.elim (ki h.1.1 y) (ki h.2.1 y)
 |cl x f q d=>exact H.elim (λz=>a y z.1) λ#[c,b,z]=>ki (h.2.2 c b).1 y z
 |gv t T=>exact ki h.1 y H
theorem Bd.use_in:∀{b:Bd} {M:Str->Prop},b.Ok Y->(∀x,M x->x∈Y)->∀y,b.use M y->y∈Y
 | .nil,_,_,H,y,c=>H y c
 | .lf _ l r,_,h,H,y,c=>Lf.use_in h.1 (Bd.use_in h.2 H) y c
 | .ite _ _ T a b r,_,h,H,y,c=>c.elim (λz=>z.elim (Bd.use_in h.2.1 (Bd.use_in h.2.2.2 H) y) (Bd.use_in h.2.2.1 (Bd.use_in h.2.2.2 H) y)) (ki h.1.1 y)
 | .loop _ _ T a r,_,h,H,y,c=>c.elim (λz=>z.elim (Bd.use_in h.2.1 (λ_ w=>w.elim) y) (Bd.use_in h.2.2 H y)) (ki h.1.1 y)
end _K
namespace _K
open PySem PySem.Spec PyProof.Rows _L
variable {P:Program}{w:World}{K:Frag}{mg:Str->Option Value}{base:Heap}
noncomputable abbrev dY:Stmt:=bL 14
noncomputable abbrev Bc:Stmt:=bL 44
noncomputable abbrev sS:Stmt:=bL 45
noncomputable abbrev wN:Stmt:=bL 46
noncomputable abbrev wM:Stmt:=bL 47
inductive c8(n:Nat)(c:List V)(H:Hp)(Q:VK)(b:XK):Prop
 |mk(a:Addr)(T:Tm)(d:List Str)(_:c=[.ref a])(_:bj H T a)(_:T.depth < n)(_:T.Good d)(_:d.length<=21)(_:∀(r:Addr) (ss:List Str) (H':Hp),H r=none->H' r=some (.lst (ss.map V.str))->ss.Nodup->(∀x,x∈ss↔x∈T.vars)->sortedS ss=true->ae H H'->Q (.ref r) H')
theorem sZ:aj z1z z1z (aa dY):=bK
theorem vZ{f:Addr}{o:FuncData}(F:aN K "names_in" "names_in" dY f o){n:Nat}(C:Cl P w K mg base (n+1) f o z1z (c8 n) "names_in")(M:mg "set"=none)(p:mg "sorted"=none):ah P w K mg base ay (n+2) f o z1z (c8 (n+1)):=by
 refine F.ok sZ (λvs H Q E h=>?_) (λc0 A O s H vs Q E v h=>?_)
 ·obtain⟨a,T,Y,rfl,_⟩:=h
  rfl
 obtain⟨a,T,Y,rfl,t,dp,g,j,q⟩:=h
 refine#[_,(jd (jv (j5 (jx (pv 0))) (jg (jo (jF jb))) jp) (jd (jv (j5 (jx (pv 0))) (jg (jo (jF (ja (jx (pv 0)) jb)))) jp) (jg (jo (jN (zR Z) Z p Mu (ja (jD (qy Z) Z M PM (ja (ju zX (C.e v (ja (jx (pv 0)) jb)) (C.e v (ja (jx (pv 0)) jb))) jb)) jb)))))),?_]
 cases T with
 |num m=>
  have b:H a=some (.tup [.str "num",.int m]):=t
  refine(js b Z #[Z,_,Z,cn P6 ?_])
  exact#[PZ,λr N=>q r [] _ N jc Mi (λx=>M0) Z (je N)]
 |var x=>
  have b:H a=some (.tup [.str "var",.str x]):=t
  refine(js b Z #[Z,_,Z,aS P6 ?_])
  refine(js b Z #[Z,_,Z,cn P6 ?_])
  exact(js b Z #[iG,λr N=>q r [x] _ N jc P5 (λy=>M0) Z (je N)])
 |op i B D=>
  obtain⟨p1,p2,b,h1,h2⟩:=t
  have d0:max B.depth D.depth+1 < n+1:=dp
  refine(js b Z #[Z,_,Z,aS P6 ?_])
  refine(js b Z #[Z,_,Z,aS P6 ?_])
  refine(js b Z #[p1,B,Y,Z,h1,P0,g.2.1,j,λr1 S H1 n1 e1 d1 G o1 u=>?_])
  refine(js (u _ _ b) Z #[p2,D,Y,Z,h2.same u,P0,g.2.2,j,λr2 k H2 n2 e2 d2 I o2 J=>?_])
  have l1:S.length<=21:=Gr (j7 d1 λx d=>ki g.2.1 x ((G x).mp d)) j
  have l2:k.length<=21:=Gr (j7 d2 λx d=>ki g.2.2 x ((I x).mp d)) j
  have b0:=zo
  refine#[r1,r2,_,_,Z,Z,J _ _ e1,e2,(by rw[Gg,Gg];omega),λc nc=>?_]
  refine#[c,S++k,Z,aH.of (by rw[jc,GY]),(λL nd hs=>HZ (HY (j7 nd hs)) (by rw[Gi];show S.length+k.length+1 < 4096;omega)),λl L nl dL R=>?_]
  have lL:=j7 dL λx d=>(R x).mp d
  rw[Gi]at lL
  refine#[l,L,Z,jc,P0,λz ss U W dz oz=>?_]
  have X:ae H (af (af H2 c (.lst (S.map V.str++k.map V.str))) l (D5 P w l L)):=(u.trans J).trans ((je nc).trans (je nl))
  refine q z ss _ (X.free U) jc (W.nodup_iff.mpr dz) (λx=>?_) oz (X.trans (je U))
  rw[W.mem_iff,R x,I8,G x,I x]
  exact List.mem_append.symm
theorem vM:ah P w K mg base ay 1 f d z1z (c8 0):=by
 have n:∀v H Q E,¬c8 0 v H Q E:=λv H Q E h=>by
  obtain⟨a,T,y,_,_,c,_⟩:=h
  exact absurd c (Lm _)
 exact#[λv H Q E h=>absurd h (n v H Q E),λA o s H b u v Q E _ _ _ _ h=>absurd h (n v H Q E)]
theorem x6(F:aN K "names_in" "names_in" dY f a)(b:au K a z1z [])(c:mg "names_in"=some (.ref f))(m:mg "set"=none)(M:mg "sorted"=none):
  ∀n:Nat,ah P w K mg base ay (n+1) f a z1z (c8 n)
 |0=>vM
 |n+1=>vZ F #[(x6 F b c m M n),b,F.kp,c] m M
noncomputable def Lf.own:Lf->List (Addr×Tm)
 | .rd _ t T=>[(t,T)]
 | .st _ t T=>[(t,T)]
 | .wr t u T U=>[(t,T),(u,U)]
 | .cl _ _ _ a=>a
 | .gv t T=>[(t,T)]
noncomputable def Bd.own:Bd->List (Addr×Tm)
 | .nil=>[]
 | .lf _ l _=>l.own
 | .ite _ t T _ _ _=>[(t,T)]
 | .loop _ t T _ _=>[(t,T)]
noncomputable def rT(c:Addr×Tm):V:=.ref c.1
inductive l8(b:List V)(H:Hp)(Q:VK)(a:XK):Prop
 |mk(v:V)(s:Bd)(_:b=[v])(_:gN H v s)(_:∀(r:Addr) (H':Hp),H' r=some (.tup (s.own.map rT))->ae H H'->Q (.ref r) H')
theorem YY:aX (a::b::r) (some 1) (some 2)=[b]:=by
 unfold aX
 have e:(1:Int)=((1:Nat):Int):=rfl
 have E:(2:Int)=((2:Nat):Int):=rfl
 rw[E,e,HT.sIx_nat,HT.sIx_nat,GX,GX]
 have c:min 1 (r.length+1+1)=1:=by omega
 have d:min 2 (r.length+1+1) - 1=1:=by omega
 rw[c,d]
 rfl
theorem yf:aj ["statement","word"] z4z (aa Bc):=bK
theorem Ar{f:Addr}{j:FuncData}(F:aN K "own_terms" "own_terms" Bc f j):ah P w K mg base ay 1 f j z4z l8:=by
 refine F.ok yf ?_ λC A o s H V Q E d h=>?_
 ·rintro _ _ _ _ ⟨v,s,rfl,_⟩
  rfl
 obtain⟨v,st,rfl,m,q⟩:=h
 refine#[_,(jd (jy 1 yf.nd (jx (pv 0))) (jd (jv (jz zg (pv 1) (jh (ja jm (ja jm jb))) Z) (jg (jo (jG kE (pv 0) (jE jf) jU))) jp) (jd (jv (j5 (pv 1)) (jg (jo (jG kE (pv 0) (jE jf) jU))) jp) (jd (jv (j5 (pv 1)) (jg (jo (jx (pv 0)))) jp) (jg (jo (jG kE (pv 0) (jE jf) (jE jf)))))))),?_]
 cases m with
 |lf p l V c g=>
  cases l with
  |rd x t T |st x t T=>
   obtain⟨rfl,i⟩:=g
   refine(js c Z #[_,Z,bN,λl n=>#[l,_,Z,.inr (aw.of jc),Z,Z,_,Z,cn P6 ?_]])
   exact#[_,Z,_,Z,p,_,Z,ao c n,λr e d s=>q r e d ((je n).trans s)]
  |wr t u T U=>
   obtain⟨rfl,i,L⟩:=g
   refine(js c Z #[_,Z,bN,λl n=>#[l,_,Z,.inr (aw.of jc),Z,Z,_,Z,aS P6 ?_]])
   refine#[_,Z,Z,_,Z,cn P6 ?_]
   exact#[_,Z,_,Z,p,_,Z,ao c n,λr e d s=>q r e d ((je n).trans s)]
  |cl x M y N=>
   obtain⟨rfl,z,i⟩:=g
   refine(js c Z #[_,Z,bN,λl n=>#[l,_,Z,.inr (aw.of jc),Z,Z,_,Z,aS P6 ?_]])
   refine#[_,Z,Z,_,Z,aS P6 ?_]
   refine#[_,Z,Z,_,Z,cn P6 ?_]
   exact(js (ao c n) Z (q y _ (ao z n) (je n)))
  |gv t T=>
   obtain⟨rfl,i⟩:=g
   refine(js c Z #[_,Z,bN,λl n=>#[l,_,Z,.inr (aw.of jc),Z,Z,_,Z,aS P6 ?_]])
   refine#[_,Z,Z,_,Z,aS P6 ?_]
   refine#[_,Z,Z,_,Z,aS P6 ?_]
   exact#[_,Z,_,Z,_,Z,p,_,Z,ao c n,λr e d s=>q r e (by rw[YY]at d;exact d) ((je n).trans s)]
 |ite p t T a b B O D R c G g I S W |loop p t T a B D c G g I=>
  refine(js c Z #[_,Z,bN,λl n=>#[l,_,Z,.inr (aw.of jc),Z,Z,_,Z,aS P6 ?_]])
  refine#[_,Z,Z,_,Z,aS P6 ?_]
  refine#[_,Z,Z,_,Z,aS P6 ?_]
  exact#[_,Z,_,Z,_,Z,p,_,Z,ao c n,λr e d s=>q r e (by rw[YY]at d;exact d) ((je n).trans s)]
theorem Kz{K:Frag}{a:Addr}{Y:List Str}{t:TT}{T:TE}{q:List V->Hp->Prop}{b:_L.St}{H:Hp}(f:Str->Bool)(L:Y.length<=1000)(A:H a=some (.lst (Y.map V.str)))
  (B:∀y g (Q:Bool->Hp->Prop),y∈Y->ae H g->(∀j,ae g j->Q (f y) j)->t (some (.str y)::b) g Q)
  (C:∀y g (Q:VK),y∈Y->Q (.str y) g->T (some (.str y)::b) g Q) (D:∀c,ae H c->q ((Y.filter f).map V.str) c):eE (uN K a) 1 b (bu 0) t T q H:=by
 have F:=zo
 refine#[λi m n c=>m=Y.length - i/\i<=Y.length/\n=((Y.take i).filter f).map V.str/\ae H c,#[Y.length,P5,Gp _,P5,ae.refl H],?_]
 rintro i m n c ⟨rfl,M,rfl,k⟩
 have d:aH K c a (Y.map V.str):=aH.of (k _ _ A)
 by_cases h:i < Y.length
 ·have o:(Y.map V.str)[i]?=some (.str Y[i]):=by rw[Gz,Gc h];rfl
  refine .inr #[#[_,_,d,o],?_,λz j=>z=((Y.take (i+1)).filter f).map V.str/\ae H j,λz j #[G,I]=>#[Y.length - (i+1),P0,Z,h,G,I],λv j N l y=>?_]
  ·rw[Gg]
   have:=Mf f (Y.take i)
   rw[GV]at this
   omega
  obtain⟨e,y⟩:=y
  subst e
  have p:=y _ d
  rw[o]at p
  cases p
  obtain⟨w,rfl⟩:=vC l
  have r:Y[i]∈Y:=IR h
  have s:Y.take (i+1)=Y.take i++[Y[i]]:=by rw[HV,Gc h];rfl
  refine#[#[[some _],Z,Z],B Y[i] _ _ r k λJ u=>?_]
  cases x:f Y[i] with
  |true=>
   refine cn Z (C Y[i] J _ r #[?_,k.trans u])
   rw[s,NN,GY]
   have E:[Y[i]].filter f=[Y[i]]:=by simp [x]
   rw[E]
   rfl
  |false=>
   refine aS Z #[?_,k.trans u]
   rw[s,NN,GY]
   have E:[Y[i]].filter f=[]:=by simp [x]
   rw[E]
   simp
 ·have e:i=Y.length:=by omega
  subst e
  refine .inl #[#[_,d,P5],?_]
  rw[Ii (Gh _)]
  exact D c k
def Lf.bt(M:Str->Prop):Lf->Str->Prop
 | .rd x _ _,y=>M y/\y≠x
 | .st x _ _,y=>M y/\y≠x
 | .wr _ _ _ _,y=>M y
 | .cl x _ _ _,y=>M y/\y≠x
 | .gv _ _,_=>False
def Bd.bt(M:Str->Prop):Bd->Str->Prop
 | .nil,y=>M y
 | .lf _ l _,y=>l.bt M y
 | .ite _ _ _ a b _,y=>a.use M y∨b.use M y
 | .loop _ _ _ a _,y=>a.use (λ_=>False) y∨M y
theorem uo(h:gN H v s)(M:Str->Prop)(y:Str):s.use M y↔s.bt M y∨∃c∈s.own,y∈c.2.vars:=by
 cases h with
 |lf p l V _ _=>
  cases l with
  |rd x t T |st x t T=>exact#[λz=>z.elim .inl λw=>.inr #[_,List.mem_singleton.mpr Z,w],λz=>z.elim .inl λ#[c,hc,w]=>.inr (by rw[List.mem_singleton.mp hc]at w;exact w)]
  |wr t u T U=>
   refine#[λz=>z.elim .inl λw=>.inr (w.elim (λw=>#[_,GF ..,w]) λw=>#[_,GJ _ (List.mem_singleton.mpr Z),w]),λz=>z.elim .inl λ#[c,hc,w]=>.inr ?_]
   rcases List.mem_cons.mp hc with e |hc
   ·rw[e]at w;exact .inl w
   ·rw[List.mem_singleton.mp hc]at w;exact .inr w
  |cl x f q d=>exact M0
  |gv t T=>exact#[λw=>.inr #[_,List.mem_singleton.mpr Z,w],λz=>z.elim False.elim λ#[c,hc,w]=>by rw[List.mem_singleton.mp hc]at w;exact w]
 |ite p t T a b Q g A B _ _ _ _ _ _ |loop p t T a Q A _ _ _ _=>exact#[λz=>z.elim .inl λw=>.inr #[_,List.mem_singleton.mpr Z,w],λz=>z.elim .inl λ#[c,hc,w]=>.inr (by rw[List.mem_singleton.mp hc]at w;exact w)]
structure NL(H:Hp)(g:Addr)(ss:List Str)(M:Str->Prop)(ys:List Str):Prop where
 at':H g=some (.lst (ss.map V.str))
 nm:Nm ss M
 sub:∀x,M x->x∈ys
 y20:ys.length<=21
theorem NL.len{H:Hp}{g:Addr}{s:List Str}{M:Str->Prop}{y:List Str}(h:NL H g s M y):s.length<=21:=Gr (h.nm.len h.sub) h.y20
theorem NL.same(h:NL H g a M y)(s:ae H b):NL b g a M y:=#[s _ _ h.at',h.nm,h.sub,h.y20]
structure NU(H:Hp)(g:Addr)(ss:List Str)(M:Str->Prop)(ys:List Str):Prop where
 at':H g=some (.lst (ss.map V.str))
 nd:ss.Nodup
 mem:∀x,x∈ss↔M x
 sub:∀x,M x->x∈ys
 y20:ys.length<=21
theorem NL.nu(h:NL H g s M y):NU H g s M y:=#[h.at',h.nm.nd,h.nm.mem,h.sub,h.y20]
inductive tP(n:Nat)(c:List V)(H:Hp)(Q:VK)(a:XK):Prop
 |mk(v:V)(g:Addr)(s:Bd)(b:List Str)(M:Str->Prop)(d:List Str)(_:c=[v,.ref g])(_:gN H v s)(_:NL H g b M d)(_:s.Ok d)(_:s.dep < n+1)(_:s.size<=10000000)(_:∀(r:Addr) (zs:List Str) (H':Hp),H' r=some (.lst (zs.map V.str))->(∀y,y∈zs↔s.bt M y)->zs.length<=50->ae H H'->Q (.ref r) H')
inductive fX(n:Nat)(c:List V)(H:Hp)(Q:VK)(a:XK):Prop
 |mk(v:V)(g:Addr)(s:Bd)(b:List Str)(M:Str->Prop)(d:List Str)(_:c=[v,.ref g])(_:gN H v s)(_:NL H g b M d)(_:s.Ok d)(_:s.dep < n+1)(_:s.size<=10000000)(_:∀(r:Addr) (zs:List Str) (H':Hp),H r=none->NL H' r zs (s.use M) d->ae H H'->Q (.ref r) H')
inductive iq(n:Nat)(e:List V)(H:Hp)(Q:VK)(c:XK):Prop
 |mk(a g:Addr)(b:Bd)(f:List V)(d:List Str)(M:Str->Prop)(h:List Str)(_:e=[.ref a,.ref g])(_:H a=some (.tup f))(_:dn H b f)(_:NU H g d M h)(_:b.Ok h)(_:b.dep < n)(_:b.size<=10000000)(_:∀(r:Addr) (zs:List Str) (H':Hp),H r=none->NL H' r zs (b.use M) h->ae H H'->Q (.ref r) H')
theorem Nm.empty:Nm [] (λ_=>False):=#[Mi,Z,λx=>#[λh=>absurd h GU,False.elim]]
theorem yh:aj ["statement","behind","word"] z3z (aa sS):=bK
noncomputable def tH:Scope:=#[.function,[(".0",.local),("name",.local),("statement",.free)],false,false,[]]
theorem CY:(["name","statement"]:List Str).Nodup:=by decide+kernel
theorem Cr:bG ["statement","behind","word"] (aa sS) tH ["name","statement"] 1 [0]:=oY
theorem rP{L n:Nat}(F:aN K "used_behind_terms" "used_behind_terms" sS f fd)(J:Cl P w K mg base L fA f0 z16z (iq n) "used_ahead"):ah P w K mg base ay (L+1) f fd z3z (tP n):=by
 refine F.ok yh ?_ λc0 A O s H vs Q E R h=>?_
 ·rintro _ _ _ _ ⟨v,g,s,G,M,Y,rfl,_⟩
  rfl
 obtain⟨v,g,st,G,M,Y,rfl,hs,c,W,hd,hz,q⟩:=h
 refine#[_,(jd (jy 2 yh.nd (jx (pv 0))) (jd (jv (jz zg (pv 2) (jh (ja jm (ja jm (ja jm jb)))) Z) (jg (jo (@zd _ _ _ _ _ _ _ (["name","statement"]) (1) ([0]) _ _ _ _ Z (qH (pv 1)) Cr (λ_ _ _ _ _=>(jw (i:=0) CY Z (Or.inl Z))) (λ_ _ _ _ _=>(@AU _ _ _ (jz rW (pv 0) (jr (r:=fc K) jM (pv 1) jf (λ_ _=>Z)) (aD _)))) (λ_ _ _ _ _=>(pv 0)) (by intro _;rfl)))) jp) (jd (jv (j5 (pv 2)) (jg (jo (ju zX (J.e R.m (ja (jx (pv 0)) (ja (pv 1) jb))) (J.e R.m (ja (jx (pv 0)) (ja (pv 1) jb)))))) jp) (jd (jv (j5 (pv 2)) (jg (jo (ju zX (J.e R.m (ja (jx (pv 0)) (ja (jF jb) jb))) (pv 1)))) jp) (jd (jv (j5 (pv 2)) (jg (jo (jF jb))) jp) (jg (jo (pv 1)))))))),?_]
 have g0:=c.len
 cases hs with
 |lf p l vs d B=>
  cases l with
  |rd x t T |st x t T=>
   obtain⟨rfl,X⟩:=B
   refine(js d Z #[_,Z,gn,λl N=>#[l,_,Z,.inr (aw.of jc),Z,Z,_,Z,cn P6 ?_]])
   have S:ae H (af H l (.tup [.str "set",.str "read",.str "call"])):=je N
   refine#[_,Z,g,Z,#[_,aH.of (S _ _ c.at')],Kz (λy=>!decide (V.str y=V.str x)) P0 (S _ _ c.at') (λy I Q' hy k C=>?_) (λy I Q' hy C=>#[_,Z,C]) λH' k r j=>?_]
   ·exact#[_,Z,js (k _ _ (S _ _ d)) Z #[Z,_,Z,C _ (ae.refl _)]]
   ·refine q r _ _ jc (λy=>?_) (Gr (Mf ..) P0) ((S.trans k).trans (je j))
    rw[Oo,c.nm.mem y]
    exact and_congr_right λ_=>by simp
  |wr t u T U=>
   obtain⟨rfl,X,hU⟩:=B
   refine(js d Z #[_,Z,gn,λl N=>#[l,_,Z,.inr (aw.of jc),Z,Z,_,Z,aS P6 ?_]])
   refine#[_,Z,Z,_,Z,aS P6 ?_]
   refine#[_,Z,Z,_,Z,aS P6 ?_]
   refine#[_,Z,Z,_,Z,aS P6 ?_]
   exact#[_,Z,q g G _ (ao c.at' N) c.nm.mem P0 (je N)]
  |cl x f' q' ts=>
   obtain⟨rfl,h8,X⟩:=B
   refine(js d Z #[_,Z,gn,λl N=>#[l,_,Z,.inr (aw.of jc),Z,Z,_,Z,cn P6 ?_]])
   have S:ae H (af H l (.tup [.str "set",.str "read",.str "call"])):=je N
   refine#[_,Z,g,Z,#[_,aH.of (S _ _ c.at')],Kz (λy=>!decide (V.str y=V.str x)) P0 (S _ _ c.at') (λy I Q' hy k C=>?_) (λy I Q' hy C=>#[_,Z,C]) λH' k r j=>?_]
   ·exact#[_,Z,js (k _ _ (S _ _ d)) Z #[Z,_,Z,C _ (ae.refl _)]]
   ·refine q r _ _ jc (λy=>?_) (Gr (Mf ..) P0) ((S.trans k).trans (je j))
    rw[Oo,c.nm.mem y]
    exact and_congr_right λ_=>by simp
  |gv t T=>
   obtain⟨rfl,X⟩:=B
   refine(js d Z #[_,Z,gn,λl N=>#[l,_,Z,.inr (aw.of jc),Z,Z,_,Z,aS P6 ?_]])
   refine#[_,Z,Z,_,Z,aS P6 ?_]
   refine#[_,Z,Z,_,Z,aS P6 ?_]
   refine#[_,Z,Z,_,Z,cn P6 ?_]
   exact#[iF,λr j=>q r [] _ jc (λy=>#[λh=>absurd h GU,λh=>(show False from h).elim]) (Gp _) ((je N).trans (je j))]
 |ite p t T a b qa qb as bs d h0 B h3 h4 h5=>
  refine(js d Z #[_,Z,gn,λl N=>#[l,_,Z,.inr (aw.of jc),Z,Z,_,Z,aS P6 ?_]])
  refine#[_,Z,Z,_,Z,cn P6 ?_]
  have S:ae H (af H l (.tup [.str "set",.str "read",.str "call"])):=je N
  have h6:max (max a.dep b.dep+1) 0 < n+1:=hd
  have h7:a.size+b.size+0+1<=10000000:=hz
  refine(js (S _ _ d) Z #[_,Z,qa,g,a,as,G,M,Y,Z,S _ _ B,h4.mono (ae.tm S),(c.same S).nu,W.2.1,P0,P0,λr1 z1 I _ D k1=>?_])
  have z:=S.trans k1
  refine(js (z _ _ d) Z #[_,Z,qb,g,b,bs,G,M,Y,Z,z _ _ h3,h5.mono (ae.tm z),(c.same z).nu,W.2.2.1,P0,P0,λr2 z2 H2 _ n2 k2=>?_])
  have l1:=D.len
  have l2:=n2.len
  have b0:=zo
  refine#[r1,r2,_,_,Z,Z,k2 _ _ D.at',n2.at',by rw[Gg,Gg];omega,λr j=>q r (z1++z2) _ (by rw[jc,GY]) (λy=>?_) (by rw[Gi];omega) ((z.trans k2).trans (je j))]
  rw[I8,D.nm.mem y,n2.nm.mem y]
  exact M0
 |loop p t T a qa as d h0 B h3=>
  refine(js d Z #[_,Z,gn,λl N=>#[l,_,Z,.inr (aw.of jc),Z,Z,_,Z,aS P6 ?_]])
  refine#[_,Z,Z,_,Z,aS P6 ?_]
  refine#[_,Z,Z,_,Z,cn P6 ?_]
  have S:ae H (af H l (.tup [.str "set",.str "read",.str "call"])):=je N
  have h6:max (a.dep+1) 0 < n+1:=hd
  have h7:a.size+0+1<=10000000:=hz
  refine(js (S _ _ d) Z #[iF,λe ne=>?_])
  have z:=S.trans (je (o:=.lst []) ne)
  refine#[qa,e,a,as,[],λ_=>False,Y,Z,z _ _ B,h3.mono (ae.tm z),(NL.nu #[jc,Nm.empty,λ_ w=>w.elim,c.y20]),W.2.1,P0,P0,λr1 z1 I _ D k1=>?_]
  have l1:=D.len
  have s3:=z.trans k1
  have b0:=zo
  refine#[_,Z,r1,g,_,_,Z,Z,D.at',s3 _ _ c.at',by rw[Gg,Gg];omega,λr j=>q r (z1++G) _ (by rw[jc,GY]) (λy=>?_) (by rw[Gi];omega) (s3.trans (je j))]
  rw[I8,D.nm.mem y,c.nm.mem y]
  exact M0
theorem AG(h:gN H v s):∀c∈s.own,bj H c.2 c.1:=by
 cases h with
 |lf p l V _ d=>
  cases l with
  |rd x t T |st x t T |gv t T=>intro c hc;rw[List.mem_singleton.mp hc];exact d.2
  |wr t u T U=>
   intro c hc
   rcases List.mem_cons.mp hc with e |hc
   ·rw[e];exact d.2.1
   ·rw[List.mem_singleton.mp hc];exact d.2.2
  |cl x f q i=>exact d.2.2
 |ite p t T a b Q j A B _ g _ _ _ _ |loop p t T a Q A _ g _ _=>intro c hc;rw[List.mem_singleton.mp hc];exact g
theorem AH(h:gN H v s)(o:s.Ok y):s.own.length<=100/\∀c∈s.own,df y c.2:=by
 have O:∀(t:Addr) (T:Tm),df y T->[(t,T)].length<=100/\∀c∈[(t,T)],df y c.2:=λt T h=>#[by show 1<=100;omega,λc hc=>by rw[List.mem_singleton.mp hc];exact h]
 cases h with
 |lf p l V _ g=>
  cases l with
  |rd x t T |st x t T=>exact O t T o.1.2
  |wr t u T U=>
   refine#[by show 2<=100;omega,λc hc=>?_]
   rcases List.mem_cons.mp hc with e |hc
   ·rw[e];exact o.1.1
   ·rw[List.mem_singleton.mp hc];exact o.1.2
  |cl x f q i=>exact#[Gr o.1.2.1 PZ,o.1.2.2]
  |gv t T=>exact O t T o.1
 |ite p t T a b Q j A B _ d _ _ _ _ |loop p t T a Q A _ d _ _=>exact O t T o.1
theorem zF:∀(a b c:Bd),(a.app b).app c=a.app (b.app c)
 | .nil,_,_=>rfl
 | .lf p l r,b,c=>by show Bd.lf p l ((r.app b).app c)=_;rw[zF r b c];rfl
 | .ite p t T x y r,b,c=>by show Bd.ite p t T x y ((r.app b).app c)=_;rw[zF r b c];rfl
 | .loop p t T x r,b,c=>by show Bd.loop p t T x ((r.app b).app c)=_;rw[zF r b c];rfl
theorem qL:∀(a:Bd),a.app .nil=a
 | .nil=>rfl
 | .lf p l r=>by show Bd.lf p l (r.app .nil)=_;rw[qL r]
 | .ite p t T x y r=>by show Bd.ite p t T x y (r.app .nil)=_;rw[qL r]
 | .loop p t T x r=>by show Bd.loop p t T x (r.app .nil)=_;rw[qL r]
inductive OI(v:V)(g r k:Addr)(s:Bd)(M:Str->Prop)(b:Hp)(i:Nat)(n:_L.St)(a:Hp):Prop
 |mk(l:Option V)(m:List Str)(d:n=[some v,some (.ref g),some (.ref k),l])(e:a k=some (.lst (m.map V.str)))(f:∀y,y∈m↔s.bt M y∨∃c∈s.own.take i,y∈c.2.vars)(h:m.length<=50+21*i)(j:aB k b a)
theorem tE:aj ["statement","behind","names","term"] z3z (aa wN):=bK
theorem rQ{L:Nat}(F:aN K "used_ahead_of" "used_ahead_of" wN f fd)(cB:Cl P w K mg base (L+9) fB f0 z3z (tP n) "used_behind_terms")(cO:Cl P w K mg base 1 fO f2 z4z l8 "own_terms")(cN:Cl P w K mg base 7 fN f3 z1z (c8 6) "names_in")(m0:mg "list"=none)(m2:mg "set"=none)(m3:mg "sorted"=none):ah P w K mg base ay (L+10) f fd z3z (fX n):=by
 refine F.ok tE ?_ λc0 A o1 s H vs Q E t h=>?_
 ·rintro _ _ _ _ ⟨v,g,s,ss,M,Y,rfl,_⟩
  rfl
 obtain⟨v,g,st,ss,M,Y,rfl,j,u,U,hd,hz,q⟩:=h
 refine#[_,(jd (jy 2 tE.nd (jD qT Z m0 OZ (ja (cB.e t.m (ja (pv 0) (ja (pv 1) jb))) jb))) (jd (kr He Z (zI (cO.e t.m (ja (pv 0) jb))) (jw (i:=3) tE.nd Z (Or.inl Z)) (jg (jO (kn Gx IU IS Ji (pv 2) (ja (cN.e t.m (ja (pv 3) jb)) jb))))) (jg (jo (jN (zR Z) Z m3 Mu (ja (jD (qy Z) Z m2 PM (ja (pv 2) jb)) jb)))))),?_]
 refine ai λF1 C=>#[_,Z,_,Z,v,g,st,ss,M,Y,Z,j,u,U,hd,hz,λr1 G H1 e1 m1 l1 k1=>#[r1,_,Z,.inl (aH.of e1),λN I=>C _ _ ?_]]
 clear C
 have s2:ae H (af H1 N (.lst (G.map V.str))):=k1.trans (je I)
 have J:=j.mono (ae.tm s2)
 obtain⟨o2,O⟩:=AH j U
 have a:af H1 N (.lst (G.map V.str)) N=some (.lst (G.map V.str)):=jc
 have h0:H N=none:=k1.free I
 generalize af H1 N (.lst (G.map V.str))=H2 at s2 J a
 refine ai λF1 C=>?_
 refine eO λF kF=>#[_,Z,v,st,Z,J,λr H3 t W=>#[r,Z,#[_,aw.of t],kF _ _ ?_]]
 clear kF
 have r0:r≠N:=jP t (W _ _ a) (by intro z;cases z)
 have s3:=s2.trans W
 have b0:=zo
 refine qQ (K:=K) (xs:=st.own.map rT) (OI v g r N st M H3) #[_,G,Z,W _ _ a,λy=>?_,P0,aB.refl] (λi σ H' hi h=>?_) ?_ (λσ H' h=>C _ _ ?_)
 ·rw[m1 y]
  exact#[.inl,λz=>z.elim (λw=>w) λ#[c,p,_]=>absurd p GU]
 ·obtain⟨_,_,_,_,_,_,k⟩:=h
  exact aw.of (k _ _ r0 t)
 ·clear C
  intro E _ i x σ H4 B fE Gq D h
  obtain⟨o3,X,rfl,h1,R,h3,k4⟩:=h
  rw[Gz]at B
  cases p:st.own[i]? with
  |none=>rw[p]at B;cases B
  |some c=>
   rw[p]at B
   cases B
   refine D ?_
   clear D
   have cm:=GP p
   have hi:i < st.own.length:=by
    rcases LW i st.own.length with z |z
    ·exact z
    ·rw[HF z]at p;cases p
   have tm:al H3 H4:=λb xs e=>k4 b _ (jP e (W _ _ a) (by intro z;cases z)) e
   show on _ E [some v,some (.ref g),some (.ref N),some (.ref c.1)] H4
   refine#[_,Z,.inl #[Z,_,aH.of h1],_,Z,c.1,c.2,Y,Z,((AG j c cm).mono (ae.tm s3)).mono tm,(O c cm).2,(O c cm).1,u.y20,λr5 s5 H5 n5 e5 d5 m5 o5 k5=>?_]
   have l5:s5.length<=21:=Gr (j7 d5 λx B=>ki (O c cm).1 x ((m5 x).mp B)) u.y20
   refine#[N,r5,_,_,Z,Z,k5 _ _ h1,e5,by rw[Gg,Gg];omega,fE _ _ #[_,X++s5,Z,by rw[jc,GY],λy=>?_,by rw[Gi];omega,λb o nb e=>?_]]
   ·rw[I8,R y,m5 y,HV,p]
    refine#[λz=>z.elim (λz=>z.elim .inl λ#[d,hd,w]=>.inr #[d,HN _ hd,w]) λw=>.inr #[c,Gy _ (List.mem_singleton.mpr Z),w],λz=>z.elim (λw=>.inl (.inl w)) λ#[d,hd,w]=>?_]
    rcases List.mem_append.mp hd with hd |hd
    ·exact .inl (.inr #[d,hd,w])
    ·have ed:d=c:=List.mem_singleton.mp hd
     rw[ed]at w
     exact .inr w
   ·rw[ji nb]
    exact k5 _ _ (k4 b o nb e)
 ·obtain⟨o3,X,rfl,h1,R,h3,k4⟩:=h
  clear C
  rw[Gg]at R h3
  have s4:ae H H':=λb o e=>k4 b o (jk e h0) (s3 _ _ e)
  refine#[_,Z,N,X,Z,aH.of h1,(λL nd j=>HZ (HY (j7 nd j)) (by show X.length+1 < 4096;omega)),λl L S h4 hm=>?_]
  have sub:∀y∈L,y∈Y:=λy hy=>Bd.use_in U u.sub y ((uo j M y).mpr (by have:=(R y).mp ((hm y).mp hy);rwa [Ho]at this))
  have lL:=Gr (j7 h4 sub) u.y20
  refine#[l,L,Z,jc,P0,λr' s0 T pm nd so=>?_]
  refine q r' s0 _ ((s4.trans (je S)).free T) #[jc,#[pm.nodup_iff.mpr nd,so,λy=>?_],Bd.use_in U u.sub,u.y20] ((s4.trans (je S)).trans (je T))
  rw[pm.mem_iff,hm y,R y,uo j M y,Ho]
theorem none_of(s:ae H h)(n:h r=none):H r=none:=by
 cases z:H r with
 |none=>rfl
 |some o=>have:=s _ _ z;rw[n]at this;cases this
inductive UI(a g:Addr)(b:Bd)(p:List V)(M:Str->Prop)(q:List Str)(H:Hp)(i:Nat)(s:_L.St)(d:Hp):Prop
 |mk(n:Addr)(o:Option V)(c m:Bd)(r:List Str)(e:s=[some (.ref a),some (.ref g),some (.ref n),o])(f:b=c.app m)(h:dn H c (p.take (p.length - i)))(j:NL d n r (m.use M) q)(k:ae H d)(l:H n=none)
theorem nX:aj ["body","behind","names","statement"] z16z (aa wM):=bK
theorem Ay{L:Nat}(F:aN K "used_ahead" "used_ahead" wM f fd)(cU:Cl P w K mg base (L+10) fU f0 z3z (fX n) "used_ahead_of")(J:mg "sorted"=none)(N:mg "reversed"=none):ah P w K mg base ay (L+11) f fd z16z (iq (n+1)):=by
 refine F.ok nX ?_ λc0 A O s H vs Q E hr h=>?_
 ·rintro _ _ _ _ ⟨a,g,b,xs,R,M,Y,rfl,_⟩
  rfl
 obtain⟨a,g,b,xs,R,M,Y,rfl,ha,hb,d,ho,hd,hz,q⟩:=h
 refine#[_,(jd (jy 2 nX.nd (jN qX Z J Mu (ja (pv 1) jb))) (jd (kr He Z (@sf _ _ _ _ _ _ _ Z N NF (pv 0) PZ PZ P7 P7) (jw (i:=3) nX.nd Z (Or.inl Z)) (jg (jy 2 nX.nd (cU.e hr.m (ja (pv 3) (ja (pv 2) jb)))))) (jg (jo (pv 2))))),?_]
 have g0:R.length<=21:=Gr (j7 d.nd λx o=>d.sub x ((d.mem x).mp o)) d.y20
 have b0:=aE
 refine ai λF1 t=>#[_,Z,g,R,Z,aH.of d.at',P0,λl c nl pm so=>t _ _ ?_]
 clear t
 have T:Nm c M:=#[pm.nodup_iff.mpr d.nd,so,λx=>pm.mem_iff.trans (d.mem x)]
 have U:ae H (af H l (.lst (c.map V.str))):=je nl
 have u:NL (af H l (.lst (c.map V.str))) l c M Y:=#[jc,T,d.sub,d.y20]
 generalize af H l (.lst (c.map V.str))=H1 at U u
 have xl:=hb.len
 refine ai λF1 t=>?_
 refine eO λF kF=>#[_,Z,a,xs,Z,aw.of (U _ _ ha),kF _ _ ?_]
 clear kF
 refine Xj (K:=K) (xs:=xs) (UI a g b xs M Y H) #[l,_,b,.nil,c,Z,(qL b).symm,by rw[My,Ho];exact hb,u,U,nl] (λi σ H' hi h=>?_) ?_ (λσ H' h=>t _ _ ?_)
 ·obtain⟨_,_,_,_,_,_,_,_,_,k,_⟩:=h
  exact aw.of (k _ _ ha)
 ·clear t
  intro E _ i x σ H2 o fE Gq p h
  obtain⟨I,o3,pre,eU,W,rfl,j,y,X,B,n2⟩:=h
  have hi:i < xs.length:=by
   rcases LW i xs.length with z |z
   ·exact z
   ·rw[HF (by simpa using z)]at o;cases o
  rw[Lh hi]at o
  have et:xs.take (xs.length - i)=xs.take (xs.length - (i+1))++[x]:=by
   have C:xs.length - i=(xs.length - 1 - i)+1:=by omega
   have e2:xs.length - (i+1)=xs.length - 1 - i:=by omega
   rw[C,e2,HV,o]
   rfl
  rw[et]at y
  rcases y.last with ⟨e,_⟩ | ⟨ws,v,D,S,C,e2,h4,h5⟩
  ·exact absurd e P5
  obtain⟨ew,ev⟩:=Od C Z
  cases ev
  subst e2
  have h0:=zB (j▸ho)
  have G:=zB h0.1
  have a1:b.dep=max (D.app S).dep eU.dep:=by rw[j,ze]
  have a2:(D.app S).dep=max D.dep S.dep:=ze ..
  have h6:S.dep<=b.dep:=by rw[a1,a2];exact Gr (LK ..) (Mc ..)
  clear a1 a2
  have h7:S.size<=b.size:=by rw[j,jW,jW];omega
  refine p ?_
  clear p
  show dO _ _ E [some (.ref a),some (.ref g),some (.ref I),some x] H2
  refine#[_,Z,_,Z,x,I,S,W,eU.use M,Y,Z,h5.mono (ae.tm B),X,G.2,P0,P0,λr z H3 nr n3 k3=>fE _ _ #[r,_,D,S.app eU,z,Z,by rw[j,zF],?_,by rw[JI];exact n3,B.trans k3,none_of B nr]]
  rw[ew]
  exact h4
 ·obtain⟨I,o3,pre,eU,W,rfl,j,y,X,B,n2⟩:=h
  rw[LV]at y
  have ep:pre= .nil:=by
   rcases y.last with ⟨_,e⟩ | ⟨ws,v,D,S,C,_⟩
   ·exact e
   ·exact absurd C P5
  rw[ep]at j
  refine#[_,Z,q I W H' n2 ?_ B]
  rw[j]
  exact X
theorem Ad:ah P w K mg base ay k f e z16z (iq 0):=by
 have n:∀v H Q E,¬iq 0 v H Q E:=λv H Q E h=>by
  obtain⟨a,g,b,x,S,M,y,_,_,_,_,_,d,_⟩:=h
  exact absurd d (Lm _)
 exact#[λv H Q E h=>absurd h (n v H Q E),λA o s H c u v Q E _ _ _ _ h=>absurd h (n v H Q E)]
theorem DW(F:aN K "used_ahead" "used_ahead" wM f e)(FB:aN K "used_behind_terms" "used_behind_terms" sS r g)(d:aN K "used_ahead_of" "used_ahead_of" wN o b)
  (B:au K e z16z []) (i:mg "used_ahead"=some (.ref f)) (j:au K g z3z []) (k:mg "used_behind_terms"=some (.ref r)) (p:au K b z3z []) (q:mg "used_ahead_of"=some (.ref o)) (C:Cl P w K mg base 1 u s z4z l8 "own_terms") (l:Cl P w K mg base 7 v t z1z (c8 6) "names_in") (M:mg "list"=none) (a:mg "set"=none) (m:mg "sorted"=none) (c:mg "reversed"=none):
  ∀n:Nat,ah P w K mg base ay (3*n+8) f e z16z (iq n)/\ah P w K mg base ay (3*n+10) o b z3z (fX n)
 |0=>by
  have h:ah P w K mg base ay 8 f e z16z (iq 0):=Ad
  have H:=rP (L:=8) (n:=0) FB #[h,B,F.kp,i]
  exact#[h,rQ (L:=0) d #[H,j,FB.kp,k] C l M a m]
 |n+1=>by
  have I:=(DW F FB d B i j k p q C l M a m c n).2
  have h:=Ay (L:=3*n) F #[I,p,d.kp,q] m c
  have E:3*n+11=3*(n+1)+8:=by omega
  rw[E]at h
  have H:=rP (L:=3*(n+1)+8) (n:=n+1) FB #[h,B,F.kp,i]
  exact#[h,rQ (L:=3*(n+1)) d #[H,j,FB.kp,k] C l M a m]
noncomputable abbrev A0:Stmt:=bL 49
noncomputable abbrev sK:Stmt:=bL 52
noncomputable abbrev sH:Stmt:=bL 53
noncomputable abbrev i8:Stmt:=bL 54
noncomputable abbrev sM:Stmt:=bL 55
noncomputable def Lf.cut:Lf->Nat
 | .st _ _ _=>0
 | .gv _ _=>0
 |_=>1
noncomputable def Bd.cuts:Bd->Nat
 | .nil=>0
 | .lf _ l r=>l.cut+r.cuts
 | .ite _ _ _ a b r=>1+a.cuts+b.cuts+r.cuts
 | .loop _ _ _ a r=>1+a.cuts+r.cuts
noncomputable def Bd.inn:Bd->Bd
 | .ite _ _ _ a b _=>a.app b
 | .loop _ _ _ a _=>a
 |_=>.nil
theorem zE:∀(a b:Bd),(a.app b).cuts=a.cuts+b.cuts
 | .nil,b=>by show b.cuts=0+b.cuts;omega
 | .lf _ l r,b=>by have:=zE r b;show l.cut+(r.app b).cuts=l.cut+r.cuts+b.cuts;omega
 | .ite _ _ _ x y r,b=>by have:=zE r b;show 1+x.cuts+y.cuts+(r.app b).cuts=1+x.cuts+y.cuts+r.cuts+b.cuts;omega
 | .loop _ _ _ x r,b=>by have:=zE r b;show 1+x.cuts+(r.app b).cuts=1+x.cuts+r.cuts+b.cuts;omega
inductive lU(b:List V)(H:Hp)(Q:VK)(a:XK):Prop
 |mk(v:V)(s:Bd)(_:b=[v])(_:gN H v s)(_:s.size<=10000000)(_:∀(r:Addr) (xs:List V) (H':Hp),H' r=some (.tup xs)->dn H' s.inn xs->ae H H'->Q (.ref r) H')
inductive gu(d:List V)(H:Hp)(Q:VK)(c:XK):Prop
 |mk(a:Addr)(b:Bd)(e:List V)(_:d=[.ref a])(_:H a=some (.tup e))(_:dn H b e)(_:b.size<=10000000)(_:∀H',ae H H'->Q (.int (b.cuts:Int)) H')
theorem Dx:aj z4z z4z (aa A0):=bK
theorem Ak(F:aN K "bodies_in" "bodies_in" A0 f y):ah P w K mg base ay 1 f y z4z lU:=by
 refine F.ok Dx ?_ λC A o s H V Q E j h=>?_
 ·rintro _ _ _ _ ⟨v,s,rfl,_⟩
  rfl
 obtain⟨v,st,rfl,z,B,q⟩:=h
 refine#[_,(jd (jv (j5 (jx (pv 0))) (jg (jo (ju jZ (jx (pv 0)) (jx (pv 0))))) jp) (jd (jv (j5 (jx (pv 0))) (jg (jo (jx (pv 0)))) jp) (jg (jo (jh jb))))),?_]
 have D:=aE
 cases z with
 |lf p l V c d=>
  cases l with
  |rd x t T |st x t T |wr t u T U |cl x f R S |gv t T=>
   obtain⟨rfl,_⟩:=d
   refine(js c Z #[Z,_,Z,aS P6 ?_])
   refine(js c Z #[Z,_,Z,aS P6 ?_])
   exact#[iF,λr N=>q r [] _ jc Z (je N)]
 |ite p t T a b e G g I c J d i m n=>
  refine(js c Z #[Z,_,Z,cn P6 ?_])
  have L:a.size+b.size+0+1<=10000000:=B
  have W:=m.len
  have X:=n.len
  exact(js c Z (js c Z #[e,G,g,I,Z,Z,d,i,P0,λr M j s=>q r _ M j ((n.mono (ae.tm s)).app (m.mono (ae.tm s))) s]))
 |loop p t T a e g c J d i=>
  refine(js c Z #[Z,_,Z,aS P6 ?_])
  refine(js c Z #[Z,_,Z,cn P6 ?_])
  exact(js c Z (q e g H d i (ae.refl H)))
theorem wZ(h:gN H v s):s.inn.size < s.size/\∃(p:Addr) (w:Str) (r:List V),v= .ref p/\H p=some (.tup (.str w::r))/\s.cuts=(if nH (.str w) [.str "set",.str "give"]=true then 0 else 1)+s.inn.cuts:=by
 cases h with
 |lf p l i c d=>
  refine#[Nat.zero_lt_succ _,?_]
  cases l with
  |rd x t T |wr t u T U |cl x f Q j=>obtain⟨rfl,_⟩:=d;exact#[p,_,_,Z,c,by rw[GG P6];rfl]
  |st x t T |gv t T=>obtain⟨rfl,_⟩:=d;exact#[p,_,_,Z,c,by rw[Gw P6];rfl]
 |ite p t T a b q k A B c e d g m n=>
  refine#[by show(a.app b).size < a.size+b.size+0+1;rw[jW];omega,p,_,_,Z,c,?_]
  rw[GG P6]
  show 1+a.cuts+b.cuts+0=1+(a.app b).cuts
  rw[zE]
  omega
 |loop p t T a q A c e d g=>
  refine#[by show a.size < a.size+0+1;omega,p,_,_,Z,c,?_]
  rw[GG P6]
  show 1+a.cuts+0=1+a.cuts
  omega
theorem eG:dA (v::y) 0=some v:=jH (j:=0) Z
inductive MI(a n:Addr)(b:Bd)(H:Hp)(m:Nat)(p:_L.St)(c:Hp):Prop
 |mk(l:Option V)(W:Bd)(o:List V)(k:Nat)(d:m=W.size)(e:p=[some (.ref a),some (.int (k:Int)),some (.ref n),l])(f:c n=some (.lst o))(g:dn c W o)(h:k+W.cuts=b.cuts)(i:W.size<=10000000)(j:aB n H c)
theorem g9:aj ["body","many","todo","statement"] ["body"] (aa sK):=bK
theorem vY(F:aN K "many_cuts" "many_cuts" sK f fd)(cB:Cl P w K mg base 1 fB f0 z4z lU "bodies_in")(m0:mg "list"=none):ah P w K mg base ay 2 f fd ["body"] gu:=by
 refine F.ok g9 ?_ λc0 A o1 s H vs Q E hr h=>?_
 ·rintro _ _ _ _ ⟨a,b,xs,rfl,_⟩
  rfl
 obtain⟨a,b,xs,rfl,ha,hb,hz,q⟩:=h
 refine#[_,(jd (jy 1 g9.nd jf) (jd (jy 2 g9.nd (jD qT Z m0 OZ (ja (pv 0) jb))) (jd (Kb He (@si _ _ _ (pv 2) (λ_=>Z)) (jd (jy 3 g9.nd (AR Gx PySem.F.slot_list_pop PySem.F.type_list_pop Aa (pv 2))) (jd (j3 (jv (jz qS (jx (pv 3)) (jh (ja jm (ja jm jb))) Z) (jg (AV (i:=1) g9.nd Z (Or.inl Z) jf yU)) jp)) (jg (jO (kn Gx IU IS Yp (pv 2) (ja (cB.e hr.m (ja (pv 3) jb)) jb))))))) (jg (jo (pv 1)))))),?_]
 have b0:=aE
 refine ai λU d=>d _ _ ?_
 clear d
 refine ai λU d=>#[_,Z,a,_,Z,.inr (aw.of ha),λt C=>d _ _ ?_]
 clear d
 have s0:ae H (af H t (.lst xs)):=je C
 refine ai λU d=>?_
 refine ny (MI a t b H) b.size #[_,b,xs,0,Z,Z,jc,hb.mono (ae.tm s0),P0,hz,λc o N e=>s0 _ _ e] ?_
 intro m σ D E _ fE F X Y Gq y h
 obtain⟨o3,W,zs,k,rfl,rfl,x,h2,h3,h4,h5⟩:=h
 refine y #[_,Z,!zs.isEmpty,.inl #[zs,aH.of x,Z],?_]
 clear y
 rcases h2.last with ⟨e1,e2⟩ | ⟨g,v,B,n,e1,e2,g1,g2⟩
 ·rw[e1]
  refine Y _ (d _ _ #[_,Z,?_])
  rw[e2]at h3
  have e3:k=b.cuts:=by have:k+0=b.cuts:=h3;omega
  rw[e3]
  exact q _ λc o e=>h5 c o (jk e C) e
 ·rw[e1]
  have ne:(!(g++[v]).isEmpty)=true:=by cases g<;>rfl
  rw[ne]
  refine X _ ?_
  clear Y X d
  have h6:W.size=B.size+n.size:=by rw[e2,jW]
  have h7:W.cuts=B.cuts+n.cuts:=by rw[e2,zE]
  obtain⟨h8,p,w',r,rfl,hp,hc⟩:=wZ g2
  rw[e1]at x
  refine ai λU d=>#[_,Z,.inl #[Z,_,aH.of x],t,_,.ref p,Z,Z,x,P5,d _ _ ?_]
  clear d
  rw[List.dropLast_concat]
  have T:al D (af D t (.lst g)):=λc ys e=>by rw[ji (jP e x (by intro z;cases z))];exact e
  have t2:af D t (.lst g) t=some (.lst g):=jc
  have u:=g1.mono T
  have I:=g2.mono T
  have J:=T _ _ hp
  have k2:aB t H (af D t (.lst g)):=λc o N e=>by rw[ji N];exact h5 c o N e
  generalize af D t (.lst g)=H2 at t2 u I J k2
  clear T x h2 h5 g1 g2 hp
  have R:∀(j:Nat) (H3:Hp),ae H2 H3->j+B.cuts+n.inn.cuts=b.cuts->on (EO K "list" (gX K) (a7 2) (am (dF lU [] E0 (am (a7 3) aO)) aO)) E [some (.ref a),some (.int (j:Int)),some (.ref t),some (.ref p)] H3:=λj H3 L hk=>by
   have g0:=I.mono (ae.tm L)
   refine#[_,Z,.inl #[Z,_,aH.of (L _ _ t2)],_,Z,.ref p,n,Z,g0,P0,λr' ys H4 h0 hy s4=>?_]
   have S:=L.trans s4
   have l1:=u.len
   have l2:=hy.len
   refine#[t,r',g,ys,Z,Z,S _ _ t2,aw.of h0,P0,fE (B.app n.inn).size _ _ (by rw[jW];omega) #[_,B.app n.inn,g++ys,j,Z,Z,jc,?_,by rw[zE];omega,by rw[jW];omega,λc o N e=>?_]]
   ·have M:al H4 (af H4 t (.lst (g++ys))):=λc z0 e=>by rw[ji (jP e (S _ _ t2) (by intro z;cases z))];exact e
    exact(hy.mono M).app ((u.mono (ae.tm S)).mono M)
   ·rw[ji N]
    exact S _ _ (k2 c o N e)
  refine ai λU d=>dw (λO H'=>∃j:Nat,O=[some (.ref a),some (.int (j:Int)),some (.ref t),some (.ref p)]/\ae H2 H'/\j+B.cuts+n.inn.cuts=b.cuts) (λE2 _ fm=>?_) λO H' h=>?_
  ·clear d fE
   refine uF λG X Y=>(js J eG #[bN,λl nl=>#[l,_,Z,.inr (aw.of jc),Z,Z,_,Z,?_]])
   cases hv:nH (.str w') [.str "set",.str "give"] with
   |true=>
    rw[hv,Gw Z]at hc
    exact Y _ (fm _ _ #[k,Z,je nl,P0])
   |false=>
    rw[hv,GG Gn]at hc
    refine X _ #[_,Z,_,_,Z,Z,fm _ _ #[k+1,?_,je nl,P0]]
    show [_,some (V.int ((k:Int)+1)),_,_]=[_,some (V.int ((k+1:Nat):Int)),_,_]
    rfl
  ·obtain⟨j,rfl,L,hk⟩:=h
   exact d _ _ (R j H' L hk)
end _K
namespace _K
open PySem PySem.Spec PyProof.Rows _L
variable {P:Program}{w:World}{K:Frag}{mg:Str->Option Value}{base:Heap}
inductive D0 where
 |go (n:Int) |give (t:Addr)
structure Wy where
 sets:List (Str×Addr)
 goal:D0
inductive Dd where
 |st (p:Addr) |ask (t:Addr)
structure Ct where
 M:Str->Prop
 d:Dd
 ws:List Wy
structure Pc where
 M:Str->Prop
 w:Wy
def aM(H:Hp):Tr->V->List V->Prop
 | .lf v,x,_=>x=v/\FK v=true
 | .tp l,x,_=>l.isL=true/\∃a X,x= .ref a/\H a=some (.tup X)/\aM H l .non X
 | .nil,_,X=>X=[]
 | .cons h t,_,X=>h.isL=false/\t.isL=true/\∃y Y,X=y::Y/\aM H h y []/\aM H t .non Y
theorem aM.mono(k:al H d):∀{t:Tr} {x:V} {X:List V},aM H t x X->aM d t x X:=by
 intro t
 induction t with
 |lf v |nil=>exactλh=>h
 |tp l f=>rintro x X ⟨h,a,Y,e,b,c⟩;exact#[h,a,Y,e,k _ _ b,f c]
 |cons h t i I=>rintro x X ⟨E,g,y,Y,e,b,c⟩;exact#[E,g,y,Y,e,i b,I c]
noncomputable def aI:List Tr->Tr
 | []=>.nil
 |t::T=>.cons t (aI T)
theorem Qu:∀t:List Tr,(aI t).isL=true
 | []=>rfl
 |_::_=>rfl
noncomputable def aG(t:List Tr):Tr:=.tp (aI t)
noncomputable def ba(x:Str):Tr:=.lf (.str x)
noncomputable def oG(a:Addr):Tr:=.lf (.ref a)
noncomputable def aF(n:Int):Tr:=.lf (.int n)
section
variable {H:Hp}
theorem jA:aM H (aI []) .non []:=rfl
theorem jl{t:Tr}(h:t.isL=false)(a:aM H t y [])(b:aM H (aI T) .non Y):aM H (aI (t::T)) .non (y::Y):=#[h,Qu T,y,Y,Z,a,b]
theorem jC(h:H a=some (.tup x))(b:aM H (aI t) .non x):aM H (aG t) (.ref a) []:=#[Qu t,a,x,Z,h,b]
theorem jQ:aM H (ba x) (.str x) []:=#[Z,Z]
theorem Jb:aM H (oG a) (.ref a) []:=#[Z,Z]
theorem jT:aM H (aF n) (.int n) []:=#[Z,Z]
theorem JJ(a:aM H (aI s) .non Y):∀{T:List Tr} {x:List V},aM H (aI T) .non x->aM H (aI (T++s)) .non (x++Y)
 | [],x,h=>by have e:x=[]:=h;rw[e];exact a
 |t::T,x,h=>by obtain⟨E,_,y,z,e,b,c⟩:=h;rw[e];exact jl E b (JJ a c)
theorem kW:∀{T:List Tr} {x:List V},aM H (aI T) .non x->x.length=T.length
 | [],x,h=>by have e:x=[]:=h;rw[e];rfl
 |t::T,x,h=>by obtain⟨_,_,y,z,e,_,a⟩:=h;rw[e,GX,GX,kW a]
theorem Xm:∀(S:List Str),aM H (aI (S.map ba)) .non (S.map V.str)
 | []=>rfl
 |s::S=>jl Z jQ (Xm S)
theorem YZ:∀{T:List Tr} {x:List V},aM H (aI T) .non x->aM H (aI T.reverse) .non x.reverse
 | [],x,h=>by have e:x=[]:=h;rw[e];rfl
 |t::T,x,h=>by
  obtain⟨E,_,y,z,e,a,b⟩:=h
  rw[e,Lu,Lu]
  exact JJ (jl E a jA) (YZ b)
theorem qr:∀{T:List Tr} {X:List V},aM H (aI T) .non X->∀(i:Nat) (x:V),X[i]?=some x->∃t,T[i]?=some t/\aM H t x []
 | [],X,h,i,x,a=>by have e:X=[]:=h;rw[e]at a;simp at a
 |t::T,X,h,0,x,a=>by obtain⟨_,_,y,z,e,b,c⟩:=h;rw[e]at a;cases a;exact#[t,Z,b]
 |t::T,X,h,i+1,x,a=>by obtain⟨_,_,y,z,e,b,c⟩:=h;rw[e]at a;simpa using qr c i x (by simpa using a)
end
noncomputable def DH(s:Str×Addr):Tr:=aG [ba s.1,oG s.2]
noncomputable def vt:D0->Tr
 | .go n=>aG [ba "go",aF n]
 | .give t=>aG [ba "give",oG t]
noncomputable def gM(w:Wy):Tr:=aG [aG (w.sets.map DH),vt w.goal]
noncomputable def D7:Dd->Tr
 | .st p=>oG p
 | .ask t=>aG [ba "ask",oG t]
noncomputable def Cu(c:Ct):Tr:=aG [aG ((canon c.M).map ba),D7 c.d,aG (c.ws.map gM)]
theorem yP(g:D0):(vt g).isL=false:=by cases g<;>rfl
theorem Cy(d:Dd):(D7 d).isL=false:=by cases d<;>rfl
def mv(H:Hp)(p:Pc)(v:V)(g:Addr)(y:List Str):Prop:=∃(r:Addr) (s:List Str) (W:V),v= .ref r/\H r=some (.tup [.ref g,W])/\NL H g s p.M y/\aM H (gM p.w) W []
theorem mv.same(h:mv H p v g y)(s:ae H a):mv a p v g y:=by
 obtain⟨r,S,W,e,b,c,d⟩:=h
 exact#[r,S,W,e,s _ _ b,c.same s,d.mono (ae.tm s)]
theorem mv.but(h:mv H p v g y)(k:aB f H c)(d:H f=some (.lst C))(n:g≠f):mv c p v g y:=by
 obtain⟨r,s,W,e,i,a,j⟩:=h
 have t:al H c:=λb x e=>k b _ (jP e d (by intro z;cases z)) e
 exact#[r,s,W,e,t _ _ i,#[k _ _ n a.at',a.nm,a.sub,a.y20],j.mono t]
noncomputable def Lf.isCut:Lf->Bool
 | .st _ _ _=>false
 | .gv _ _=>false
 |_=>true
noncomputable def Bd.deed:Bd->Dd
 | .lf p _ _=>.st p
 | .ite _ t _ _ _ _=>.ask t
 | .loop _ t _ _ _=>.ask t
 | .nil=>.st 0
inductive hZ(b:List V)(H:Hp)(Q:VK)(a:XK):Prop
 |mk(v:V)(s:Bd)(_:b=[v])(_:gN H v s)(_:∀(d:V) (H':Hp),aM H' (D7 s.deed) d []->ae H H'->Q d H')
inductive fV(b:List V)(H:Hp)(Q:VK)(a:XK):Prop
 |mk(t:Addr)(T:Tm)(c:List Str)(_:b=[.ref t])(_:bj H T t)(_:df c T)(_:c.length<=21)(_:∀(v:V) (g:Addr) (H':Hp),mv H' #[λx=>x∈T.vars,#[[],.give t]] v g c->H g=none->ae H H'->Q v H')
inductive oe(K:Frag)(c:List V)(H:Hp)(Q:VK)(b:XK):Prop
 |mk(a:Addr)(_:c=[.ref a])(_:aw K H a [.str "num",.int 0])(_:∀(r:Addr),H r=none->Q (.ref r) (af H r (.lst [])))
inductive og(K:Frag)(b:List V)(H:Hp)(Q:VK)(a:XK):Prop
 |mk(t:Addr)(c:List Str)(_:b=[.ref t])(_:aw K H t [.str "num",.int 0])(_:c.length<=21)(_:∀(v:V) (g:Addr) (H':Hp),mv H' #[λx=>x∈(Tm.num 0).vars,#[[],.give t]] v g c->H g=none->ae H H'->Q v H')
open Classical in
noncomputable def hV(x:Str)(t:Addr)(p:Pc):Wy:=if p.M x then #[(x,t)::p.w.sets,p.w.goal] else p.w
inductive ik(d:List V)(H:Hp)(Q:VK)(a:XK):Prop
 |mk(v b:V)(p t:Addr)(x:Str)(T:Tm)(c:Pc)(g:Addr)(e:List Str)(_:d=[v,b])(_:gN H v (.lf p (.st x t T) .nil))(_:mv H c b g e)(_:x∈e)(_:df e T)(_:c.w.sets.length<=10000000)(_:∀(v':V) (g':Addr) (H':Hp),mv H' #[(Lf.st x t T).use c.M,hV x t c] v' g' e->H g'=none->ae H H'->Q v' H')
theorem Bj:aj z4z z4z (aa sH):=bK
theorem vV(F:aN K "deed_of" "deed_of" sH f e):ah P w K mg base ay 1 f e z4z hZ:=by
 refine F.ok Bj ?_ λC A o s H V Q E z h=>?_
 ·rintro _ _ _ _ ⟨v,s,rfl,_⟩
  rfl
 obtain⟨v,st,rfl,g,q⟩:=h
 refine#[_,(jd (jv (jz zg (jx (pv 0)) (jh (ja jm (ja jm jb))) Z) (jg (jo (jh (ja jm (ja (jx (pv 0)) jb))))) jp) (jg (jo (pv 0)))),?_]
 cases g with
 |lf p l V c d=>
  cases l with
  |rd x t T |st x t T |wr t u T U |cl x f B D |gv t T=>
   obtain⟨rfl,_⟩:=d
   refine(js c Z #[bN,λl n=>#[l,_,Z,.inr (aw.of jc),Z,Z,_,Z,aS P6 ?_]])
   exact#[_,Z,q _ _ Jb (je n)]
 |ite p t T a b i I j J c m d y L M |loop p t T a i j c m d y=>
  refine(js c Z #[bN,λl n=>#[l,_,Z,.inr (aw.of jc),Z,Z,_,Z,cn P6 ?_]])
  refine(js (ao c n) Z #[bN,λr N=>?_])
  exact q _ _ (jC jc (jl Z jQ (jl Z Jb jA))) ((je n).trans (je N))
theorem Aq{fN:Addr}{fdN:FuncData}(F:aN K "names_in" "names_in" dY f b)(c:Cl P w K mg base (n+1) f b z1z (c8 n) "names_in")(m:mg "set"=none)(M:mg "sorted"=none):ah P w K mg base ay (n+2) f b z1z (oe K):=by
 refine F.ok sZ (λv H Q E h=>?_) (λC A o s H v Q E d h=>?_)
 ·obtain⟨a,rfl,_⟩:=h
  rfl
 obtain⟨a,rfl,g,q⟩:=h
 refine#[_,(jd (jv (j5 (jx (pv 0))) (jg (jo (jF jb))) jp) (jd (jv (j5 (jx (pv 0))) (jg (jo (jF (ja (jx (pv 0)) jb)))) jp) (jg (jo (jN (zR Z) Z M Mu (ja (jD (qy Z) Z m PM (ja (ju zX (c.e d (ja (jx (pv 0)) jb)) (c.e d (ja (jx (pv 0)) jb))) jb)) jb)))))),?_]
 refine#[_,Z,a,_,_,_,Z,Z,g,Z,Z,_,Z,cn P6 ?_]
 exact#[iF,λr N=>q r N]
theorem nW:aj z1z z1z (aa i8):=bK
theorem rO(F:aN K "place_of_give" "place_of_give" i8 f d)(C:Cl P w K mg base 7 U i z1z (c8 6) "names_in"):ah P w K mg base ay 8 f d z1z fV:=by
 refine F.ok nW ?_ λj A o s H V Q E l h=>?_
 ·rintro _ _ _ _ ⟨t,T,y,rfl,_⟩
  rfl
 obtain⟨t,T,y,rfl,p,O,b,q⟩:=h
 refine#[_,(jg (jo (jh (ja (C.e l.m (ja (pv 0) jb)) (ja (jh (ja (jh jb) (ja (jh (ja jm (ja (pv 0) jb))) jb))) jb))))),?_]
 refine#[_,Z,t,T,y,Z,p,O.2,O.1,b,λg v a z B D M G I=>?_]
 have J:NL a g v (λx=>x∈T.vars) y:=#[B,#[D,G,M],ki O.1,b]
 refine#[iF,λe L=>#[_,Z,bN,λu c=>#[bN,λx N=>#[bN,λr n=>?_]]]]
 have S:ae a (af (af (af (af a e (.tup [])) u (.tup [.str "give",.ref t])) x (.tup [.ref e,.ref u])) r (.tup [.ref g,.ref x])):=(((je L).trans (je c)).trans (je N)).trans (je n)
 refine q _ g _ #[r,_,.ref x,Z,jc,J.same S,?_] z (I.trans S)
 exact jC (ao jc n) (jl Z (jC (ao (ao (ao jc c) N) n) jA) (jl Z (jC (ao (ao jc N) n) (jl Z jQ (jl Z Jb jA))) jA))
theorem At(F:aN K "place_of_give" "place_of_give" i8 f j)(C:Cl P w K mg base 7 G l z1z (oe K) "names_in"):ah P w K mg base ay 8 f j z1z (og K):=by
 refine F.ok nW ?_ λp A o s H V Q E v h=>?_
 ·rintro _ _ _ _ ⟨t,y,rfl,_⟩
  rfl
 obtain⟨t,y,rfl,z,B,q⟩:=h
 refine#[_,(jg (jo (jh (ja (C.e v.m (ja (pv 0) jb)) (ja (jh (ja (jh jb) (ja (jh (ja jm (ja (pv 0) jb))) jb))) jb))))),?_]
 refine#[_,Z,t,Z,z,λg a=>?_]
 have b:ae H (af H g (.lst [])):=je a
 have c:NL (af H g (.lst [])) g [] (λx=>x∈(Tm.num 0).vars) y:=#[jc,#[Mi,Z,λx=>M0],λx h=>absurd h GU,B]
 generalize af H g (.lst [])=d at b c
 refine#[iF,λe D=>#[_,Z,bN,λu i=>#[bN,λx N=>#[bN,λr n=>?_]]]]
 have S:ae d (af (af (af (af d e (.tup [])) u (.tup [.str "give",.ref t])) x (.tup [.ref e,.ref u])) r (.tup [.ref g,.ref x])):=(((je D).trans (je i)).trans (je N)).trans (je n)
 refine q _ g _ #[r,_,.ref x,Z,jc,c.same S,?_] a (b.trans S)
 exact jC (ao jc n) (jl Z (jC (ao (ao (ao jc i) N) n) jA) (jl Z (jC (ao (ao jc N) n) (jl Z jQ (jl Z Jb jA))) jA))
end _K
namespace _K
open PySem PySem.Spec PyProof.Rows _L
variable {P:Program}{w:World}{K:Frag}{mg:Str->Option Value}{base:Heap}
theorem vw{Y:List Str}:nH (.str x) (Y.map V.str)=decide (x∈Y):=by
 by_cases h:x∈Y
 ·rw[G8 h]
  unfold nH
  rw[Oe]
  exact#[.str x,List.mem_map.mpr #[x,h,Z],by simp [mw]]
 ·rw[GH h]
  unfold nH
  rw[N8]
  intro z
  rw[Oe]at z
  obtain⟨v,a,e⟩:=z
  obtain⟨y,H,rfl⟩:=List.mem_map.mp a
  have E:x=y∨y=x:=by
   first
    |exact .inl (by simpa [mw] using e)
    |exact .inr (by simpa [mw] using e)
  rcases E with rfl |rfl
  ·exact h H
  ·exact h H
theorem BF{H:Hp}{w:Wy}{v:V}(h:aM H (gM w) v []):∃(W s:Addr) (S:List V) (y:V),v= .ref W/\H W=some (.tup [.ref s,y])/\H s=some (.tup S)/\aM H (aI (w.sets.map DH)) .non S/\aM H (vt w.goal) y []:=by
 obtain⟨_,W,x,rfl,a,_,_,l,b,e,⟨_,s,S,c,d,f⟩,_,_,g,Y,E,i,j⟩:=h
 have k:Y=[]:=j
 rw[k]at E
 rw[E]at e
 rw[e,c]at a
 exact#[W,s,S,g,Z,a,d,f,i]
theorem ni:aj ["statement","behind","way"] z3z (aa sM):=bK
theorem v6(F:aN K "place_of_set" "place_of_set" sM f fd)(cU:Cl P w K mg base 10 fU f0 z3z (fX 0) "used_ahead_of"):ah P w K mg base ay 11 f fd z3z ik:=by
 refine F.ok ni ?_ λc0 A O s H vs Q E hr h=>?_
 ·rintro _ _ _ _ ⟨v,bv,p,t,x,T,C,g,Y,rfl,_⟩
  rfl
 obtain⟨v,bv,p,t,x,T,C,g,Y,rfl,X,hp,hx,ok,hl,q⟩:=h
 refine#[_,(jd (jy 2 ni.nd (jx (pv 1))) (jd (j3 (jv (jz zg (jx (pv 0)) (jx (pv 1)) Z) (jg (jy 2 ni.nd (jh (ja (ju jZ (jh (ja (jG kE (pv 0) (jE jf) jU) jb)) (jx (pv 2))) (ja (jx (pv 2)) jb))))) jp)) (jg (jo (jh (ja (cU.e hr.m (ja (pv 0) (ja (jx (pv 1)) jb))) (ja (pv 2) jb))))))),?_]
 have b0:=aE
 obtain⟨r,ss,wv,rfl,b,B,hW⟩:=hp
 have h0:=X
 cases X with
 |lf _ _ vs h1 h2=>
  obtain⟨rfl,hT⟩:=h2
  obtain⟨wa,sa,sx,y,rfl,i,D,j,hy⟩:=BF hW
  refine ai λF1 d=>(js b Z (d _ _ ?_))
  clear d
  have sl:=kW j
  rw[Gg]at sl
  refine ai λF1 d=>dw (λl I=>∃W:V,l=[some (.ref p),some (.ref r),some W]/\aM I (gM (hV x t C)) W []/\ae H I) (λE2 _ fm=>?_) λl I h=>?_
  ·clear d
   refine uF λG kT kF=>(js h1 Z (js b Z #[g,_,Z,.inl (aH.of B.at'),Z,Qr _,_,Z,?_]))
   rw[vw]
   by_cases a:x∈ss
   ·rw[G8 a]
    refine kT _ #[_,Z,_,Z,p,_,Z,h1,λs1 H1 J k1=>#[iG,λu nu=>?_]]
    have L:=k1.trans (je (o:=.tup [.ref s1]) nu)
    refine(js (L _ _ i) Z #[u,sa,_,_,Z,Z,jc,L _ _ D,by show 1+sx.length<=_;omega,λc H2 hc z=>?_])
    have R:=L.trans z
    refine(js (R _ _ i) Z #[bN,λnw n=>fm _ _ #[.ref nw,Z,?_,R.trans (je n)]])
    have tm:=ae.tm (R.trans (je (o:=.tup [.ref c,y]) n))
    unfold hV
    rw[Gw ((B.nm.mem x).mp a)]
    refine jC jc (jl Z (jC (ao hc n) (jl Z ?_ (j.mono tm))) (jl (yP _) (hy.mono tm) jA))
    exact jC (ao (z _ _ (ao J nu)) n) (jl Z jQ (jl Z Jb jA))
   ·rw[GH a]
    refine kF _ (fm _ _ #[_,Z,?_,ae.refl _])
    unfold hV
    rw[GG λw=>a ((B.nm.mem x).mpr w)]
    exact hW
  ·obtain⟨W,rfl,S,k⟩:=h
   refine d _ _ ?_
   clear d
   refine#[_,Z,js (k _ _ b) Z #[.ref p,g,.lf p (.st x t T) .nil,ss,C.M,Y,Z,h0.mono (ae.tm k),B.same k,#[#[hx,ok],trivial],(by show 0 < 1;decide),(by show 0+1<=10000000;decide),λg' zs H3 n3 N3 z=>?_]]
   refine#[_,Z,bN,λr' N=>q _ g' _ #[r',zs,W,Z,jc,N3.same (je N),S.mono (ae.tm (z.trans (je N)))] (k.free n3) ((k.trans z).trans (je N))]
noncomputable abbrev wH:Stmt:=bE (bL 56) 1
noncomputable abbrev wL:Stmt:=bE (bL 56) 2
noncomputable abbrev wI:Stmt:=bE (bL 56) 3
noncomputable abbrev wO:Stmt:=bE (bL 56) 4
noncomputable abbrev sI:Stmt:=bE (bL 56) 0
noncomputable def pL(m:Int)(p:Addr)(l:Lf)(q:Pc×List Ct):Pc×List Ct:=match l with
 | .gv t T=>(#[λx=>x∈T.vars,#[[],.give t]],q.2)
 | .st x t T=>(#[(Lf.st x t T).use q.1.M,hV x t q.1],q.2)
 | .rd x t T=>(#[(Lf.rd x t T).use q.1.M,#[[],.go (m - (q.2.length:Int) - 1)]],q.2++[#[(Lf.rd x t T).use q.1.M,.st p,[q.1.w]]])
 | .wr t u T U=>(#[(Lf.wr t u T U).use q.1.M,#[[],.go (m - (q.2.length:Int) - 1)]],q.2++[#[(Lf.wr t u T U).use q.1.M,.st p,[q.1.w]]])
 | .cl x f a b=>(#[(Lf.cl x f a b).use q.1.M,#[[],.go (m - (q.2.length:Int) - 1)]],q.2++[#[(Lf.cl x f a b).use q.1.M,.st p,[q.1.w]]])
noncomputable def pB(m:Int):Bd->Pc->List Ct->Pc×List Ct
 | .nil,c,f=>(c,f)
 | .lf p l r,c,f=>pL m p l (pB m r c f)
 | .ite p t T a b r,c,f=>
  let q:=pB m r c f
  let o:=pB m b q.1 q.2
  let s:=pB m a q.1 o.2
  (#[(Bd.ite p t T a b .nil).use q.1.M,#[[],.go (m - (q.2.length:Int) - ((Bd.ite p t T a b .nil).cuts:Int))]],s.2++[#[(Bd.ite p t T a b .nil).use q.1.M,.ask t,[s.1.w,o.1.w]]])
 | .loop p t T a r,c,f=>
  let q:=pB m r c f
  let d:Pc:=#[(Bd.loop p t T a .nil).use q.1.M,#[[],.go (m - (q.2.length:Int) - ((Bd.loop p t T a .nil).cuts:Int))]]
  let s:=pB m a d q.2
  (d,s.2++[#[(Bd.loop p t T a .nil).use q.1.M,.ask t,[s.1.w,q.1.w]]])
theorem J9(m:Int):∀(a b:Bd) (c:Pc) (f:List Ct),pB m (a.app b) c f=pB m a (pB m b c f).1 (pB m b c f).2
 | .nil,_,_,_=>rfl
 | .lf p l r,b,c,f=>by show pL m p l (pB m (r.app b) c f)=pL m p l (pB m r _ _);rw[J9 m r b c f]
 | .ite p t T x y r,b,c,f=>by
  have e:=J9 m r b c f
  show pB m (.ite p t T x y (r.app b)) c f=_
  unfold pB
  rw[e]
 | .loop p t T x r,b,c,f=>by
  have e:=J9 m r b c f
  show pB m (.loop p t T x (r.app b)) c f=_
  unfold pB
  rw[e]
theorem j8(m:Int):∀(b:Bd) (c:Pc) (F:List Ct),(pB m b c F).2.length=F.length+b.cuts
 | .nil,_,_=>rfl
 | .lf p l r,c,F=>by
  have e:=j8 m r c F
  show(pL m p l (pB m r c F)).2.length=F.length+(l.cut+r.cuts)
  cases l with
  |rd x t T |wr t u T U |cl x f a d=>show((pB m r c F).2++[_]).length=F.length+(1+r.cuts);rw[Gi,e];show _+1=_;omega
  |st x t T |gv t T=>show(pB m r c F).2.length=F.length+(0+r.cuts);omega
 | .ite p t T x y r,c,F=>by
  have e:=j8 m r c F
  show((pB m x _ (pB m y _ _).2).2++[_]).length=_
  rw[Gi,j8 m x,j8 m y,e]
  show _+1=F.length+(1+x.cuts+y.cuts+r.cuts)
  omega
 | .loop p t T x r,c,F=>by
  have e:=j8 m r c F
  show((pB m x _ _).2++[_]).length=_
  rw[Gi,j8 m x,e]
  show _+1=F.length+(1+x.cuts+r.cuts)
  omega
theorem Xn(x:Str)(t:Addr)(p:Pc):(hV x t p).sets.length<=p.w.sets.length+1:=by
 unfold hV
 split
 ·exact Gh _
 ·exact Ic _
theorem Y0(m:Int):∀(b:Bd) (a:Pc) (f:List Ct),(pB m b a f).1.w.sets.length<=a.w.sets.length+b.size
 | .nil,_,_=>Gh _
 | .lf p l r,a,f=>by
  have e:=Y0 m r a f
  show(pL m p l (pB m r a f)).1.w.sets.length<=a.w.sets.length+(r.size+1)
  cases l with
  |st x t T=>have:=Xn x t (pB m r a f).1;show(hV x t (pB m r a f).1).sets.length<=_;omega
  |_=>exact Gp _
 | .ite p t T x y r,a,f=>Gp _
 | .loop p t T x r,a,f=>Gp _
theorem kH:∀b:Bd,b.cuts<=b.size
 | .nil=>Gh _
 | .lf _ l r=>by
  have:=kH r
  have h:l.cut<=1:=by cases l<;>first |exact Gh _ |exact Gp _
  show l.cut+r.cuts<=r.size+1
  omega
 | .ite _ _ _ a b r=>by have:=kH a;have:=kH b;have:=kH r;show 1+a.cuts+b.cuts+r.cuts<=a.size+b.size+r.size+1;omega
 | .loop _ _ _ a r=>by have:=kH a;have:=kH r;show 1+a.cuts+r.cuts<=a.size+r.size+1;omega
structure CK(K:Frag)(C:Addr):Prop where
 cl:ou K C
 nm:aV K C "many"
 nf:aV K C "found"
structure Cg(H:Hp)(C ia dx fa:Addr)(m:Int)(cts:List Ct)(cs:List V):Prop where
 ins:H ia=some (.ins C dx [("many",.int m),("found",.ref fa)])
 fd:H fa=some (.lst cs)
 tr:aM H (aI (cts.map Cu)) .non cs
theorem Cg.same(h:Cg H C i d f m c a)(s:ae H b):Cg b C i d f m c a:=#[s _ _ h.ins,s _ _ h.fd,h.tr.mono (ae.tm s)]
theorem Cg.len(h:Cg H C i d f m c a):a.length=c.length:=by rw[kW h.tr,Gg]
theorem Cg.tm(h:Cg H C i d f m c g)(k:aB f H a):al H a:=λb x e=>k b _ (jP e h.fd (by intro z;cases z)) e
structure uM(H:Hp)(C ia dx fa:Addr)(m:Int)(cts:List Ct)(cs:List V)(pc:Pc)(bv:V)(g:Addr)(ys:List Str)(b:Bd):Prop where
 c:Cg H C ia dx fa m cts cs
 p:mv H pc bv g ys
 ng:g≠fa
 ok:b.Ok ys
 sz:cts.length+pc.w.sets.length+b.size<=10000000
def oQ(H:Hp)(C i d f:Addr)(m:Int)(y:List Str)(q:Pc×List Ct)(Q:VK):Prop:=∀(v:V) (g:Addr) (c:List V) (h:Hp),mv h q.1 v g y->g≠f->Cg h C i d f m q.2 c->aB f H h->Q v h
inductive l9(C:Addr)(n:Nat)(l:List V)(H:Hp)(Q:VK)(c:XK):Prop
 |mk(j h i a g:Addr)(m:Int)(d:List Ct)(f o:List V)(k:Pc)(e:V)(p:List Str)(b:Bd)(_:l=[.ref j,.ref a,e])(_:uM H C j h i m d f k e g p b)(_:H a=some (.tup o))(_:dn H b o)(_:b.dep < n)(_:oQ H C j h i m p (pB m b k d) Q)
inductive Bs(C:Addr)(n:Nat)(j:List V)(H:Hp)(Q:VK)(a:XK):Prop
 |mk(h e f g:Addr)(m:Int)(b:List Ct)(d:List V)(i:Pc)(v c:V)(k:List Str)(s:Bd)(_:j=[.ref h,v,c])(_:uM H C h e f m b d i c g k s)(_:gN H v s)(_:s.dep < n+1)(_:oQ H C h e f m k (pB m s i b) Q)
noncomputable def Bd.isCut:Bd->Bool
 | .lf _ l _=>l.isCut
 | .nil=>false
 |_=>true
inductive wY(C:Addr)(n:Nat)(j:List V)(H:Hp)(Q:VK)(a:XK):Prop
 |mk(h e f g:Addr)(m:Int)(b:List Ct)(d:List V)(i:Pc)(v c:V)(k:List Str)(s:Bd)(_:j=[.ref h,v,c])(_:uM H C h e f m b d i c g k s)(_:gN H v s)(_:s.dep < n+1)(_:s.isCut=true)(_:oQ H C h e f m k (pB m s i b) Q)
noncomputable def gF(m:Int)(c:Pc)(p:Pc)(f:List Ct):Bd->List Wy×List Ct
 | .ite _ _ _ a b _=>([(pB m a p (pB m b p f).2).1.w,(pB m b p f).1.w],(pB m a p (pB m b p f).2).2)
 | .loop _ _ _ a _=>([(pB m a c f).1.w,p.w],(pB m a c f).2)
 |_=>([p.w],f)
inductive Bt(C:Addr)(n:Nat)(o:List V)(H:Hp)(Q:VK)(a:XK):Prop
 |mk(i e f g h:Addr)(m:Int)(b:List Ct)(d:List V)(j k:Pc)(v c l:V)(p:List Str)(s:Bd)(_:o=[.ref i,v,l,c])(_:uM H C i e f m b d j c g p s)(_:mv H k l h p)(_:h≠f)(_:k.w.sets=[])(_:gN H v s)(_:s.dep < n+1)(_:∀(wv:V) (cs':List V) (H':Hp),aM H' (aG ((gF m k j b s).1.map gM)) wv []->Cg H' C i e f m (gF m k j b s).2 cs'->aB f H H'->Q wv H')
theorem XX(h:gN H v s)(g:s.isCut=true)(m:Int)(c:Pc)(F:List Ct):
  pB m s c F=(#[s.use c.M,#[[],.go (m - (F.length:Int) - (s.cuts:Int))]],(gF m #[s.use c.M,#[[],.go (m - (F.length:Int) - (s.cuts:Int))]] c F s).2++[#[s.use c.M,s.deed,(gF m #[s.use c.M,#[[],.go (m - (F.length:Int) - (s.cuts:Int))]] c F s).1]]):=by
 cases h with
 |lf p l V d e=>
  cases l with
  |rd x t T |wr t u T U |cl x f a k=>rfl
  |st x t T |gv t T=>cases g
 |ite p t T a b q Q A B d i e j n o |loop p t T a q A d i e j=>rfl
theorem ut(h:mv H p v g y):∃(r:Addr) (W:V),v= .ref r/\H r=some (.tup [.ref g,W])/\aM H (gM p.w) W []:=by
 obtain⟨r,s,W,e,a,c,b⟩:=h
 exact#[r,W,e,a,b]
theorem DF:aj ["self","statement","place","behind","other"] z20z (aa wO):=bK
theorem De(F:aN K "ways_of" "Cutting.ways_of" wO f fd)(X:CK K C)(GB:ah P w K mg base ay (4*n+31) fB f0 z12z (l9 C n))(bB:au K f0 z12z [])(hB:a5 K C "place_of_body" fB):ah P w K mg base ay (4*n+32) f fd z20z (Bt C n):=by
 refine F.ok DF ?_ λc3 A o1 s H vs Q E hr h=>?_
 ·rintro _ _ _ _ ⟨i,D,R,g,g2,m,d,S,y,pl,v,bv,pv,Y,s,rfl,_⟩
  rfl
 obtain⟨i,D,R,g,g2,m,d,S,y,pl,v,bv,G,Y,st,rfl,I,h6,n0,h7,hs,hd,q⟩:=h
 refine#[_,(jd (jv (j5 (jx (pv 1))) (jd (jy 4 DF.nd (j4 (pv 0) X.cl hB GB hr.m bB .nil a6 (ja (jx (pv 1)) (ja (pv 3) jb)))) (jg (jo (jh (ja (jr jM (j4 (pv 0) X.cl hB GB hr.m bB .nil a6 (ja (jx (pv 1)) (ja (pv 3) jb))) jf (λ_ _=>Z)) (ja (jx (pv 4)) jb)))))) jp) (jd (jv (j5 (jx (pv 1))) (jg (jo (jh (ja (jr jM (j4 (pv 0) X.cl hB GB hr.m bB .nil a6 (ja (jx (pv 1)) (ja (pv 2) jb))) jf (λ_ _=>Z)) (ja (jx (pv 3)) jb))))) jp) (jg (jo (jh (ja (jx (pv 3)) jb)))))),?_]
 have b0:=aE
 obtain⟨br,bw,rfl,J,L⟩:=ut I.p
 cases hs with
 |lf p l vs e M=>
  have f2:gE (bX (am (dG (fc K) (a7 3) (tC (V.int 1))) aO)) { nx:=λx H'=>Q V.non H',rt:=Q } [some (.ref i),some (.ref p),some G,some (.ref br),none] H:=by
   refine(js J Z #[iG,λr N=>q (.ref r) S _ (jC jc (jl Z (L.mono (ae.tm (je N))) jA)) (I.c.same (je N)) (aB.of_same (je N))])
  cases l with
  |rd x t T |st x t T |wr t u T U |cl x f q2 ts |gv t T=>
   obtain⟨rfl,_⟩:=M
   refine(js e Z #[Z,_,Z,aS P6 ?_])
   refine(js e Z #[Z,_,Z,aS P6 ?_])
   exact f2
 |ite p t T a b qa qb as bs e h0 M h3 h4 h5=>
  refine(js e Z #[Z,_,Z,cn P6 ?_])
  have h8:max (max a.dep b.dep+1) 0 < n+1:=hd
  have hz:d.length+y.w.sets.length+(a.size+b.size+0+1)<=10000000:=I.sz
  have W:=I.ok
  refine ai λF1 f1=>#[_,Z,i,D,_,Z,I.c.ins,Z,js e Z #[_,Z,i,D,R,qb,g,m,d,S,bs,y,.ref br,Y,b,Z,#[I.c,I.p,I.ng,W.2.2.1,P0],h3,h5,P0,λv1 g1 j H1 p1 n1 O z=>f1 _ _ ?_]]
  clear f1
  have B:=I.c.tm z
  have lc:=j8 m b y d
  have cb:=kH b
  refine#[_,Z,i,D,_,Z,O.ins,Z,js (B _ _ e) Z #[_,Z,i,D,R,qa,g,m,_,j,as,y,.ref br,Y,a,Z,#[O,I.p.but z I.c.fd I.ng,I.ng,W.2.1,P0],B _ _ M,h4.mono B,P0,λv2 g2 c0 H2 p2 n2 c2 k2=>?_]]
  obtain⟨r2,w2,rfl,h',a0⟩:=ut p2
  obtain⟨r1,w1,rfl,k,o⟩:=ut (p1.but k2 O.fd n1)
  refine#[r2,_,_,_,Z,Z,aw.of h',Z,js k Z #[bN,λr N=>q (.ref r) c0 _ (jC jc (jl Z (a0.mono (ae.tm (je N))) (jl Z (o.mono (ae.tm (je N))) jA))) (c2.same (je N)) ((z.trans k2).trans (aB.of_same (je N)))]]
 |loop p t T a qa as e h0 M h3=>
  refine(js e Z #[Z,_,Z,aS P6 ?_])
  refine(js e Z #[Z,_,Z,cn P6 ?_])
  have h8:max (a.dep+1) 0 < n+1:=hd
  have hz:d.length+y.w.sets.length+(a.size+0+1)<=10000000:=I.sz
  have W:=I.ok
  refine#[_,Z,i,D,_,Z,I.c.ins,Z,js e Z #[_,Z,i,D,R,qa,g2,m,d,S,as,pl,G,Y,a,Z,#[I.c,h6,n0,W.2.1,by rw[h7];show d.length+0+a.size<=_;omega],M,h3,P0,λv1 g1 j H1 p1 n1 O z=>?_]]
  obtain⟨r1,w1,rfl,k,o⟩:=ut p1
  have B:=I.c.tm z
  refine#[r1,_,_,_,Z,Z,aw.of k,Z,js (B _ _ J) Z #[bN,λr N=>q (.ref r) j _ (jC jc (jl Z (o.mono (ae.tm (je N))) (jl Z ((L.mono B).mono (ae.tm (je N))) jA))) (O.same (je N)) (z.trans (aB.of_same (je N)))]]
theorem sU:aj ["self","statement","behind","n","names","place","ways"] z7z (aa wI):=bK
theorem C8(F:aN K "place_of_cut" "Cutting.place_of_cut" wI f fd)(y:CK K C)(h7:n<=7)(GW:ah P w K mg base ay (4*n+32) fW f0 z20z (Bt C n))(bW:au K f0 z20z [])(hW:a5 K C "ways_of" fW)(cM:Cl P w K mg base 2 fM f2 ["body"] gu "many_cuts")(cU:Cl P w K mg base 31 fU f3 z3z (fX 7) "used_ahead_of")(cD:Cl P w K mg base 1 fD f4 z4z hZ "deed_of")(ml:mg "len"=none)(m0:mg "tuple"=none):ah P w K mg base ay (4*n+33) f fd z7z (wY C n):=by
 refine F.ok sU ?_ λc0 A o1 s H vs Q E Y h=>?_
 ·rintro _ _ _ _ ⟨z,L,l,g,m,a,cs,j,v,bv,ys,s,rfl,_⟩
  rfl
 obtain⟨z,L,l,g,m,a,cs,j,v,bv,ys,st,rfl,I,B,hd,hc,q⟩:=h
 refine#[_,(jd (jy 3 sU.nd (ju kP (ju kP (kM (pv 0) Z) (jN jK Z ml HJ (ja (kM (pv 0) Z) jb))) (cM.e Y.m (ja (jh (ja (pv 1) jb)) jb)))) (jd (jy 4 sU.nd (cU.e Y.m (ja (pv 1) (ja (jx (pv 2)) jb)))) (jd (jy 5 sU.nd (jh (ja (pv 4) (ja (jh (ja (jh jb) (ja (jh (ja jm (ja (pv 3) jb))) jb))) jb)))) (jd (jy 6 sU.nd (j4 (pv 0) y.cl hW GW Y.m bW .nil a6 (ja (pv 1) (ja (pv 5) (ja (pv 2) jb))))) (jd (jO (kn Gx GS GQ jR (kM (pv 0) Z) (ja (jh (ja (jD jI Z m0 Ib (ja (pv 4) jb)) (ja (cD.e Y.m (ja (pv 1) jb)) (ja (pv 6) jb)))) jb))) (jg (jo (pv 5)))))))),?_]
 have b0:=aE
 obtain⟨br,ss,bw,rfl,h0,hN,h1⟩:=id I.p
 have hz:=I.sz
 have lc:=I.c.len
 refine ai λF1 i=>#[_,Z,z,C,L,_,_,Z,I.c.ins,y.cl,y.nm,Z,_,Z,z,C,L,_,_,Z,I.c.ins,y.cl,y.nf,Z,l,_,Z,.inl (aH.of I.c.fd),_,_,Z,Z,_,Z,iG,λu nu=>?_]
 have s1:ae H (af H u (.tup [v])):=je nu
 refine#[u,st,_,Z,jc,(B.mono (ae.tm s1)).bd,P0,λH1 k1=>#[_,_,Z,Z,i _ _ ?_]]
 clear i
 have S:=s1.trans k1
 rw[lc]
 refine ai λF1 i=>#[_,Z,js (S _ _ h0) Z #[v,g,st,ss,j.M,ys,Z,B.mono (ae.tm S),hN.same S,I.ok,P0,P0,λG zs H2 n2 N2 k2=>i _ _ ?_]]
 clear i
 have s3:=S.trans k2
 have N:G≠l:=λe=>by rw[e,S _ _ I.c.fd]at n2;cases n2
 refine ai λF1 i=>#[_,Z,iF,λe ne=>#[_,Z,bN,λU O=>#[bN,λx nx=>#[bN,λr nr=>i _ _ ?_]]]]
 clear i
 have s4:ae H2 (af (af (af (af H2 e (.tup [])) U (.tup [.str "go",.int (m - (a.length:Int) - (st.cuts:Int))])) x (.tup [.ref e,.ref U])) r (.tup [.ref G,.ref x])):=(((je ne).trans (je O)).trans (je nx)).trans (je nr)
 have P4:mv (af (af (af (af H2 e (.tup [])) U (.tup [.str "go",.int (m - (a.length:Int) - (st.cuts:Int))])) x (.tup [.ref e,.ref U])) r (.tup [.ref G,.ref x])) #[st.use j.M,#[[],.go (m - (a.length:Int) - (st.cuts:Int))]] (.ref r) G ys:=
  #[r,zs,.ref x,Z,jc,N2.same s4,jC (ao jc nr) (jl Z (jC (ao (ao (ao jc O) nx) nr) jA) (jl Z (jC (ao (ao jc nx) nr) (jl Z jQ (jl Z jT jA))) jA))]
 generalize af (af (af (af H2 e (.tup [])) U (.tup [.str "go",.int (m - (a.length:Int) - (st.cuts:Int))])) x (.tup [.ref e,.ref U])) r (.tup [.ref G,.ref x])=H4 at s4 P4
 have R:=s3.trans s4
 have c5:=I.c.same R
 refine ai λF1 i=>#[_,Z,z,L,_,Z,c5.ins,Z,_,Z,_,Z,_,Z,z,L,l,g,G,m,a,cs,j,_,v,.ref br,.ref r,ys,st,Z,#[c5,I.p.same R,I.ng,I.ok,I.sz],P4,N,Z,B.mono (ae.tm R),hd,λwv D H6 w6 c6 k6=>i _ _ ?_]
 clear i
 have t0:=c5.tm k6
 have p6:=P4.but k6 c5.fd N
 have z6:H6 G=some (.lst (zs.map V.str)):=k6 _ _ N (s4 _ _ N2.at')
 have ez:=N2.nm.canon
 have l6:=c6.len
 have lw:(gF m #[st.use j.M,#[[],.go (m - (a.length:Int) - (st.cuts:Int))]] j a st).2.length+1=a.length+st.cuts:=by
  have:=j8 m st j a
  rw[XX B hc m j a,Gi]at this
  exact this
 have cl:=kH st
 refine ai λF1 i=>#[_,Z,z,C,L,_,_,Z,c6.ins,y.cl,y.nf,Z,.inl #[Z,_,aH.of c6.fd],_,Z,G,_,Z,.inl #[aH.of z6,λnt n0=>?_]]
 have s7:ae H6 (af H6 nt (.tup (zs.map V.str))):=je n0
 refine#[_,Z,v,st,Z,((B.mono (ae.tm R)).mono t0).mono (ae.tm s7),λd H8 d8 k8=>#[_,Z,gn,λW J=>?_]]
 have X:=(s7.trans k8).trans (je (o:=.tup [.ref nt,d,wv]) J)
 have t:=c6.same X
 refine#[l,D,_,Z,Z,t.fd,P0,i _ _ ?_]
 clear i
 have T9:aM (af H8 W (.tup [.ref nt,d,wv])) (Cu #[st.use j.M,st.deed,(gF m #[st.use j.M,#[[],.go (m - (a.length:Int) - (st.cuts:Int))]] j a st).1]) (.ref W) []:=by
  refine jC jc (jl Z (jC (ao (k8 _ _ jc) J) ?_) (jl (Cy _) (d8.mono (ae.tm (je J))) (jl Z (w6.mono (ae.tm X)) jA)))
  rw[<- ez]
  exact Xm zs
 have p9:=p6.same X
 generalize af H8 W (.tup [.ref nt,d,wv])=H9 at X t T9 p9
 have k:aB l H9 (af H9 l (.lst (D++[.ref W]))):=λb o nb e=>by rw[ji nb];exact e
 have T:=t.tm k
 have n1:z≠l:=λe=>by have:=t.ins;rw[e,t.fd]at this;cases this
 refine#[_,Z,q (.ref r) G (D++[.ref W]) _ ?_ N ?_ (λb o nb e=>k b o nb (X _ _ (k6 b o nb (R _ _ e))))]
 ·rw[XX B hc m j a]
  exact p9.but k t.fd N
 ·rw[XX B hc m j a]
  refine#[k _ _ n1 t.ins,jc,?_]
  rw[GY]
  exact JJ (jl Z (T9.mono T) jA) (t.tr.mono T)
inductive BI(C u j t a:Addr)(m:Int)(c:List Ct)(x:Pc)(f:V)(z:List Str)(b:Bd)(y:List V)(H:Hp)(i:Nat)(A:_L.St)(e:Hp):Prop
 |mk(d s:Bd)(v:V)(g:Addr)(h:List V)(w:Option V)(k:A=[some (.ref u),some (.ref a),some f,some v,w])(l:b=d.app s)(n:dn H d (y.take (y.length - i)))(o:mv e (pB m s x c).1 v g z)(p:g≠t)(q:Cg e C u j t m (pB m s x c).2 h)(r:aB t H e)
theorem JK(m:Int):∀(b:Bd) (c:Pc) (F:List Ct),(pB m b c F).2.length+(pB m b c F).1.w.sets.length<=F.length+c.w.sets.length+b.size
 | .nil,_,_=>Gh _
 | .lf p l r,c,F=>by
  have e:=JK m r c F
  show(pL m p l (pB m r c F)).2.length+(pL m p l (pB m r c F)).1.w.sets.length<=F.length+c.w.sets.length+(r.size+1)
  cases l with
  |st x t T=>have:=Xn x t (pB m r c F).1;show(pB m r c F).2.length+(hV x t (pB m r c F).1).sets.length<=_;omega
  |gv t T=>show(pB m r c F).2.length+0<=_;omega
  |rd x t T |wr t u T U |cl x f a d=>show((pB m r c F).2++[_]).length+0<=_;rw[Gi];show _+1+0<=_;omega
 | .ite p t T x y r,c,F=>by
  have e:=JK m r c F
  have h:=kH x
  have H:=kH y
  show((pB m x _ (pB m y _ _).2).2++[_]).length+0<=F.length+c.w.sets.length+(x.size+y.size+r.size+1)
  rw[Gi,j8 m x,j8 m y]
  show _+1+0<=_
  omega
 | .loop p t T x r,c,F=>by
  have e:=JK m r c F
  have h:=kH x
  show((pB m x _ _).2++[_]).length+0<=F.length+c.w.sets.length+(x.size+r.size+1)
  rw[Gi,j8 m x]
  show _+1+0<=_
  omega
theorem EJ:aj z7z z7z (aa wL):=bK
theorem Db(F:aN K "place_of" "Cutting.place_of" wL f fd)(ck:CK K C)(GC:ah P w K mg base ay (4*n+33) fC D z7z (wY C n))(bC:au K D z7z [])(hC:a5 K C "place_of_cut" fC)(cG:Cl P w K mg base 8 fG f0 z1z fV "place_of_give")(cS:Cl P w K mg base 11 fS f1 z3z ik "place_of_set"):ah P w K mg base ay (4*n+34) f fd z7z (Bs C n):=by
 refine F.ok EJ ?_ λc0 A O s H vs Q E G h=>?_
 ·rintro _ _ _ _ ⟨r,J,fa,g,m,j,z,L,v,B,y,s,rfl,_⟩
  rfl
 obtain⟨r,J,fa,g,m,j,z,L,v,B,y,st,rfl,I,M,hd,q⟩:=h
 refine#[_,(jd (jv (j5 (jx (pv 1))) (jg (jo (cG.e G.m (ja (jx (pv 1)) jb)))) jp) (jd (jv (j5 (jx (pv 1))) (jg (jo (cS.e G.m (ja (pv 1) (ja (pv 2) jb))))) jp) (jg (jo (j4 (pv 0) ck.cl hC GC G.m bC .nil a6 (ja (pv 1) (ja (pv 2) jb))))))),?_]
 have hz:=I.sz
 have R:=M
 have i:st.isCut=true->gE (tX C "place_of_cut" (wY C n) [] E0 (a7 0) (am (a7 1) (am (a7 2) aO))) { nx:=λx k=>Q V.non k,rt:=Q } [some (.ref r),some v,some B] H:=λhc=>
  #[_,Z,r,J,_,Z,I.c.ins,Z,_,Z,_,Z,r,J,fa,g,m,j,z,L,v,B,y,st,Z,I,M,hd,hc,q]
 cases M with
 |lf p l vs d o=>
  cases l with
  |rd x t T |wr t u T U |cl x f q2 ts=>
   obtain⟨rfl,_⟩:=o
   refine(js d Z #[Z,_,Z,aS P6 ?_])
   refine(js d Z #[Z,_,Z,aS P6 ?_])
   exact i Z
  |gv t T=>
   obtain⟨rfl,hT⟩:=o
   refine(js d Z #[Z,_,Z,cn P6 ?_])
   clear i
   have Y:y.length<=21:=by obtain⟨_,_,_,_,_,hN,_⟩:=I.p;exact hN.y20
   exact(js d Z #[t,T,y,Z,hT,I.ok.1,Y,λW X k p' N S=>q W X z k p' (λe=>by rw[e,I.c.fd]at N;cases N) (I.c.same S) (aB.of_same S)])
  |st x t T=>
   obtain⟨rfl,hT⟩:=o
   refine(js d Z #[Z,_,Z,aS P6 ?_])
   refine(js d Z #[Z,_,Z,cn P6 ?_])
   clear i
   exact#[_,Z,_,Z,.ref p,B,p,t,x,T,L,g,y,Z,R,I.p,I.ok.1.1,I.ok.1.2,P0,λW X k p' N S=>q W X z k p' (λe=>by rw[e,I.c.fd]at N;cases N) (I.c.same S) (aB.of_same S)]
 |ite p t T a b qa qb as bs d h0 o h3 h4 h5 |loop p t T a qa as d h0 o h3=>
  refine(js d Z #[Z,_,Z,aS P6 ?_])
  refine(js d Z #[Z,_,Z,aS P6 ?_])
  exact i Z
theorem wR:aj ["self","body","behind","place","statement"] z12z (aa wH):=bK
theorem C7(F:aN K "place_of_body" "Cutting.place_of_body" wH f fd)(ck:CK K C)(GO:ah P w K mg base ay (4*n+34) fO T z7z (Bs C n))(bO:au K T z7z [])(hO:a5 K C "place_of" fO)(R:mg "reversed"=none):ah P w K mg base ay (4*n+35) f fd z12z (l9 C (n+1)):=by
 refine F.ok wR ?_ λc1 A U s H vs Q E hr h=>?_
 ·rintro _ _ _ _ ⟨r,J,V,a,g,m,d,cs,xs,l,L,Y,b,rfl,_⟩
  rfl
 obtain⟨r,J,V,a,g,m,d,cs,xs,l,L,Y,b,rfl,I,ha,hb,hd,q⟩:=h
 refine#[_,(jd (jy 3 wR.nd (pv 2)) (jd (kr He Z (@sf _ _ _ _ _ _ _ Z R NF (pv 1) PZ PZ P7 P7) (jw (i:=4) wR.nd Z (Or.inl Z)) (jg (jy 3 wR.nd (j4 (pv 0) ck.cl hO GO hr.m bO .nil a6 (ja (pv 4) (ja (pv 3) jb)))))) (jg (jo (pv 3))))),?_]
 have b0:=aE
 have hz:=I.sz
 have xl:=hb.len
 refine ai λF1 u=>#[_,Z,u _ _ ?_]
 clear u
 refine ai λF1 u=>?_
 refine eO λF kF=>#[_,Z,a,xs,Z,aw.of ha,kF _ _ ?_]
 clear kF
 refine Xj (K:=K) (xs:=xs) (BI C r J V a m d l L Y b xs H) #[b,.nil,L,g,cs,_,Z,(qL b).symm,by rw[My,Ho];exact hb,I.p,I.ng,I.c,aB.refl] (λi σ H' hi h=>?_) ?_ (λσ H' h=>u _ _ ?_)
 ·obtain⟨_,_,_,_,_,_,_,_,_,_,_,_,k⟩:=h
  exact aw.of (I.c.tm k _ _ ha)
 ·clear u
  intro E _ i x σ H2 M fE Gq t h
  obtain⟨pre,eU,v,W,o,o4,rfl,j,y,X,h4,N,O⟩:=h
  have hi:i < xs.length:=by
   rcases LW i xs.length with z |z
   ·exact z
   ·rw[HF (by simpa using z)]at M;cases M
  rw[Lh hi]at M
  have et:xs.take (xs.length - i)=xs.take (xs.length - (i+1))++[x]:=by
   have D:xs.length - i=(xs.length - 1 - i)+1:=by omega
   have e2:xs.length - (i+1)=xs.length - 1 - i:=by omega
   rw[D,e2,HV,M]
   rfl
  rw[et]at y
  rcases y.last with ⟨e,_⟩ | ⟨ws,v',B,S,D,e2,h6,h7⟩
  ·exact absurd e P5
  obtain⟨ew,ev⟩:=Od D Z
  cases ev
  subst e2
  have h0:=zB (j▸I.ok)
  have G:=zB h0.1
  have a1:b.dep=max (B.app S).dep eU.dep:=by rw[j,ze]
  have a2:(B.app S).dep=max B.dep S.dep:=ze ..
  have h8:S.dep<=b.dep:=by rw[a1,a2];exact Gr (LK ..) (Mc ..)
  clear a1 a2
  have h':b.size=B.size+S.size+eU.size:=by rw[j,jW,jW]
  have hl:=j8 m eU l d
  have a0:=kH eU
  have a3:=Y0 m eU l d
  have a4:(pB m eU l d).1.w.sets.length+(pB m eU l d).2.length+S.size<=10000000:=by have:=JK m eU l d;omega
  refine t ?_
  clear t
  have tm:=I.c.tm O
  show dO _ _ E [some (.ref r),some (.ref a),some L,some v,some x] H2
  refine#[_,Z,r,J,_,Z,N.ins,Z,_,Z,_,Z,r,J,V,W,m,_,o,_,x,v,Y,S,Z,#[N,X,h4,G.2,P0],h7.mono tm,P0,λv3 g3 c0 H3 p3 n3 c3 k3=>fE _ _ #[B,S.app eU,v3,g3,c0,_,Z,by rw[j,zF],?_,by rw[J9];exact p3,n3,by rw[J9];exact c3,O.trans k3]]
  rw[ew]
  exact h6
 ·obtain⟨pre,eU,v,W,o,o4,rfl,j,y,X,h4,N,O⟩:=h
  rw[LV]at y
  have ep:pre= .nil:=by
   rcases y.last with ⟨_,e⟩ | ⟨ws,v,B,S,D,_⟩
   ·exact e
   ·exact absurd D P5
  rw[ep]at j
  refine#[_,Z,q v W o H' ?_ h4 ?_ O]
  ·rw[j];exact X
  ·rw[j];exact N
theorem C1:ah P w K mg base ay k f i z12z (l9 C 0):=by
 have n:∀v H Q E,¬l9 C 0 v H Q E:=λv H Q E h=>by
  obtain⟨I,D,F,a,g,m,d,j,x,p,B,y,b,_,_,_,_,e,_⟩:=h
  exact absurd e (Lm _)
 exact#[λv H Q E h=>absurd h (n v H Q E),λA o s H c u v Q E _ _ _ _ h=>absurd h (n v H Q E)]
theorem Ft(c:CK K C)(FB:aN K "place_of_body" "Cutting.place_of_body" wH g f)(F:aN K "place_of" "Cutting.place_of" wL A a)(i:aN K "place_of_cut" "Cutting.place_of_cut" wI D b)(j:aN K "ways_of" "Cutting.ways_of" wO E d)
  (B:au K f z12z []) (H:a5 K C "place_of_body" g) (k:au K a z7z []) (l:a5 K C "place_of" A) (o:au K b z7z []) (p:a5 K C "place_of_cut" D) (q:au K d z20z []) (r:a5 K C "ways_of" E)
  (s:Cl P w K mg base 2 T G ["body"] gu "many_cuts") (t:Cl P w K mg base 31 U I z3z (fX 7) "used_ahead_of") (u:Cl P w K mg base 1 Y J z4z hZ "deed_of") (v:Cl P w K mg base 8 fG L z1z fV "place_of_give") (x:Cl P w K mg base 11 fS N z3z ik "place_of_set") (y:mg "len"=none) (m:mg "tuple"=none) (M:mg "reversed"=none):
  ∀n:Nat,n<=8->ah P w K mg base ay (4*n+31) g f z12z (l9 C n)
 |0,_=>C1
 |n+1,h=>by
  have O:=Ft c FB F i j B H k l o p q r s t u v x y m M n P0
  have Q:=De j c O B H
  have R:=C8 i c P0 Q q r s t u y m
  have S:=Db F c R o p v x
  have z:=C7 FB c S k l M
  have e:4*n+35=4*(n+1)+31:=by omega
  rw[e]at z
  exact z
theorem Y1{X:Cx}{K:Frag}{n:Nat}(a:X.K=K)(b:X.calm=true)(h:BO X e t)
  (c:(assignEach e X.env).length=n) (H:(assignEach e X.env).findIdx? (·.1)=none):PG X (.Tuple e k p) (oC K n t):=by
 subst a
 exact zV b h c H
abbrev g3(K:Frag)(i j k:Nat):TG:=oC K 3 (dh (bu i) (dh (bu j) (dh (bu k) pN)))
theorem EC{t:_L.St}(h:t.length=3):∃a b c,t=[a,b,c]:=by
 cases t with
 |nil=>cases h
 |cons a r=>
  cases r with
  |nil=>cases h
  |cons b R=>
   cases R with
   |nil=>cases h
   |cons c d=>
    cases d with
    |nil=>exact#[a,b,c,Z]
    |cons _ _=>cases h
noncomputable abbrev sL:Stmt:=bL 57
noncomputable abbrev nQ:Stmt:=bL 58
structure Df where
 f:Str
 p:Addr
 pa:Addr
 pb:Addr
 b:Bd
def xE(H:Hp)(d:Df)(v:V):Prop:=∃B,v= .ref d.p/\H d.p=some (.tup [.str d.f,.ref d.pa,.ref d.pb])/\H d.pb=some (.tup B)/\dn H d.b B
def cg(H:Hp):List Df->List V->Prop
 | [],a=>a=[]
 |d::D,a=>∃v r,a=v::r/\xE H d v/\cg H D r
theorem xE.mono(k:al H a)(h:xE H d v):xE a d v:=by
 obtain⟨b,e,c,f,g⟩:=h
 exact#[b,e,k _ _ c,k _ _ f,g.mono k]
theorem cg.mono(k:al H b):∀{a:List V},cg H D a->cg b D a:=by
 induction D with
 |nil=>exactλh=>h
 |cons d D i=>rintro a ⟨v,r,e,c,f⟩;exact#[v,r,e,c.mono k,i f]
theorem cg.snoc{d:Df}(a:xE H d v):∀{D:List Df} {b:List V},cg H D b->cg H (D++[d]) (b++[v])
 | [],_,h=>by have e:_=[]:=h;rw[e];exact#[v,[],Z,a,Z]
 |_::_,_,z=>by obtain⟨u,r,e,c,f⟩:=z;exact #[u,r++[v],by rw[e];rfl,c,cg.snoc a f]
theorem cg.len:∀{d:List Df} {v:List V},cg H d v->v.length=d.length
 | [],_,h=>by have e:_=[]:=h;rw[e];rfl
 |_::_,_,z=>by obtain⟨u,r,e,b,a⟩:=z;rw[e,GX,GX,cg.len a]
theorem cg.at:∀{D:List Df} {b:List V},cg H D b->∀(i:Nat) (v:V),b[i]?=some v->∃d,D[i]?=some d/\xE H d v
 | [],_,h,i,v,a=>by have e:_=[]:=h;rw[e]at a;simp at a
 |d::_,_,q,0,v,a=>by obtain⟨u,r,e,c,f⟩:=q;rw[e]at a;cases a;exact#[d,Z,c]
 |_::D,_,q,i+1,v,a=>by obtain⟨u,r,e,c,f⟩:=q;rw[e]at a;simpa using cg.at f i v (by simpa using a)
def my(d:Df):Prop:=(∃y:List Str,y.length<=20/\d.b.Ok y)/\d.b.dep < 8/\d.b.size<=3000
noncomputable def EE(n:Addr):Pc:=#[λx=>x∈(Tm.num 0).vars,#[[],.give n]]
noncomputable def gI(n:Addr)(d:Df):Pc×List Ct:=pB (d.b.cuts:Int) d.b (EE n) []
noncomputable def eI(n:Addr)(d:Df):Tr:=aG [ba d.f,oG d.pa,gM (gI n d).1.w,aG ((gI n d).2.reverse.map Cu)]
def mG(K:Frag)(n:Addr):Prop:=∀H:Hp,aw K H n [.str "num",.int 0]
inductive n9(C:Addr)(f:List V)(H:Hp)(Q:VK)(c:XK):Prop
 |mk(e d a:Addr)(b:Bd)(g:List V)(_:f=[.ref e,.ref a])(_:H e=some (.ins C d []))(_:H a=some (.tup g))(_:dn H b g)(_:b.size<=10000000)(_:∀(fa:Addr) (H':Hp),H fa=none->Cg H' C e d fa (b.cuts:Int) [] []->aB e H H'->Q .non H')
inductive lB(K:Frag)(c:Addr)(e:List V)(H:Hp)(Q:VK)(a:XK):Prop
 |mk(d:Df)(b:List V)(_:e=[.str d.f,.ref d.pa,.ref d.pb])(_:H d.pb=some (.tup b))(_:dn H d.b b)(_:my d)(_:∀(v:V) (H':Hp),aM H' (eI c d) v []->ae H H'->Q v H')
inductive lv(K:Frag)(e:Addr)(f:List V)(H:Hp)(Q:VK)(b:XK):Prop
 |mk(a:Addr)(c:List Df)(g:List V)(_:f=[.ref a])(_:H a=some (.tup g))(_:cg H c g)(_:c.length<=1000)(_:∀d∈c,my d)(_:∀(v:V) (H':Hp),aM H' (aG (c.map (eI e))) v []->ae H H'->Q v H')
theorem ZU{K:Frag}{t:TE}{Q:List V->Hp->Prop}{H:Hp}(x:H a=some (.tup g))(u:cg H D g)(R:D.length<=1000)
  (Pv:Nat->List V->Hp->Prop) (z:Pv 0 [] H) (A:∀i Y h,Pv i Y h->ae H h/\Y.length<=i)
  (C:∀i d B Y h,D[i]?=some d->h d.pb=some (.tup B)->dn h d.b B->Pv i Y h->t (some (.str d.f)::some (.ref d.pa)::some (.ref d.pb)::l) h λy j=>Pv (i+1) (Y++[y]) j)
  (E:∀Y h,Pv D.length Y h->Q Y h):eE (uO K a) 3 l (g3 K 0 1 2) lD t Q H:=by
 have F:=aE
 have S:=u.len
 refine#[λi m Y h=>m=D.length - i/\i<=D.length/\Pv i Y h,#[D.length,P5,Gp _,z],?_]
 intro i m Y h c
 obtain⟨rfl,T,p⟩:=c
 obtain⟨s,U⟩:=A i Y h p
 have c:aw K h a g:=aw.of (s _ _ x)
 by_cases n:i < D.length
 ·have I:i < g.length:=by omega
  refine .inr #[#[g,g[i],c,Gc I],P0,Pv (i+1),λJ j L=>#[D.length - (i+1),P0,Z,n,L],λv j W o y=>?_]
  obtain⟨e,y⟩:=y
  subst e
  have q:=y g c
  obtain⟨d,r,B,rfl,M,N,O⟩:=(u.mono (ae.tm s)).at i v q
  obtain⟨X,t2,t3,rfl⟩:=EC o
  refine#[d.p,_,Z,aw.of M,Z,_,_,Z,_,_,Z,_,_,Z,Z,#[[some _,some _,some _],Z,Z],?_]
  exact C i d B Y j r N O p
 ·have e:i=D.length:=by omega
  subst e
  exact .inl #[#[g,c,P0],E Y h p]
theorem DB:aj ["self","body"] ["self","body"] (aa sI):=bK
theorem Ao(F:aN K "__init__" "Cutting.__init__" sI f t)(d:CK K C)(u:Cl P w K mg base 2 M v ["body"] gu "many_cuts"):ah P w K mg base ay 3 f t ["self","body"] (n9 C):=by
 refine F.ok DB ?_ λy A O s H V Q E B h=>?_
 ·rintro _ _ _ _ ⟨i,D,a,b,x,rfl,_⟩
  rfl
 obtain⟨i,D,a,b,x,rfl,G,I,J,L,q⟩:=h
 refine#[_,(jd (@zW _ _ _ _ _ _ _ _ (pv 0) (u.e B.m (ja (pv 1) jb)) Z) (jg (@zW _ _ _ _ _ _ _ _ (pv 0) (jF jb) Z))),?_]
 refine ai λS l=>#[_,Z,a,b,x,Z,I,J,L,λT k=>#[_,Z,i,C,D,_,Z,k _ _ G,d.cl,d.nm,PZ,l _ _ ?_]]
 clear l
 refine#[iF,λg n=>#[_,Z,i,C,D,_,Z,ao jc n,d.cl,d.nf,(by show 1 < 1000;decide),?_]]
 have N:g≠i:=λe=>by rw[e,jc]at n;cases n
 have p:H g=none:=by
  cases e:H g with
  |none=>rfl
  |some o=>rw[ji N,k _ _ e]at n;cases n
 refine q g _ p #[jc,by rw[ji N,jc],Z] λc o r e=>?_
 rw[ji r,ji (λz=>by rw[z,p]at e;cases e),ji r]
 exact k _ _ e
theorem nh:aj ["name","params","body","cutting","first"] z18z (aa sL):=bK
theorem v0(F:aN K "part_made" "part_made" sL f fd)(t:CK K C)(mk:Mk K C fI)(GI:ah P w K mg base ay 3 fI u ["self","body"] (n9 C))(bI:au K u ["self","body"] [])(mC:mg "Cutting"=some (.ref C))(M:mg "NOUGHT"=some (.ref n))(no:mG K n)(GB:ah P w K mg base ay 63 fB x z12z (l9 C 8))(bB:au K x z12z [])(hB:a5 K C "place_of_body" fB)(cG:Cl P w K mg base 8 fG f0 z1z (og K) "place_of_give")(y:mg "tuple"=none)(z:mg "reversed"=none):ah P w K mg base ay 64 f fd z18z (lB K n):=by
 refine F.ok nh ?_ λc0 A O s H vs Q E B h=>?_
 ·rintro _ _ _ _ ⟨d,G,rfl,_⟩
  rfl
 obtain⟨d,G,rfl,hb,a,I,q⟩:=h
 refine#[_,(jd (jy 3 nh.nd (QN mk GI B.m Z mC bI .nil a6 (ja (pv 2) jb))) (jd (jy 4 nh.nd (j4 (pv 3) t.cl hB GB B.m bB .nil a6 (ja (pv 2) (ja (cG.e B.m (ja (qF (v:=.ref n) Z M Z) jb)) jb)))) (jg (jo (jh (ja (pv 0) (ja (pv 1) (ja (jx (pv 4)) (ja (@ZM _ _ _ _ _ _ _ _ _ Z Z y Ib Z z NF (kM (pv 3) Z) PZ PZ PZ PZ P7 P7 P7 P7) jb))))))))),?_]
 have b0:=aE
 obtain⟨⟨ys,y0,ok⟩,J,hz⟩:=I
 refine ai λF1 j=>#[_,Z,λi D N L n0=>?_]
 have S:ae H (af (af H D (.own i)) i (.ins C D [])):=λc o e=>by rw[ji (jk e N),ji (jk e L)];exact e
 refine#[i,D,d.pb,d.b,G,Z,jc,S _ _ hb,a.mono (ae.tm S),P0,λp H1 nf R k1=>#[Z,j _ _ ?_]]
 clear j
 have s1:ae H H1:=λc o e=>k1 c o (jk e N) (S _ _ e)
 have T:H p=none:=S.free nf
 refine ai λF1 j=>#[_,Z,i,D,_,Z,R.ins,Z,_,Z,n,ys,Z,no _,P0,λv g H2 p2 n2 k2=>?_]
 have ng:g≠p:=λe=>by rw[e,R.fd]at n2;cases n2
 have U:=s1.trans k2
 refine#[i,D,p,d.pb,g,_,[],[],G,EE n,v,ys,d.b,Z,#[R.same k2,p2,ng,ok,by show 0+0+d.b.size<=_;omega],U _ _ hb,a.mono (ae.tm U),J,λv3 g3 k V p3 n3 W k3=>j _ _ ?_]
 clear j
 obtain⟨r3,w3,rfl,X,Y⟩:=ut p3
 have s3:ae H V:=λc o e=>k3 c o (jk e T) (U _ _ e)
 refine#[_,Z,_,Z,js X Z #[_,Z,i,C,D,_,_,Z,W.ins,t.cl,t.nf,Z,p,k,Z,aH.of W.fd,λl nl=>#[oK,λr nr=>?_]]]
 have s5:ae V (af (af V l (.tup k.reverse)) r (.tup [.str d.f,.ref d.pa,w3,.ref l])):=(je nl).trans (je nr)
 refine q (.ref r) _ ?_ (s3.trans s5)
 refine jC jc (jl Z jQ (jl Z Jb (jl Z (Y.mono (ae.tm s5)) (jl Z (jC (ao jc nr) ?_) jA))))
 have e:=YZ (W.tr.mono (ae.tm s5))
 rw[<- List.map_reverse]at e
 exact e
theorem Bk:aj ["program"] ["program"] (aa nQ):=bK
noncomputable def tG:Scope:=#[.function,[(".0",.local),("name",.local),("params",.local),("body",.local),("part_made",.globalImplicit)],false,false,[]]
theorem rj:(z18z:List Str).Nodup:=by decide+kernel
theorem Cq:bG ["program"] (aa nQ) tG z18z 3 []:=oY
theorem vX(F:aN K "made" "made" nQ f p)(C:Cl P w K mg base 64 U t z18z (lB K N) "part_made")(M:mg "tuple"=none):ah P w K mg base ay 65 f p ["program"] (lv K N):=by
 refine F.ok Bk ?_ λu A o s H V Q E x h=>?_
 ·rintro _ _ _ _ ⟨a,D,X,rfl,_⟩
  rfl
 obtain⟨a,D,X,rfl,g,y,B,O,q⟩:=h
 refine#[_,(jg (jo (jD jI Z M Ib (ja (@zd _ _ _ _ _ _ _ (z18z) (3) ([]) _ _ _ _ Z (zI (pv 0)) Cq (λ_ _ _ _ _=>(Y1 (K:=K) (n:=3) Z Z (jB (jw (i:=0) rj Z (Or.inl Z)) (jB (jw (i:=1) rj Z (Or.inl Z)) (jB (jw (i:=2) rj Z (Or.inl Z)) kN))) Z Z)) (λ_ _ _ _ _=>(@zA _)) (λ_ _ _ _ _=>(C.e x.m (ja (pv 0) (ja (pv 1) (ja (pv 2) jb))))) (by intro _;rfl)) jb)))),?_]
 refine#[_,Z,a,Z,#[_,aw.of g],?_]
 refine ZU g y B (λi V b=>aM b (aI ((D.take i).map (eI N))) .non V/\ae H b/\i<=D.length) #[Z,ae.refl _,Gp _] (λi V b h=>#[h.2.1,?_]) (λi d G V b c I J h=>?_) (λV b h l L=>?_)
 ·rw[kW h.1,Gg,GV]
  exact MT ..
 ·have R:i < D.length:=by
   rcases LW i D.length with z |z
   ·exact z
   ·rw[HF z]at c;cases c
  refine#[_,Z,_,Z,_,Z,d,G,Z,I,J,O d (GP c),λv Y T j=>#[?_,h.2.1.trans j,R]]
  rw[HV,c,GY]
  exact JJ (jl Z T jA) (h.1.mono (ae.tm j))
 ·refine#[l,V,Z,.inl #[aH.of jc,λr S=>?_]]
  have s:ae b (af (af b l (.lst V)) r (.tup V)):=(je L).trans (je S)
  refine q (.ref r) _ (jC jc ?_) (h.2.1.trans s)
  have e:=h.1
  rw[Ho]at e
  exact e.mono (ae.tm s)
noncomputable abbrev sN:Stmt:=bL 65
noncomputable abbrev sO:Stmt:=bL 66
noncomputable abbrev nO:Stmt:=bL 67
def aL(p q:Addr)(H h:Hp):Prop:=∀b o,b≠p->b≠q->H b=some o->h b=some o
theorem aL.refl:aL p q H H:=λ_ _ _ _ h=>h
theorem aL.trans(a:aL p q H d)(b:aL p q d e):aL p q H e:=λc o n m h=>b c o n m (a c o n m h)
theorem aB.two(a:aB p H b):aL p q H b:=λc o n _ h=>a c o n h
theorem aL.of_same(a:ae H b):aL p q H b:=λc o _ _ h=>a c o h
theorem aL.at:aL p q H (af H q o):=λb u _ m e=>by rw[ji m];exact e
def dm(H:Hp)(q:Addr):Prop:=∃k:Int,H q=some (.lst [.int k])
theorem dm.new{o:HO}(h:dm H q)(n:H r=none):dm (af H r o) q:=let #[k,e]:=h;#[k,ao e n]
theorem dm.ne(h:dm H q)(B:aq H p):q≠p:=by
 obtain⟨k,e⟩:=h
 obtain⟨a,b,_,_,_,d⟩:=B.ob
 exact jP e d (by intro z;cases z)
theorem dm.but(h:dm H q)(B:aq H p)(k:aB p H a):dm a q:=by
 have n:=h.ne B
 obtain⟨z,e⟩:=h
 exact#[z,k _ _ n e]
theorem aL.tm(k:aL p q H h)(B:aq H p)(s:dm H q):al H h:=λb x e=>by
 obtain⟨a,c,_,_,_,f⟩:=B.ob
 obtain⟨z,g⟩:=s
 exact k b _ (jP e f (by intro w;cases w)) (jP e g (by intro w;cases w)) e
noncomputable def gm(H:Hp)(q:Addr):Int:=match H q with
 |some (.lst [.int k])=>k
 |_=>0
theorem Jc{H:Hp}(e:H q=some (.lst [.int k])):gm H q=k:=by unfold gm;rw[e]
theorem XY{h:Hp}(s:dm H q)(k:∀o,H q=some o->h q=some o):gm h q=gm H q:=by
 obtain⟨z,e⟩:=s
 rw[Jc e,Jc (k _ e)]
theorem kl(B:aq H p)(s:dm H q)(k:aB p H h):gm h q=gm H q:=XY s λo e=>k _ _ (s.ne B) e
theorem ke(s:dm H q)(k:ae H h):gm h q=gm H q:=XY s λo e=>k _ _ e
def D1(H:Hp)(c:Str×List Str)(v:V):Prop:=∃p t,v= .ref p/\H p=some (.tup [.str c.1,.ref t])/\H t=some (.tup (c.2.map V.str))
def dy(H:Hp):List (Str×List Str)->List V->Prop
 | [],a=>a=[]
 |c::C,a=>∃v r,a=v::r/\D1 H c v/\dy H C r
theorem dy.mono(k:al H b):∀{c:List (Str×List Str)} {a:List V},dy H c a->dy b c a
 | [],_,h=>h
 |_::_,_,z=>by obtain⟨v,r,e,⟨p,t,E,d,f⟩,g⟩:=z;exact #[v,r,e,#[p,t,E,k _ _ d,k _ _ f],dy.mono k g]
theorem dy.snoc(a:D1 H c v):∀{C:List (Str×List Str)} {b:List V},dy H C b->dy H (C++[c]) (b++[v])
 | [],_,h=>by have e:_=[]:=h;rw[e];exact#[v,[],Z,a,Z]
 |_::_,_,z=>by obtain⟨u,r,e,d,f⟩:=z;exact #[u,r++[v],by rw[e];rfl,d,dy.snoc a f]
theorem dy.len:∀{c:List (Str×List Str)} {v:List V},dy H c v->v.length=c.length
 | [],_,h=>by have e:_=[]:=h;rw[e];rfl
 |_::_,_,z=>by obtain⟨u,r,e,b,a⟩:=z;rw[e,GX,GX,dy.len a]
theorem dy.at:∀{C:List (Str×List Str)} {b:List V},dy H C b->∀(i:Nat) (v:V),b[i]?=some v->∃c,C[i]?=some c/\D1 H c v
 | [],_,h,i,v,a=>by have e:_=[]:=h;rw[e]at a;simp at a
 |c::_,_,q,0,v,a=>by obtain⟨u,r,e,d,f⟩:=q;rw[e]at a;cases a;exact#[c,Z,d]
 |_::C,_,q,i+1,v,a=>by obtain⟨u,r,e,d,f⟩:=q;rw[e]at a;simpa using dy.at f i v (by simpa using a)
theorem AX(h:dy H C a)(i:0<=k)(j:k < (a.length:Int)):∃v c,dA a k=some v/\c∈C/\D1 H c v:=by
 have b:k.toNat < a.length:=by omega
 have d:k=((k.toNat:Nat):Int):=by omega
 have E:a[k.toNat]?=some a[k.toNat]:=Gc b
 have e:dA a ((k.toNat:Nat):Int)=some a[k.toNat]:=jH E
 rw[<- d]at e
 obtain⟨c,f,g⟩:=h.at _ _ E
 exact#[_,c,e,GP f,g]
def Bd.fit(h:List (Str×List Str))(y:List Str)(d:Nat)(b:Bd):Prop:=(b.Ok y/\b.Cs (h.map λc=>(c.1,c.2.length)))/\b.dep<=d
theorem Y2:Bd.fit h y d .nil:=#[#[trivial,trivial],Gp _]
theorem yN{H:List (Str×List Str)}{l:Lf}(h:l.Ok y)(k:l.Cs (H.map λc=>(c.1,c.2.length))):Bd.fit H y d (.lf p l .nil):=#[#[#[h,trivial],k,trivial],Gp _]
theorem Y3{a b:Bd}(h:a.fit H y d)(k:b.fit H y d):(a.app b).fit H y d:=#[#[J8 h.1.1 k.1.1,J7 h.1.2 k.1.2],by rw[ze];have:=h.2;have:=k.2;omega]
theorem vm{a b:Bd}(c:df y T)(h:a.fit H y d)(k:b.fit H y d):Bd.fit H y (d+1) (.ite p t T a b .nil):=#[#[#[c,h.1.1,k.1.1,trivial],h.1.2,k.1.2,trivial],by show max (max a.dep b.dep+1) 0<=d+1;have:=h.2;have:=k.2;omega]
theorem pI{a:Bd}(H:df y T)(h:a.fit b y d):Bd.fit b y (d+1) (.loop p t T a .nil):=#[#[#[H,h.1.1,trivial],h.1.2,trivial],by show max (a.dep+1) 0<=d+1;have:=h.2;omega]
noncomputable def Fv:Nat->Nat
 |0=>1
 |d+1=>1+2*(5*Fv d)
inductive io(b:List V)(H:Hp)(Q:VK)(a:XK):Prop
 |mk(p g:Addr)(c:List Str)(_:b=[.ref p,.ref g])(_:aq H p)(_:H g=some (.lst (c.map V.str)))(_:1<=c.length)(_:c.length<=20)(_:∀(r:Addr) (T:Tm) (H':Hp),bj H' T r->df c T->aq H' p->aB p H H'->Q (.ref r) H')
structure ms(H:Hp)(p g h sp:Addr)(ys:List Str)(hs:List (Str×List Str)):Prop where
 B:aq H p
 g:H g=some (.lst (ys.map V.str))
 y1:1<=ys.length
 y2:ys.length<=20
 h:∃hv,H h=some (.lst hv)/\dy H hs hv
 h1:1<=hs.length
 h2:hs.length<=20
 h3:∀c∈hs,c.2.length<=6
 s:dm H sp
theorem ms.gsp{H:Hp}{p g h S:Addr}{y:List Str}{b:List (Str×List Str)}(G:ms H p g h S y b):g≠S:=by
 obtain⟨k,e⟩:=G.s
 refine jP G.g e λz=>?_
 injection z with z
 have c:=G.y1
 match y,c,z with
 |a::r,_,z=>injection z with d _;cases d
theorem ms.hsp{H:Hp}{p g h S:Addr}{y:List Str}{f:List (Str×List Str)}(G:ms H p g h S y f):h≠S/\h≠p:=by
 obtain⟨k,e⟩:=G.s
 obtain⟨j,E,l⟩:=G.h
 obtain⟨a,b,_,_,_,m⟩:=G.B.ob
 have n:=G.h1
 have:∃q r,j= .ref q::r:=by
  match f,n,l with
  |c::C,_,#[v,r,e,#[q,t,o,_],_]=>exact#[q,r,by rw[e,o]]
 obtain⟨q,r,rfl⟩:=this
 refine#[jP E e λz=>?_,jP E m λz=>?_]
 ·injection z with z
  injection z with d _
  cases d
 ·injection z with z
  injection z with d _
  cases d
theorem ms.but2{H a:Hp}{p g h S:Addr}{y:List Str}{b:List (Str×List Str)}(G:ms H p g h S y b)(B:aq a p)(s:dm a S)(k:aL p S H a):ms a p g h S y b:=by
 obtain⟨c,e,E⟩:=G.h
 exact#[B,k _ _ (zY G.B G.g) G.gsp G.g,G.y1,G.y2,#[c,k _ _ G.hsp.2 G.hsp.1 e,E.mono (k.tm G.B G.s)],G.h1,G.h2,G.h3,s]
theorem ms.but{H a:Hp}{p g h S:Addr}{y:List Str}{b:List (Str×List Str)}(G:ms H p g h S y b)(B:aq a p)(k:aB p H a):ms a p g h S y b:=G.but2 B (G.s.but G.B k) k.two
inductive iN(n:Nat)(f:List V)(H:Hp)(Q:VK)(a:XK):Prop
 |mk(p g h e:Addr)(d:Nat)(i:List Str)(c:List (Str×List Str))(_:f=[.ref p,.ref g,.ref h,.ref e,.int (d:Int)])(_:ms H p g h e i c)(_:d < n)(_:0 < gm H e)(_:∀(r:Addr) (b:Bd) (H':Hp),dn H' b [.ref r]->(b.size:Int)+gm H' e<=gm H e->0<=gm H' e->b.fit c i d->aq H' p->dm H' e->aL p e H H'->Q (.ref r) H')
inductive gr(n:Nat)(f:List V)(H:Hp)(Q:VK)(a:XK):Prop
 |mk(p g h e:Addr)(d:Nat)(i:List Str)(c:List (Str×List Str))(_:f=[.ref p,.ref g,.ref h,.ref e,.int (d:Int)])(_:ms H p g h e i c)(_:d < n)(_:0<=gm H e)(_:∀(r:Addr) (b:Bd) (bs:List V) (H':Hp),H' r=some (.tup bs)->dn H' b bs->(b.size:Int)+gm H' e<=gm H e->0<=gm H' e->b.fit c i d->aq H' p->dm H' e->aL p e H H'->Q (.ref r) H')
theorem tw:aj ["_law_box_here","_law_names_here","_law_kind"] z25z (aa sN):=bK
theorem wb(F:aN K "_law_spot" "_law_spot" sN f M)(C:Cl P w K mg base 1 Y N z0z aZ "_law_take")(O:Cl P w K mg base 6 fM R z11z (cp 4) "_law_term"):ah P w K mg base ay 7 f M z25z io:=by
 refine F.ok tw ?_ λS A o s H vs Q E a h=>?_
 ·rintro _ _ _ _ ⟨p,g,y,rfl,_⟩
  rfl
 obtain⟨p,g,y,rfl,B,I,i,j,q⟩:=h
 refine#[_,(jd (jy 2 tw.nd (C.e a.m (ja (pv 0) (ja jf jb)))) (jd (jv (jz K0 (pv 2) jf (aD _)) (jg (jo (O.e a (ja (pv 0) (ja (pv 1) (ja jf jb)))))) jp) (jd (jv (za (pv 2)) (jg (jo (jh (ja jm (ja (ju kP (ju kP (ju J4 jf jf) jf) (C.e a.m (ja (pv 0) (ja jf jb)))) jb))))) jp) (jg (jo (jh (ja jm (ja (C.e a.m (ja (pv 0) (ja jf jb))) jb)))))))),?_]
 have k:g≠p:=zY B I
 refine#[_,Z,p,8,Z,B,PZ,PZ,λkd J k0 k1 l L=>?_]
 have t:J g=some (.lst (y.map V.str)):=by rw[L g k];exact I
 have u:aB p H J:=aB.of_eq L
 refine#[_,Z,_,_,Z,Z,_,Z,?_]
 refine bP (λc=>?_) (λc=>?_)
 ·exact#[_,Z,_,Z,p,g,1,y,Z,l,t,i,j,PZ,PZ,λr T v U dT W b X=>q r T v U #[W,P0] b (u.trans X)]
 refine#[_,Z,Z,_,Z,?_]
 refine bP (λc=>?_) (λc=>?_)
 ·refine#[_,_,Z,Z,#[PZ,PZ,PZ],_,_,Z,Z,_,Z,p,4,Z,l,PZ,PZ,λD v d x b z=>#[_,_,Z,Z,bN,λr n=>?_]]
  exact q r (.num (1000000000000000000 - 1 - D)) _ jc #[#[P0,P0],(by show 0 < 6;decide)] (b.upd_new n) ((u.trans (aB.of_eq z)).upd_new n)
 ·refine#[_,Z,p,12,Z,l,PZ,PZ,λD v d x b z=>#[bN,λr n=>?_]]
  exact q r (.num D) _ jc #[#[d,P0],(by show 0 < 6;decide)] (b.upd_new n) ((u.trans (aB.of_eq z)).upd_new n)
theorem iM:aj z37z z5z (aa sO):=bK
noncomputable def ZV:Scope:=#[.function,[(".0",.local),("_law_one",.local),("_law_term",.globalImplicit),("_law_box_here",.free),("_law_names_here",.free)],false,false,[]]
theorem Ab:(z32z:List Str).Nodup:=by decide+kernel
theorem yG:bG z37z (aa sO) ZV z32z 1 [0,1]:=oY
def RH(p g h s:Addr)(d:Nat)(k:Int)(y:Str)(H:Hp)(a:_L.St)(b:Hp):Prop:=a=[some (.ref p),some (.ref g),some (.ref h),some (.ref s),some (.int (d:Int)),some (.int k),some (.str y),none,none,none]/\b=H
theorem Aw(F:aN K "_law_statement" "_law_statement" sO f fd)(cT:Cl P w K mg base 1 fT f0 z0z aZ "_law_take")(cM:Cl P w K mg base 6 fM f3 z11z (cp 4) "_law_term")(cP:Cl P w K mg base 7 fP f4 z25z io "_law_spot"){L:Nat}(cB:Cl P w K mg base (L+9) fB f5 z5z (gr n) "_law_body")(ml:mg "len"=none)(m0:mg "tuple"=none):ah P w K mg base ay (L+10) f fd z5z (iN (n+1)):=by
 refine F.ok iM ?_ λc3 A o2 s H vs Q E U h=>?_
 ·rintro _ _ _ _ ⟨p,g,h,S,d,ys,hs,rfl,_⟩
  rfl
 obtain⟨p,g,h,S,d,ys,hs,rfl,G0,hd,b7,q⟩:=h
 refine#[_,(jd (jy 5 iM.nd (cT.e U.m (ja (pv 0) (ja jf jb)))) (jd (jy 6 iM.nd (jr jq (pv 1) (cT.e U.m (ja (pv 0) (ja (jN jK Z ml HJ (ja (pv 1) jb)) jb))) (λ_ _=>Z))) (jd (zb (ju kP (jr jq (pv 3) jf (λ_ _=>Z)) jf) (qq (pv 3) jf zn)) (jd (jv (jz K0 (pv 5) jf (aD _)) (jg (jo (jh (ja jm (ja (pv 6) (ja (cP.e U.m (ja (pv 0) (ja (pv 1) jb))) jb)))))) jp) (jd (jv (PW.pt (Jm (za (pv 5)) (q9 (za (pv 5))))) (jg (jo (jh (ja jm (ja (cP.e U.m (ja (pv 0) (ja (pv 1) jb))) (ja (cM.e U.m (ja (pv 0) (ja (pv 1) (ja jf jb)))) jb)))))) jp) (jd (jv (PW.pt (Jm (za (pv 5)) (q9 (za (pv 5))))) (jd (zb (jr jq (pv 2) (cT.e U.m (ja (pv 0) (ja (jN jK Z ml HJ (ja (pv 2) jb)) jb))) (λ_ _=>Z)) (zV (n:=2) Z (jB (jw (i:=7) iM.nd Z (Or.inl Z)) (jB (jw (i:=8) iM.nd Z (Or.inl Z)) kN)))) (jg (jo (jh (ja jm (ja (pv 6) (ja (pv 7) (ja (jD jI Z m0 Ib (ja (@zd _ _ _ _ _ _ _ (z32z) (1) ([0,1]) _ _ _ _ Z (zI (pv 8)) yG (λ_ _ _ _ _=>(jw (i:=0) Ab Z (Or.inl Z))) (λ_ _ _ _ _=>(@zA _)) (λ_ _ _ _ _=>(cM.e U.m (ja (pv 1) (ja (pv 2) (ja jf jb))))) (by intro _;rfl)) jb)) jb)))))))) jp) (jd (j3 (jv (PW.pt (J3 (za (pv 5)) (qG (jz Jn (pv 4) jf (aD _))))) (jd (jy 9 iM.nd (cB.e U (ja (pv 0) (ja (pv 1) (ja (pv 2) (ja (pv 3) (ja (ju kP (pv 4) jf) jb))))))) (jg (jo (jh (ja jm (ja (cM.e U.m (ja (pv 0) (ja (pv 1) (ja jf jb)))) (ja (pv 9) (ja (cB.e U (ja (pv 0) (ja (pv 1) (ja (pv 2) (ja (pv 3) (ja (ju kP (pv 4) jf) jb)))))) jb)))))))) jp)) (jd (j3 (jv (PW.pt (J3 (za (pv 5)) (qG (jz Jn (pv 4) jf (aD _))))) (jg (jo (jh (ja jm (ja (cM.e U.m (ja (pv 0) (ja (pv 1) (ja jf jb)))) (ja (cB.e U (ja (pv 0) (ja (pv 1) (ja (pv 2) (ja (pv 3) (ja (ju kP (pv 4) jf) jb)))))) jb)))))) jp)) (jd (jv (za (pv 5)) (jg (jo (jh (ja jm (ja (cM.e U.m (ja (pv 0) (ja (pv 1) (ja jf jb)))) jb))))) jp) (jg (jo (jh (ja jm (ja (pv 6) (ja (cM.e U.m (ja (pv 0) (ja (pv 1) (ja jf jb)))) jb))))))))))))))),?_]
 have b8:=aE
 have B:=G0.B
 have b9:g≠p:=zY B G0.g
 refine ai λF1 u=>#[_,Z,p,10,Z,B,PZ,PZ,λkd H1 k0 k1 B1 e1=>u _ _ ?_]
 clear u
 have G1:=G0.but B1 (aB.of_eq e1)
 have y1:=G0.y1
 have y2:=G0.y2
 refine ai λF1 u=>#[_,Z,_,Z,_,Z,g,_,Z,.inl (aH.of G1.g),p,_,Z,B1,by rw[Gg];omega,by rw[Gg];omega,λd2 H2 d1 d0 B2 e2=>?_]
 rw[Gg]at d0
 have G2:=G1.but B2 (aB.of_eq e2)
 obtain⟨y,hy,a2⟩:=J6 (ys:=ys) d1 d0
 refine#[g,_,_,_,Z,Z,aH.of G2.g,a2,u _ _ ?_]
 clear u
 obtain⟨k,hk⟩:=G2.s
 have ek:gm H S=k:=((kl B1 G1.s (aB.of_eq e2)).trans (kl B G0.s (aB.of_eq e1))).symm.trans (Jc hk)
 refine ai λF1 u=>#[_,Z,S,_,_,_,Z,Z,aH.of hk,Z,_,_,Z,Z,_,Z,S,_,_,0,Z,Z,hk,Z,u _ _ ?_]
 clear u
 have s0:=G2.s.ne B2
 have B3:aq (af H2 S (.lst ([.int k].set 0 (.int (k - 1))))) p:=B2.eq (ji (G7 s0))
 have s3:dm (af H2 S (.lst ([.int k].set 0 (.int (k - 1))))) S:=#[k - 1,jc]
 have K3:aL p S H (af H2 S (.lst ([.int k].set 0 (.int (k - 1))))):=((aB.of_eq e1).trans (aB.of_eq e2)).two.trans aL.at
 have G:=G0.but2 B3 s3 K3
 have e3:gm (af H2 S (.lst ([.int k].set 0 (.int (k - 1))))) S=k - 1:=Jc jc
 generalize af H2 S (.lst ([.int k].set 0 (.int (k - 1))))=H3 at B3 s3 K3 G e3
 have l0:∀(l:Lf) (M:List V) (j:Hp) (r:Addr),uP j l M->l.Ok ys->l.Cs (hs.map λc=>(c.1,c.2.length))->ms j p g h S ys hs->aL p S H j->gm j S=k - 1->j r=none->Q (.ref r) (af j r (.tup M)):=λl M j r hl ok cs C K4 e4 nr=>
  q r (.lf r l .nil) _ #[M,[],Z,jc,hl.mono (ae.tm (je nr)),Z] (by rw[ke C.s (je nr)];show((0+1:Nat):Int)+_<=_;omega) (by rw[ke C.s (je nr)];omega) (yN ok cs) (C.B.upd_new nr) (C.s.new nr) (K4.trans (aL.of_same (je nr)))
 refine ai λF1 u=>nG λG' D=>#[_,Z,_,_,Z,Z,_,Z,D _ _ ?_]
 clear D
 refine bP (λc=>?_) (λc=>u _ _ ?_)
 ·refine#[_,Z,_,Z,_,Z,p,g,ys,Z,G.B,G.g,y1,y2,λr T j W oT B4 J=>#[gn,λt N=>?_]]
  exact l0 (.rd y r T) _ j t #[Z,W] #[hy,oT] trivial (G.but B4 J) (K3.trans J.two) ((kl G.B G.s J).trans e3) N
 have wr:∀(r:Addr) (T0:Tm) (j:Hp),bj j T0 r->df ys T0->aq j p->aB p H3 j->dF (cp 4) [] E0 (am (a7 0) (am (a7 1) (am (tC (.int 2)) aO))) [some (.ref p),some (.ref g),some (.ref h),some (.ref S),some (.int (d:Int)),some (.int kd),some (.str y),none,none,none] j (λv o=>3<=sizeLine/\∀t,o t=none->Q (.ref t) (af o t (.tup [.str "write",.ref r,v]))):=λr T0 j h4 o1 B4 J=>by
  refine#[_,Z,_,Z,p,g,2,ys,Z,B4,(G.but B4 J).g,y1,y2,PZ,PZ,λX T o W dT gT R a=>#[PZ,λt N=>?_]]
  exact l0 (.wr r X T0 T) _ o t #[Z,h4.but B4 a,W] #[o1,gT,P0] trivial (G.but R (J.trans a)) (K3.trans (J.trans a).two) ((kl G.B G.s (J.trans a)).trans e3) N
 refine ai λF1 u=>nG λG' D=>?_
 have Y:G' true H3:=D _ _ (yW #[_,Z,_,Z,p,g,ys,Z,G.B,G.g,y1,y2,λr T0 j h4 o1 B4 J=>wr r T0 j h4 o1 B4 J])
 refine#[_,Z,Z,_,Z,bP (λc=>Y) (λc=>#[_,Z,Z,_,Z,xI Y λc2=>D _ _ (aS c2 (u _ _ ?_))])]
 clear Y D u
 obtain⟨hv,hh,hH⟩:=G.h
 have hl:=hH.len
 have h1:=G0.h1
 have h2:=G0.h2
 have c1:∀(f':Str) (ps:List Str) (h':(f',ps.length)∈hs.map λc=>(c.1,c.2.length)) (t:Addr) (j:Hp),ms j p g h S ys hs->aL p S H j->gm j S=k - 1->j t=some (.tup (ps.map V.str))->ps.length<=6->
   eE (uO K t) 1 [some (.ref p),some (.ref g)] (bu 0) lD (dF (cp 4) [] E0 (am (a7 1) (am (a7 2) (am (tC (.int 1)) aO)))) (λM o=>∀l,o l=none->∃p' y0,[V.ref l]=[.ref p']/\((aH K (af o l (.lst M)) p' y0/\∀l2,af o l (.lst M) l2=none->4<=sizeLine/\∀r,af (af o l (.lst M)) l2 (.tup y0) r=none->Q (.ref r) (af (af (af o l (.lst M)) l2 (.tup y0)) r (.tup [.str "call",.str y,.str f',.ref l2])))∨(aw K (af o l (.lst M)) p' y0/\4<=sizeLine/\∀r,af o l (.lst M) r=none->Q (.ref r) (af (af o l (.lst M)) r (.tup [.str "call",.str y,.str f',.ref p']))))) j:=λf' ps h' t j C K4 e4 ht c4=>by
  refine qg (K:=K) (xs:=ps.map V.str) (by rw[Gg];omega) (λi M o=>∃ts:List (Addr×Tm),M=ts.map (λc=>V.ref c.1)/\ts.length=i/\(∀c∈ts,bj o c.2 c.1/\df ys c.2)/\aq o p/\aB p j o) #[[],Z,Z,(λ_ h=>absurd h GU),C.B,aB.refl] (λi M o h5=>?_) ?_ ?_
  ·obtain⟨ts,rfl,e5,_,_,a⟩:=h5
   exact#[aw.of (a.tm C.B _ _ ht),by rw[Gg,e5];exact Gh _]
  ·intro i x M o hx a3
   obtain⟨ts,rfl,e5,h5,R,a⟩:=a3
   refine#[_,Z,_,Z,p,g,1,ys,Z,R,(C.but R a).g,y1,y2,PZ,PZ,λX T H6 W dT gT B6 k6=>#[ts++[(X,T)],by rw[GY];rfl,by rw[Gi,e5];rfl,λc hc=>?_,B6,a.trans k6]]
   rcases List.mem_append.mp hc with hc |hc
   ·exact#[(h5 c hc).1.but R k6,(h5 c hc).2]
   ·rw[List.mem_singleton.mp hc]
    exact#[W,gT,(by show T.depth < 6;omega)]
  ·rintro M o ⟨ts,rfl,e5,h5,R,a⟩ l nl
   refine#[l,_,Z,.inl #[aH.of jc,λl2 n0=>#[PZ,λr nr=>?_]]]
   have O:=C.but R a
   have s6:ae o (af (af o l (.lst (ts.map λc=>V.ref c.1))) l2 (.tup (ts.map λc=>V.ref c.1))):=(je nl).trans (je n0)
   rw[Gg]at e5
   exact l0 (.cl y f' l2 ts) _ _ r #[Z,jc,λc hc=>(h5 c hc).1.same s6] #[hy,P0,λc hc=>(h5 c hc).2] (by show(f',ts.length)∈_;rw[e5];exact h') (O.but2 ((O.B.upd_new nl).upd_new n0) ((O.s.new nl).new n0) (aL.of_same s6)) ((K4.trans a.two).trans (aL.of_same s6)) ((ke O.s s6).trans ((kl C.B C.s a).trans e4)) nr
 refine ai λF1 u=>nG λG' D=>?_
 have Y:G' true H3:=by
  refine D _ _ (yW ?_)
  clear u D
  refine ai λF2 f2=>#[_,Z,_,Z,_,Z,h,_,Z,.inl (aH.of hh),p,_,Z,G.B,P0,P0,λd4 j d3 d5 B4 e4=>?_]
  have C:=G.but B4 (aB.of_eq e4)
  have J:aB p H3 j:=aB.of_eq e4
  have a4:=hH.mono (J.tm G.B)
  obtain⟨v,c0,a',a0,p4,t4,rfl,z1,z2⟩:=AX a4 d3 d5
  refine#[h,_,_,_,Z,Z,aH.of (J _ _ G.hsp.2 hh),a',p4,_,Z,aw.of z1,Z,_,_,Z,_,_,Z,Z,f2 _ _ ?_]
  clear f2
  refine#[_,Z,_,Z,_,Z,t4,Z,#[_,aw.of z2],?_]
  exact c1 c0.1 c0.2 (List.mem_map.mpr #[c0,a0,Z]) t4 j C (K3.trans J.two) ((kl G.B G.s J).trans e3) z2 (G0.h3 c0 a0)
 refine#[_,Z,Z,_,Z,bP (λc=>Y) (λc=>#[_,Z,Z,_,Z,xI Y λc2=>D _ _ (aS c2 (u _ _ ?_))])]
 clear Y D u
 have l1:∀(c:(0:Int) < (d:Int)),∃d':Nat,d=d'+1:=λc=>#[d - 1,P0]
 refine ai λF1 u=>dw (RH p g h S d kd y H3) (λE6 eR f6=>?_) λσ0 H' z=>?_
 ·clear u
  refine nG λG' D=>#[_,Z,Z,_,Z,?_]
  refine bP (λc=>?_) (λc=>D _ _ (vA (f6 _ _ #[Z,Z])))
  refine#[_,Z,_,_,Z,Z,_,Z,D _ _ ?_]
  clear D
  refine bP (λc2=>?_) (λc2=>f6 _ _ #[Z,Z])
  clear f6
  obtain⟨d',rfl⟩:=l1 (HK c2)
  have ed:(((d'+1:Nat):Int) - 1)=((d':Nat):Int):=by omega
  refine#[_,Z,_,Z,_,Z,_,Z,_,Z,_,_,Z,Z,p,g,h,S,d',ys,hs,(by show [V.ref p,V.ref g,V.ref h,V.ref S,V.int (((d'+1:Nat):Int) - 1)]=_;rw[ed]),G,P0,P0,λr b bs j b1 b2 c5 b4 b5 B4 s4 J=>?_]
  have C:=G.but2 B4 s4 J
  refine#[_,Z,_,Z,p,g,2,ys,Z,C.B,C.g,y1,y2,PZ,PZ,λX T o W dT gT R a=>?_]
  have O:=C.but R a
  refine#[_,Z,_,Z,_,Z,_,Z,_,Z,_,Z,_,_,Z,Z,p,g,h,S,d',ys,hs,(by show [V.ref p,V.ref g,V.ref h,V.ref S,V.int (((d'+1:Nat):Int) - 1)]=_;rw[ed]),O,P0,(by rw[kl C.B C.s a];exact b4),λr3 b3 b0 H6 h6 h7 a1 h8 h0 B6 s6 k6=>#[oK,λt N=>?_]]
  have G6:=O.but2 B6 s6 k6
  have tm:al j H6:=λb' xs e=>k6.tm O.B O.s _ _ (a.tm C.B _ _ e)
  have I:al H6 (af H6 t (.tup [.str "if",.ref X,.ref r,.ref r3])):=ae.tm (je N)
  rw[eR]
  refine q t (.ite t X T b b3 .nil) _ #[r,r3,bs,b0,[],Z,jc,(W.mono (k6.tm O.B O.s)).mono I,I _ _ (tm _ _ b1),I _ _ h6,(b2.mono tm).mono I,h7.mono I,Z] (by have x1:=kl C.B C.s a;rw[ke G6.s (je N)];show((b.size+b3.size+0+1:Nat):Int)+_<=_;omega) (by rw[ke G6.s (je N)];exact h8) (vm #[gT,P0] b5 h0) (G6.B.upd_new N) (G6.s.new N) (((K3.trans J).trans (a.two.trans k6)).trans (aL.of_same (je N)))
 obtain⟨rfl,e⟩:=z
 rw[e]
 refine u _ _ ?_
 clear u
 refine ai λF1 u=>dw (RH p g h S d kd y H3) (λE6 eR f6=>?_) λσ0 H' z=>?_
 ·clear u
  refine nG λG' D=>#[_,Z,Z,_,Z,?_]
  refine bP (λc=>?_) (λc=>D _ _ (vA (f6 _ _ #[Z,Z])))
  refine#[_,Z,_,_,Z,Z,_,Z,D _ _ ?_]
  clear D
  refine bP (λc2=>?_) (λc2=>f6 _ _ #[Z,Z])
  clear f6
  obtain⟨d',rfl⟩:=l1 (HK c2)
  have ed:(((d'+1:Nat):Int) - 1)=((d':Nat):Int):=by omega
  refine#[_,Z,_,Z,p,g,2,ys,Z,G.B,G.g,y1,y2,PZ,PZ,λX T o W dT gT R a=>?_]
  have O:=G.but R a
  refine#[_,Z,_,Z,_,Z,_,Z,_,Z,_,_,Z,Z,p,g,h,S,d',ys,hs,(by show [V.ref p,V.ref g,V.ref h,V.ref S,V.int (((d'+1:Nat):Int) - 1)]=_;rw[ed]),O,P0,(by rw[kl G.B G.s a];omega),λr3 b3 b0 H6 h6 h7 a1 h8 h0 B6 s6 k6=>#[gn,λt N=>?_]]
  have G6:=O.but2 B6 s6 k6
  have I:al H6 (af H6 t (.tup [.str "while",.ref X,.ref r3])):=ae.tm (je N)
  rw[eR]
  refine q t (.loop t X T b3 .nil) _ #[r3,b0,[],Z,jc,(W.mono (k6.tm O.B O.s)).mono I,I _ _ h6,h7.mono I,Z] (by have x1:=kl G.B G.s a;rw[ke G6.s (je N)];show((b3.size+0+1:Nat):Int)+_<=_;omega) (by rw[ke G6.s (je N)];exact h8) (pI #[gT,P0] h0) (G6.B.upd_new N) (G6.s.new N) ((K3.trans (a.two.trans k6)).trans (aL.of_same (je N)))
 obtain⟨rfl,e⟩:=z
 rw[e]
 refine u _ _ ?_
 clear u
 refine ai λF1 u=>nG λG' D=>#[_,Z,Z,_,Z,D _ _ ?_]
 clear D
 refine bP (λc=>?_) (λc=>u _ _ ?_)
 ·refine#[_,Z,_,Z,p,g,2,ys,Z,G.B,G.g,y1,y2,PZ,PZ,λX T o W dT gT R a=>#[bN,λt N=>?_]]
  exact l0 (.gv X T) _ o t #[Z,W] #[gT,P0] trivial (G.but R a) (K3.trans a.two) ((kl G.B G.s a).trans e3) N
 ·refine#[_,Z,_,Z,_,Z,p,g,3,ys,Z,G.B,G.g,y1,y2,PZ,PZ,λX T o W dT gT R a=>#[gn,λt N=>?_]]
  exact l0 (.st y X T) _ o t #[Z,W] #[hy,gT,P0] trivial (G.but R a) (K3.trans a.two) ((kl G.B G.s a).trans e3) N
theorem mZ:aj ["_law_box_here","_law_names_here","_law_heads","_law_spare","_law_deep","_law_body_here","_law_k"] z5z (aa nO):=bK
theorem Y4(F:aN K "_law_body" "_law_body" nO f fd)(cT:Cl P w K mg base 1 fT f0 z0z aZ "_law_take"){L:Nat}(cS:Cl P w K mg base (L+8) fS f1 z5z (iN n) "_law_statement")(mr:mg "range"=none)(m2:mg "tuple"=none):ah P w K mg base ay (L+9) f fd z5z (gr n):=by
 refine F.ok mZ ?_ λc0 A o1 s H v Q E hr h=>?_
 ·rintro _ _ _ _ ⟨p,g,h,S,d,ys,hs,rfl,_⟩
  rfl
 obtain⟨p,g,h,S,d,ys,hs,rfl,G,hd,h0,q⟩:=h
 refine#[_,(jd (jy 5 mZ.nd (jF jb)) (jd (kr He Z (km Z mr (ja (cT.e hr.m (ja (pv 0) (ja jf jb))) jb)) (jw (i:=6) mZ.nd Z (Or.inl Z)) (jg (jv (jz Jn (jr jq (pv 3) jf (λ_ _=>Z)) jf (aD _)) (jg (jO (kn Gx GS GQ jR (pv 5) (ja (cS.e hr (ja (pv 0) (ja (pv 1) (ja (pv 2) (ja (pv 3) (ja (pv 4) jb)))))) jb)))) jp))) (jg (jo (jD jI Z m2 Ib (ja (pv 5) jb)))))),?_]
 have b0:=aE
 refine#[Gp _,λl N=>?_]
 have s0:ae H (af H l (.lst [])):=je N
 have O:ms (af H l (.lst [])) p g h S ys hs:=G.but2 (G.B.upd_new N) (G.s.new N) (aL.of_same s0)
 have l1:af H l (.lst []) l=some (.lst []):=jc
 have lp:l≠p:=G.B.ne N
 have D:l≠S:=λe=>by obtain⟨k,z⟩:=G.s;rw[<- e,N]at z;cases z
 have k1:aL p S H (af H l (.lst [])):=aL.of_same s0
 have R:gm (af H l (.lst [])) S=gm H S:=ke G.s s0
 generalize af H l (.lst [])=H1 at O l1 k1 R
 refine#[_,Z,p,6,Z,O.B,PZ,PZ,λm H2 m0 m1 B2 e2=>#[_,Z,P0,P0,?_]]
 have G2:=O.but B2 (aB.of_eq e2)
 refine Qa (lo:=0) (λi σ I=>∃(o6:Option V) (v:List V) (b:Bd),σ=[some (.ref p),some (.ref g),some (.ref h),some (.ref S),some (.int (d:Int)),some (.ref l),o6]/\I l=some (.lst v)/\dn I b v/\((b.size:Int)+gm I S<=gm H S/\0<=gm I S)/\b.fit hs ys d/\v.length<=i/\aq I p/\dm I S/\aL p S H I)
  #[none,[],.nil,Z,by rw[e2 l lp];exact l1,Z,(by rw[kl O.B O.s (aB.of_eq e2),R];exact#[by show((0:Nat):Int)+_<=_;omega,h0]),Y2,Gp _,B2,G2.s,k1.trans (aB.of_eq e2).two] ?_ ?_
 ·intro i σ H3 hi J
  obtain⟨o6,v,b,rfl,a,u,j,x,h1,T,C,U⟩:=J
  have G3:=G.but2 T C U
  obtain⟨kk,W⟩:=id C
  refine#[_,Z,S,_,_,_,Z,Z,aH.of W,Z,_,_,Z,Z,_,Z,?_]
  refine bP (λc=>?_) (λc=>?_)
  ·refine#[_,Z,.inl #[Z,_,aH.of a],_,Z,_,Z,_,Z,_,Z,_,Z,p,g,h,S,d,ys,hs,Z,G3,hd,(by rw[Jc W];exact HK c),λr b4 H4 h2 h5 h3 h4 B4 s4 k4=>?_]
   have X:H4 l=some (.lst v):=k4 _ _ lp D a
   refine#[l,_,_,Z,Z,X,P0,?_]
   have tm:al H4 (af H4 l (.lst (v++[.ref r]))):=λb' xs e=>by rw[ji (jP e X (by intro z;cases z))];exact e
   have Y:al H3 H4:=k4.tm T C
   refine#[_,_,b.app b4,Z,jc,(h2.mono tm).app ((u.mono Y).mono tm),?_,Y3 x h4,by rw[Gi];show v.length+1<=i+1;omega,B4.eq (ji (G7 lp)),?_,λb' o n1 n2 e=>?_]
   ·rw[jW,XY s4 λo e=>by rw[ji (G7 D)];exact e]
    obtain⟨z1,z2⟩:=j
    exact#[P0,h3]
   ·obtain⟨z,hz⟩:=s4
    exact#[z,by rw[ji (G7 D)];exact hz]
   ·rw[ji (jk e N)]
    exact k4 _ _ n1 n2 (U _ _ n1 n2 e)
  ·exact#[_,v,b,Z,a,u,j,x,P0,T,C,U]
 ·intro σ H3 J
  obtain⟨o6,v,b,rfl,a,u,j,x,h1,T,C,U⟩:=J
  refine#[_,Z,l,v,Z,.inl #[aH.of a,λt M=>?_]]
  have hm:(m).toNat<=5:=by omega
  refine q t b v _ jc (u.mono (ae.tm (je M))) (by rw[ke C (je M)];exact j.1) (by rw[ke C (je M)];exact j.2) x (T.upd_new M) (C.new M) (U.trans (aL.of_same (je M)))
theorem rA:ah P w K mg base ay 8 f c z5z (iN 0):=by
 have n:∀v H Q E,¬iN 0 v H Q E:=λv H Q E h=>by
  obtain⟨p,g,h,S,d,y,e,_,_,b,_⟩:=h
  exact absurd b (Lm _)
 exact#[λv H Q E h=>absurd h (n v H Q E),λA o s H a u v Q E _ _ _ _ h=>absurd h (n v H Q E)]
theorem DK(F:aN K "_law_statement" "_law_statement" sO f e)(FB:aN K "_law_body" "_law_body" nO g a)(c:Cl P w K mg base 1 r k z0z aZ "_law_take")(C:Cl P w K mg base 6 s l z11z (cp 4) "_law_term")(h:Cl P w K mg base 7 t o z25z io "_law_spot")(b:au K e z5z [])(M:mg "_law_statement"=some (.ref f))(B:au K a z5z [])(i:mg "_law_body"=some (.ref g))(j:mg "len"=none)(m:mg "tuple"=none)(d:mg "range"=none):
  ∀n:Nat,ah P w K mg base ay (n+n+8) f e z5z (iN n)/\ah P w K mg base ay (n+n+9) g a z5z (gr n)
 |0=>#[rA,Y4 (L:=0) FB c #[rA,b,F.kp,M] d m]
 |n+1=>by
  have I:=DK F FB c C h b M B i j m d n
  have E:n+n+10=n+1+(n+1)+8:=by omega
  have p:n+n+2+9=n+1+(n+1)+9:=by omega
  have H:=Aw (L:=n+n) F c C h #[I.2,B,FB.kp,i] j m
  have q:=Y4 (L:=n+n+2) FB c #[H,b,F.kp,M] d m
  rw[<- E,<- p]
  exact#[H,q]
theorem Cw{x:List V}(h:k<=x.length):aX x none (some (k:Int))=x.take k:=by
 unfold aX
 rw[HT.sIx_nat,HT.sIx_none]
 have e:min k x.length=k:=by omega
 rw[e]
 simp
noncomputable abbrev AZ:Stmt:=bL 68
theorem vg(h:0<=d)(H:d < 4):∃D:Nat,dA [V.int 3,.int 3,.int 3,.int 5] d=some (.int (D:Int))/\D < 6/\Fv D<=111111/\D<=5:=by
 rcases(by omega:d=0∨d=1∨d=2∨d=3) with rfl |rfl |rfl |rfl
 ·exact#[3,Z,PZ,PZ,PZ]
 ·exact#[3,Z,PZ,PZ,PZ]
 ·exact#[3,Z,PZ,PZ,PZ]
 ·exact#[5,Z,PZ,PZ,PZ]
theorem pe{ys:List Str}{k:Int}(h:ys.length=20)(H:14<=k)(a:k<=20):1<=(bn ys (some 8) (some k)).length/\(bn ys (some 8) (some k)).length<=20:=by
 refine#[?_,by have:=z9 ys (some 8) (some k);omega]
 have e:(8:Int)=((8:Nat):Int):=rfl
 have E:k=((k.toNat:Nat):Int):=by omega
 unfold bn
 rw[e,E,HT.sIx_nat,HT.sIx_nat,GV,Ik]
 omega
theorem u6{ss:List Str}(h:0<=k):(bn ss none (some k)).length<=k.toNat:=by
 have e:k=((k.toNat:Nat):Int):=by omega
 unfold bn
 rw[e,HT.sIx_nat,HT.sIx_none,GV]
 omega
theorem fo{t u:TS}(h:∀E:a9,(∀a b,u D a b->E.nx a b)->t E c H):eV t u D c H:=h { D with nx:=u D } λ_ _ h=>h
def Ca(h:List (Str×List Str)):Prop:=∀c∈h,c.1.length<=20/\c.2.length<=6
def Fz(H:Hp)(D:List Df):Prop:=∀d∈D,∃p:List Str,H d.pa=some (.tup (p.map V.str))/\p.length<=100
theorem qR{a:Type}{P:a->Prop}{X:List a}{x:a}(h:∀c∈X,P c)(H:P x):∀c∈X++[x],P c:=λc b=>by
 rcases List.mem_append.mp b with h1 |h1
 ·exact h c h1
 ·rw[List.mem_singleton.mp h1];exact H
def lI(H:Hp)(D:List Df)(N:List Nat):Prop:=D.length=N.length/\∀(i:Nat) (d:Df) (n:Nat),D[i]?=some d->N[i]?=some n->∃p:List Str,H d.pa=some (.tup (p.map V.str))/\p.length=n/\n<=100
theorem lI.mono(h:lI H D N)(k:al H a):lI a D N:=#[h.1,λi d n b c=>let #[p,e,l]:=h.2 i d n b c;#[p,k _ _ e,l]]
theorem lI.snoc{d:Df}{p:List Str}(h:lI H D N)(e:H d.pa=some (.tup (p.map V.str)))(l:p.length<=100):lI H (D++[d]) (N++[p.length]):=by
 refine#[by rw[Gi,Gi,h.1];rfl,λi c n a b=>?_]
 by_cases f:i < D.length
 ·rw[Iv f]at a
  rw[Iv (by rw[<- h.1];exact f)]at b
  exact h.2 i c n a b
 ·have g:i < (D++[d]).length:=(List.getElem?_eq_some_iff.mp a).1
  rw[Gi]at g
  have E:i=D.length:=by have:i < D.length+1:=g;omega
  subst E
  rw[Io (Gh _),LV]at a
  rw[h.1,Io (Gh _),LV]at b
  cases a
  cases b
  exact#[p,e,Z,l]
theorem lI.v(h:lI H D n):Fz H D:=λd b=>by
 obtain⟨i,a,e⟩:=List.mem_iff_getElem.mp b
 have c:D[i]?=some d:=by rw[<- e];exact Gc a
 obtain⟨p,e,l,k⟩:=h.2 i d _ c (Gc (by rw[<- h.1];exact a))
 exact#[p,e,P0]
def oN(D:List Df)(n:List Nat):Prop:=(∀d∈D,my d/\d.b.Cs ((D.map Df.f).zip n))/\(D.map Df.f).Nodup/\∀y∈D.map Df.f,y.length<=20
inductive nZ(c:List V)(H:Hp)(Q:VK)(a:XK):Prop
 |mk(p:Addr)(T b:Int)(_:c=[.ref p,.int T,.int b])(_:aq H p)(_:1<=T)(_:T<=8)(_:0<=b)(_:b<=40)(_:∀(r:Addr) (ds:List Df) (xs:List V) (H':Hp),H' r=some (.tup xs)->cg H' ds xs->(ds.length:Int)=T->∀ns:List Nat,oN ds ns->lI H' ds ns->aq H' p->aB p H H'->Q (.ref r) H')
theorem cw:aj ["_law_box_here","_law_total","_law_room","_law_words","_law_most","_law_heads","_law_k","_law_turn","_law_row","_law_some","_law_deep","_law_defs","_law_f","_law_params","_law_spare","_law_body_here"] z33z (aa AZ):=bK
inductive AJ(p k:Addr)(T j:Int)(H:Hp)(b:_L.St)(c:Hp):Prop
 |mk(a:List Str)(d:b=[some (.ref p),some (.int T),some (.int j),some (.ref k),none,none,none,none,none,none,none,none,none,none,none,none])(e:c k=some (.lst (a.map V.str)))(f:a.length=20)(g:(∀y∈a,y.length<=20)/\(a.take 8).Nodup)(h:aq c p)(i:aB p H c)
inductive AI(p t k:Addr)(T s m:Int)(u:List Str)(H:Hp)(i:Nat)(v:_L.St)(a:Hp):Prop
 |mk(o q r:Option V)(l:List (Str×List Str))(n:List V)(b:v=[some (.ref p),some (.int T),some (.int s),some (.ref t),some (.int m),some (.ref k),o,q,r,none,none,none,none,none,none,none])(c:a k=some (.lst n))(d:dy a l n)(e:l.length=i)(f:Ca l/\l.map (·.1)=u.take i)(g:a t=some (.lst (u.map V.str)))(h:aq a p)(j:aB p H a)
inductive AK(p G y F h:Addr)(T E m:Int)(j:Nat)(I:List Str)(z:List (Str×List Str))(A:List V)(H:Hp)(i:Nat)(J:_L.St)(g:Hp):Prop
 |mk(B C D b c e f:Option V)(k:List Df)(l:List V)(n:J=[some (.ref p),some (.int T),some (.int E),some (.ref G),some (.int m),some (.ref y),B,C,D,some (.ref F),some (.int (j:Int)),some (.ref h),b,c,e,f])(o:g h=some (.lst l))(q:cg g k l)(r:k.length=i)(s:(∀d∈k,my d/\d.b.Cs (z.map λc=>(c.1,c.2.length)))/\k.map Df.f=(z.map (·.1)).take i)(t:g y=some (.lst A))(u:dy g z A)(v:g F=some (.lst (I.map V.str)))(w:aq g p)(x:aB p H g)(a:lI g k ((z.map λc=>c.2.length).take i))
inductive AL(v:List (Str×List Str))(D:List Str)(p C u z h B A:Addr)(T y m:Int)(i:Nat)(w x:Option V)(c:Str×List Str)(e:Hp)(j:Nat)(E:_L.St)(d:Hp):Prop
 |mk(a:Option V)(f:Addr)(b:Bd)(g:List V)(k:E=[some (.ref p),some (.int T),some (.int y),some (.ref C),some (.int m),some (.ref u),a,w,x,some (.ref z),some (.int (i:Int)),some (.ref h),some (.str c.1),some (.ref B),some (.ref A),some (.ref f)])(l:d f=some (.tup g))(n:dn d b g)(o:(b.size:Int)+gm d A<=y/\0<=gm d A)(q:b.fit v D i)(r:aq d p)(s:dm d A)(t:aL p A e d)
theorem Ai(F:aN K "_law_any" "_law_any" AZ f fd)(cT:Cl P w K mg base 1 fT j2 z0z aZ "_law_take")(cA:Cl P w K mg base 2 fA l4 z24z fQ "_law_names")(cB:Cl P w K mg base 21 fB l5 z5z (gr 6) "_law_body")(ml:mg "len"=none)(mr:mg "range"=none)(m0:mg "tuple"=none)(mi:mg "int"=none):ah P w K mg base ay 22 f fd z33z nZ:=by
 refine F.ok cw ?_ λl6 A o5 s H vs Q E hr h=>?_
 ·rintro _ _ _ _ ⟨p,T,Y,rfl,_⟩
  rfl
 obtain⟨p,T,Y,rfl,B,l',m',f7,o',q⟩:=h
 refine#[_,(jd (jy 3 cw.nd (cA.e hr.m (ja (pv 0) (ja jf jb)))) (jd (j3 (jv (za (cT.e hr.m (ja (pv 0) (ja jf jb)))) (jg (zb (jG kh (pv 3) jU (jE jf)) (@sd _ _ _ _ _ _ _ _ _ (pv 3) jf jf (by intro _;rfl)))) jp)) (jd (jy 4 cw.nd (jr jq (jF (ja jf (ja jf jb))) (jD Jg Z mi PQ (ja (JE qi (cT.e hr.m (ja (pv 0) (ja jf jb))) jf (aD _)) jb)) (λ_ _=>Z))) (jd (jy 5 cw.nd (jF jb)) (jd (kr He Z (km Z mr (ja (pv 1) jb)) (jw (i:=6) cw.nd Z (Or.inl Z)) (jd (jy 7 cw.nd (ju jY jf (cT.e hr.m (ja (pv 0) (ja jf jb))))) (jd (jy 8 cw.nd (ju zX (jG kh (pv 3) (jE (pv 7)) (jE jf)) (jG kh (pv 3) (jE jf) (jE (pv 7))))) (jg (jO (kn Gx GS GQ jR (pv 5) (ja (jh (ja (jr jq (pv 3) (pv 6) (λ_ _=>Z)) (ja (jD jI Z m0 Ib (ja (jG kh (pv 8) jU (jE (cT.e hr.m (ja (pv 0) (ja (pv 4) jb))))) jb)) jb))) jb))))))) (jd (jy 9 cw.nd (jG kh (pv 3) (jE jf) (jE (ju jY jf (cT.e hr.m (ja (pv 0) (ja jf jb))))))) (jd (jy 10 cw.nd (jr jq (jF (ja jf (ja jf (ja jf (ja jf jb))))) (cT.e hr.m (ja (pv 0) (ja jf jb))) (λ_ _=>Z))) (jd (jy 11 cw.nd (jF jb)) (jd (kr He Z (qH (pv 5)) (zV (n:=2) Z (jB (jw (i:=12) cw.nd Z (Or.inl Z)) (jB (jw (i:=13) cw.nd Z (Or.inl Z)) kN))) (jd (jy 14 cw.nd (jF (ja (pv 2) jb))) (jd (jy 15 cw.nd (jh jb)) (jd (kr He Z (km Z mr (ja jf jb)) (jw (i:=6) cw.nd Z (Or.inl Z)) (jg (jy 15 cw.nd (ju jZ (pv 15) (cB.e hr (ja (pv 0) (ja (pv 9) (ja (pv 5) (ja (pv 14) (ja (pv 10) jb)))))))))) (jg (jO (kn Gx GS GQ jR (pv 11) (ja (jh (ja (pv 12) (ja (pv 13) (ja (pv 15) jb)))) jb)))))))) (jg (jo (jD jI Z m0 Ib (ja (pv 11) jb))))))))))))),?_]
 have p1:=aE
 refine fo λE1 m1=>?_
 refine#[_,Z,p,20,Z,B,PZ,PZ,λW ys H1 c4 f9 c5 C B1 k1=>?_]
 refine m1 _ _ ?_
 refine fo λE2 m2=>?_
 have wp:W≠p:=B.ne c4
 refine dw (AJ p W T Y H) (λE0 _ fm=>?_) λσ0 H2 l=>?_
 ·clear m2
  refine nG λG' g'=>#[_,Z,p,2,Z,B1,PZ,PZ,λd1 H2 p2 p3 B2 e2=>?_]
  have h0:H2 W=some (.lst (ys.map V.str)):=by rw[e2 W wp];exact f9
  have k2:=k1.trans (aB.of_eq e2)
  refine#[Z,_,Z,g' _ _ ?_]
  clear g'
  refine bP (λc=>?_) (λc=>fm _ _ #[ys,Z,h0,P0,#[C.1,C.2.sublist (Ix _ _)],B2,k2])
  refine#[_,Z,_,Z,W,_,Z,aH.of h0,λsl n0=>?_]
  have f':W≠sl:=λe=>by rw[<- e,h0]at n0;cases n0
  have p4:=B2.ne n0
  refine#[_,Z,W,sl,_,_,_,_,Z,Z,Z,Z,ao h0 n0,jc,f',PZ,PZ,by rw[Gg];omega,?_,?_]
  ·have:=kY (ys.map V.str) none (some 2)
   rw[Gg]at this ⊢
   omega
  have e2:aX (ys.map V.str) none (some 2)=(ys.take 2).map V.str:=by
   rw[show(2:Int)=((2:Nat):Int) from Z,Cw (by rw[Gg];omega),Lx]
  refine fm _ _ #[ys.take 8++ys.take 2++ys.drop 10,Z,?_,?_,?_,(B2.upd_new n0).eq (ji (G7 wp)),?_]
  ·rw[jc,e2,GY,GY,Lx,OJ,Lx]
   rfl
  ·rw[Gi,Gi,GV,GV,Ik]
   omega
  ·refine#[λy hy=>?_,?_]
   ·rcases List.mem_append.mp hy with h |h
    ·rcases List.mem_append.mp h with h |h
     ·exact C.1 y (Ht h)
     ·exact C.1 y (Ht h)
    ·exact C.1 y (NB h)
   ·rw[N0,List.take_append_of_le_length (by rw[GV];omega),Ov]
    exact C.2.sublist (Ix _ _)
  ·exact(k2.upd_new n0).upd_own c4
 obtain⟨ys,rfl,h0,c5,C,B2,k2⟩:=l
 refine m2 _ _ ?_
 clear m1 m2
 refine fo λE3 m3=>?_
 refine#[bN,λl1 n7=>?_]
 refine#[_,Z,p,3,Z,B2.upd_new n7,PZ,PZ,λd2 H3 p5 p6 B3 e3=>?_]
 have k3:aB p H2 H3:=((aB.refl).upd_new n7).trans (aB.of_eq e3)
 have l0:=B2.ne n7
 have g0:H3 l1=some (.lst [.int 4,.int 7]):=by rw[e3 l1 l0];exact jc
 refine#[Z,.inr #[_,Z,?_]]
 have a':∀c:Bool,∃m:Int,dA [V.int 4,V.int 7] (if c then 1 else 0)=some (.int m)/\4<=m/\m<=7:=λc=>by
  cases c
  ·exact#[4,Z,PZ,PZ]
  ·exact#[7,Z,PZ,PZ]
 obtain⟨m,hm,m4,m7⟩:=a' _
 refine#[l1,_,_,_,Z,Z,aH.of g0,hm,?_]
 refine m3 _ _ ?_
 refine fo λE4 m4=>?_
 have c6:H3 W=some (.lst (ys.map V.str)):=k3 _ _ wp h0
 have k0:=k2.trans k3
 refine#[Gp _,λhl n1=>?_]
 refine m4 _ _ ?_
 refine fo λE5 m5=>?_
 have h4:=B3.ne n1
 have n5:H hl=none:=by
  cases z:H hl with
  |none=>rfl
  |some o=>have:=k0 _ _ h4 z;rw[n1]at this;cases this
 have wh:W≠hl:=λe=>by rw[<- e,c6]at n1;cases n1
 refine eO λJ j=>#[_,Z,T,Z,P0,P0,j _ _ ?_]
 clear j
 refine kJ (lo:=0) (AI p W hl T Y m ys H)
  #[none,none,none,[],[],Z,jc,Z,Z,#[(λc hc=>nomatch hc),Z],ao c6 n1,B3.upd_new n1,k0.upd_own n5] ?_ ?_
 ·intro D' _ i σ H4 hi f0 Gq u l
  obtain⟨o6,o7,o8,hs,hv,rfl,b1,h6,c9,h7,b2,B4,k4⟩:=l
  refine u ?_
  clear u m5 m3 m4
  show eV (dO _ _) _ D' _ _
  refine fo λF1 f1=>?_
  refine#[_,Z,p,6,Z,B4,PZ,PZ,λD H5 g1 g2 B5 e5=>?_]
  have k5:aB p H4 H5:=aB.of_eq e5
  have h8:=k5 _ _ wp b2
  have b3:=k5 _ _ h4 b1
  have b4:=h6.mono (k5.tm B4)
  refine#[_,_,Z,Z,?_]
  refine f1 _ _ ?_
  show eV (dO _ _) _ D' _ _
  refine fo λF2 f2=>?_
  refine#[_,Z,_,Z,_,Z,_,Z,W,_,Z,aH.of h8,λs1 n'=>?_]
  refine#[_,Z,_,Z,_,Z,_,Z,W,_,Z,aH.of (ao h8 n'),λs2 b5=>?_]
  have L1:=z9 ys (some (8+D)) (some 14)
  have L0:=z9 ys (some 8) (some (8+D))
  have L3:=kY (ys.map V.str) (some (8+D)) (some 14)
  have L4:=kY (ys.map V.str) (some 8) (some (8+D))
  rw[Gg]at L3 L4
  refine#[s1,s2,_,_,Z,Z,ao jc b5,jc,P0,λrl c'=>?_]
  refine f2 _ _ ?_
  have er:aX (ys.map V.str) (some (8+D)) (some 14)++aX (ys.map V.str) (some 8) (some (8+D))=(bn ys (some (8+D)) (some 14)++bn ys (some 8) (some (8+D))).map V.str:=by
   rw[zp,zp,GY]
  have s6:ae H5 (af (af (af H5 s1 (.lst (aX (ys.map V.str) (some (8+D)) (some 14)))) s2 (.lst (aX (ys.map V.str) (some 8) (some (8+D))))) rl (.lst (aX (ys.map V.str) (some (8+D)) (some 14)++aX (ys.map V.str) (some 8) (some (8+D))))):=((je n').trans (je b5)).trans (je c')
  have r6:af (af (af H5 s1 (.lst (aX (ys.map V.str) (some (8+D)) (some 14)))) s2 (.lst (aX (ys.map V.str) (some 8) (some (8+D))))) rl (.lst (aX (ys.map V.str) (some (8+D)) (some 14)++aX (ys.map V.str) (some 8) (some (8+D)))) rl=some (.lst ((bn ys (some (8+D)) (some 14)++bn ys (some 8) (some (8+D))).map V.str)):=by rw[jc,er]
  have B6:aq (af (af (af H5 s1 (.lst (aX (ys.map V.str) (some (8+D)) (some 14)))) s2 (.lst (aX (ys.map V.str) (some 8) (some (8+D))))) rl (.lst (aX (ys.map V.str) (some (8+D)) (some 14)++aX (ys.map V.str) (some 8) (some (8+D))))) p:=((B5.upd_new n').upd_new b5).upd_new c'
  generalize af (af (af H5 s1 (.lst (aX (ys.map V.str) (some (8+D)) (some 14)))) s2 (.lst (aX (ys.map V.str) (some 8) (some (8+D))))) rl (.lst (aX (ys.map V.str) (some (8+D)) (some 14)++aX (ys.map V.str) (some 8) (some (8+D))))=H6 at s6 r6 B6
  have LR:(bn ys (some (8+D)) (some 14)++bn ys (some 8) (some (8+D))).length<=40:=by rw[Gi];omega
  generalize bn ys (some (8+D)) (some 14)++bn ys (some 8) (some (8+D))=r0 at r6 LR
  have d4:=s6 _ _ h8
  have h':=s6 _ _ b3
  have ei:(0:Int)+(i:Int)=(i:Int):=Int.zero_add _
  rw[ei]
  obtain⟨y,b7⟩:∃y,ys[i]?=some y:=#[_,Gc (by omega:i < ys.length)]
  have hy:=GP b7
  have a':dA (ys.map V.str) (i:Int)=some (.str y):=jH (by rw[Gz,b7];rfl)
  have rp:rl≠p:=zY B6 r6
  refine#[_,Z,.inl #[Z,_,aH.of h'],_,Z,_,Z,W,_,_,_,Z,Z,aH.of d4,a',_,Z,_,Z,_,Z,p,m,Z,B6,P0,P0,λd7 H7 d0 d6 B7 e7=>?_]
  have k7:aB p H6 H7:=aB.of_eq e7
  refine#[_,Z,rl,_,Z,aH.of (k7 _ _ rp r6),λs3 d8=>?_]
  refine#[s3,_,Z,.inl #[aH.of jc,λt nt=>#[bN,λr nr=>?_]]]
  rw[zp]at nt nr ⊢
  have L8:=u6 (ss:=r0) d0
  generalize bn r0 none (some d7)=ps at*
  have s8:ae H7 (af (af (af H7 s3 (.lst (ps.map V.str))) t (.tup (ps.map V.str))) r (.tup [.str y,.ref t])):=((je d8).trans (je nt)).trans (je nr)
  have t8:af (af (af H7 s3 (.lst (ps.map V.str))) t (.tup (ps.map V.str))) r (.tup [.str y,.ref t]) t=some (.tup (ps.map V.str)):=ao jc nr
  have r8:af (af (af H7 s3 (.lst (ps.map V.str))) t (.tup (ps.map V.str))) r (.tup [.str y,.ref t]) r=some (.tup [.str y,.ref t]):=jc
  have B8:aq (af (af (af H7 s3 (.lst (ps.map V.str))) t (.tup (ps.map V.str))) r (.tup [.str y,.ref t])) p:=((B7.upd_new d8).upd_new nt).upd_new nr
  generalize af (af (af H7 s3 (.lst (ps.map V.str))) t (.tup (ps.map V.str))) r (.tup [.str y,.ref t])=R at s8 t8 r8 B8
  have d':=s8 _ _ (k7 _ _ h4 h')
  have g4:=s8 _ _ (k7 _ _ wp d4)
  have h5:=h6.len
  refine#[hl,_,_,Z,Z,d',P0,?_]
  have tm:al R (af R hl (.lst (hv++[.ref r]))):=λb xs e=>by rw[ji (jP e d' (by intro z;cases z))];exact e
  have g5:=((b4.mono (ae.tm s6)).mono (k7.tm B6)).mono (ae.tm s8)
  refine f0 _ _ #[_,_,_,hs++[(y,ps)],_,Z,jc,(g5.mono tm).snoc #[r,t,Z,tm _ _ r8,tm _ _ t8],by rw[Gi,c9];rfl,#[qR h7.1 #[C.1 y hy,by show ps.length<=6;omega],by rw[GY,h7.2,IP,b7];rfl],by rw[ji wh];exact g4,B8.eq (ji (G7 h4)),?_]
  refine aB.upd_own (λb o n e=>?_) n5
  exact s8 _ _ (k7 _ _ n (s6 _ _ (k5 _ _ n (k4 _ _ n e))))
 intro σ H4 l
 obtain⟨o6,o7,o8,hs,hv,rfl,b1,h6,c9,⟨h7,e0⟩,b2,B4,k4⟩:=l
 refine m5 _ _ ?_
 refine fo λE6 m6=>?_
 refine#[_,Z,_,Z,_,Z,p,7,Z,B4,PZ,PZ,λD H5 g1 g2 B5 e5=>?_]
 have k5:aB p H4 H5:=aB.of_eq e5
 have h8:=k5 _ _ wp b2
 have b3:=k5 _ _ h4 b1
 have b4:=h6.mono (k5.tm B4)
 refine#[_,_,Z,Z,_,Z,W,_,Z,aH.of h8,λsm n3=>?_]
 refine m6 _ _ ?_
 refine fo λE7 m7=>?_
 obtain⟨z1,z2⟩:=pe (ys:=ys) (k:=14+D) c5 P0 P0
 have m6:af H5 sm (.lst (aX (ys.map V.str) (some 8) (some (14+D)))) sm=some (.lst ((bn ys (some 8) (some (14+D))).map V.str)):=by rw[jc,zp]
 have k6:aB p H (af H5 sm (.lst (aX (ys.map V.str) (some 8) (some (14+D))))):=(k4.trans k5).upd_new n3
 have h':=ao (o:=.lst (aX (ys.map V.str) (some 8) (some (14+D)))) b3 n3
 have e4:=b4.mono (ae.tm (je (o:=.lst (aX (ys.map V.str) (some 8) (some (14+D)))) n3))
 have B6:=B5.upd_new (o:=.lst (aX (ys.map V.str) (some 8) (some (14+D)))) n3
 generalize af H5 sm (.lst (aX (ys.map V.str) (some 8) (some (14+D))))=H6 at m6 k6 h' e4 B6
 generalize bn ys (some 8) (some (14+D))=zs at m6 z1 z2
 have s':=zY B6 m6
 refine#[oK,λl2 b8=>?_]
 refine#[_,Z,p,4,Z,B6.upd_new b8,PZ,PZ,λd7 H7 d0 d6 B7 e7=>?_]
 have k7:aB p H6 H7:=((aB.refl).upd_new b8).trans (aB.of_eq e7)
 have l3:=B6.ne b8
 have g6:H7 l2=some (.lst [.int 3,.int 3,.int 3,.int 5]):=by rw[e7 l2 l3];exact jc
 obtain⟨dp,g7,g8,p9,p'⟩:=vg d0 d6
 refine#[l2,_,_,_,Z,Z,aH.of g6,g7,?_]
 refine m7 _ _ ?_
 refine fo λE8 m8=>?_
 have m7:=k7 _ _ s' m6
 have b':=k7 _ _ h4 h'
 have i0:=e4.mono (k7.tm B6)
 have k9:=k6.trans k7
 refine#[Gp _,λdl N=>?_]
 refine m8 _ _ ?_
 refine fo λE9 m9=>?_
 have d3:=B7.ne N
 have n6:H dl=none:=by
  cases z:H dl with
  |none=>rfl
  |some o=>have:=k9 _ _ d3 z;rw[N]at this;cases this
 have e6:hl≠dl:=λe=>by rw[<- e,b']at N;cases N
 have s5:sm≠dl:=λe=>by rw[<- e,m7]at N;cases N
 have q1:=h6.len
 refine eO λJ j=>#[_,Z,hl,Z,#[_,aH.of (ao b' N)],j _ _ ?_]
 clear j
 refine ZK (K:=K) (a:=hl) (xs:=hv) (AK p W hl sm dl T Y m dp zs hs hv H)
  #[_,_,_,_,_,_,_,[],[],Z,jc,Z,Z,#[(λc hc=>nomatch hc),Z],ao b' N,i0.mono (ae.tm (je N)),ao m7 N,B7.upd_new N,k9.upd_own n6,#[Z,(λi d n h=>nomatch h)]] ?_ ?_ ?_
 ·intro i σ R _ l
  obtain⟨o6,o7,o8,o1,o2,o3,o4,ds,dv,rfl,h5,hD,a0,x,hh,hd,c0,B8,k8,p0⟩:=l
  exact aH.of hh
 ·intro D' _ i v σ R hx f0 Gq u l
  obtain⟨o6,o7,o8,o1,o2,o3,o4,ds,dv,rfl,h5,hD,a0,x,hh,hd,c0,B8,k8,p0⟩:=l
  have q2:i < hv.length:=(List.getElem?_eq_some_iff.mp hx).1
  obtain⟨c,hc,q0,t0,rfl,w1,w2⟩:=hd.at i v hx
  refine u ?_
  clear u m9
  have i1:=GP hc
  have e8:=h7 c i1
  refine FS λF6 f6=>#[q0,_,Z,aw.of w1,Z,_,_,Z,_,_,Z,Z,f6 _ _ ?_]
  clear f6
  show eV (dO _ _) _ D' _ _
  refine fo λF1 f1=>?_
  refine#[_,Z,iG,λM n2=>?_]
  refine f1 _ _ ?_
  show eV (dO _ _) _ D' _ _
  refine fo λF2 f2=>?_
  refine#[iF,λb0 n4=>?_]
  refine f2 _ _ ?_
  show eV (By _ _ _) _ D' _ _
  refine fo λF3 f3=>?_
  have s9:ae R (af (af R M (.lst [.int Y])) b0 (.tup [])):=(je n2).trans (je n4)
  have s4:dm (af (af R M (.lst [.int Y])) b0 (.tup [])) M:=#[Y,ao jc n4]
  have b9:af (af R M (.lst [.int Y])) b0 (.tup []) b0=some (.tup []):=jc
  have B9:aq (af (af R M (.lst [.int Y])) b0 (.tup [])) p:=(B8.upd_new n2).upd_new n4
  have e9:gm (af (af R M (.lst [.int Y])) b0 (.tup [])) M=Y:=Jc (ao jc n4)
  generalize af (af R M (.lst [.int Y])) b0 (.tup [])=H9 at s9 s4 b9 B9 e9
  have e':H M=none:=by
   cases z:H M with
   |none=>rfl
   |some o=>have:=k8 _ _ (B8.ne n2) z;rw[n2]at this;cases this
  have i2:dl≠M:=λe=>by rw[<- e,h5]at n2;cases n2
  have G9:ms H9 p sm hl M zs hs:=#[B9,s9 _ _ c0,z1,z2,#[hv,s9 _ _ hh,hd.mono (ae.tm s9)],P0,P0,λc hc=>(h7 c hc).2,s4]
  refine eO λJ j=>#[_,Z,PZ,PZ,j _ _ ?_]
  clear j
  refine kJ (lo:=0) (AL hs zs p W hl sm dl t0 M T Y m dp o7 o8 c H9)
   #[_,b0,.nil,[],Z,b9,Z,(by rw[e9];exact#[by show((0:Nat):Int)+_<=_;omega,f7]),Y2,B9,s4,aL.refl] ?_ ?_
  ·intro D2 _ j σ G hj fin2 Gq u l
   obtain⟨o9,bb,Bb,bs,rfl,c1,a1,a2,I,B',U,L⟩:=l
   refine u ?_
   clear u f1 f2 f3
   have G0:=G9.but2 B' U L
   refine#[_,Z,_,Z,_,Z,_,Z,_,Z,_,Z,p,sm,hl,M,dp,zs,hs,Z,G0,g8,a2.2,λr b q3 H0 X a4 i3 c2 c3 a3 S k'=>?_]
   have tm:=k'.tm B' U
   have lb:=a1.len
   have q4:=a4.len
   obtain⟨i4,i'⟩:=a2
   refine#[bb,r,_,_,Z,Z,tm _ _ c1,X,P0,λr2 H' f4 s0=>?_]
   have j0:aq H' p:=by
    obtain⟨a,b,h1,h2,h3,h⟩:=a3.ob
    exact#[a,b,h1,h2,h3,s0 _ _ h]
   have s7:dm H' M:=by
    obtain⟨z,hz⟩:=S
    exact#[z,s0 _ _ hz]
   refine fin2 _ _ #[_,r2,Bb.app b,_,Z,f4,(a4.mono (ae.tm s0)).app ((a1.mono tm).mono (ae.tm s0)),?_,Y3 I c3,j0,s7,L.trans (k'.trans (aL.of_same s0))]
   rw[jW,ke S s0]
   exact#[P0,c2]
  ·intro σ G l
   obtain⟨o9,bb,Bb,bs,rfl,c1,a1,a2,I,B',U,L⟩:=l
   refine f3 _ _ ?_
   have O:G dl=some (.lst dv):=L _ _ d3 i2 (s9 _ _ h5)
   have G0:=G9.but2 B' U L
   have t3:al R G:=λb xs e=>L.tm B9 s4 _ _ (s9 _ _ e)
   refine#[_,Z,.inl #[Z,_,aH.of O],_,Z,_,Z,_,Z,gn,λr nr=>?_]
   have S:ae G (af G r (.tup [.str c.1,.ref t0,.ref bb])):=je nr
   have j1:=hD.len
   have f5:Bb.size<=40:=by obtain⟨i4,i'⟩:=a2;omega
   refine#[dl,_,_,Z,Z,S _ _ O,P0,?_]
   have X:af G r (.tup [.str c.1,.ref t0,.ref bb]) r=some (.tup [.str c.1,.ref t0,.ref bb]):=jc
   have a3:=B'.upd_new (o:=.tup [.str c.1,.ref t0,.ref bb]) nr
   generalize af G r (.tup [.str c.1,.ref t0,.ref bb])=H0 at S X a3
   have tm:al H0 (af H0 dl (.lst (dv++[.ref r]))):=λb xs e=>by rw[ji (jP e (S _ _ O) (by intro z;cases z))];exact e
   have t2:al G (af H0 dl (.lst (dv++[.ref r]))):=λb xs e=>tm _ _ (S _ _ e)
   have t1:al R (af H0 dl (.lst (dv++[.ref r]))):=λb xs e=>t2 _ _ (t3 _ _ e)
   refine f0 _ _ #[_,_,_,_,_,_,_,ds++[#[c.1,r,t0,bb,Bb]],_,Z,jc,(hD.mono t1).snoc #[bs,Z,tm _ _ X,t2 _ _ c1,a1.mono t2],by rw[Gi,a0];rfl,#[qR x.1 #[#[#[zs,z2,I.1.1],HZ I.2 P0,Gr f5 PZ],I.1.2],by rw[GY,x.2,IP,Gz,hc];rfl],?_,hd.mono t1,?_,a3.eq (ji (G7 d3)),?_,(by rw[IP,Gz,hc];exact(p0.mono t1).snoc (d:=#[c.1,r,t0,bb,Bb]) (t1 _ _ w2) (Gr e8.2 PZ))]
   ·obtain⟨q5,e1,e2⟩:=G0.h
    rw[ji e6]
    exact S _ _ (L _ _ G9.hsp.2 G9.hsp.1 (s9 _ _ hh))
   ·rw[ji s5]
    exact S _ _ G0.g
   ·refine aB.upd_own (λb o n e=>?_) n6
    exact S _ _ (L _ _ n (jk e e') (s9 _ _ (k8 _ _ n e)))
 ·intro σ R l
  obtain⟨o6,o7,o8,o1,o2,o3,o4,ds,dv,rfl,h5,hD,a0,x,hh,hd,c0,B8,k8,p0⟩:=l
  refine m9 _ _ ?_
  refine#[_,Z,dl,dv,Z,.inl #[aH.of h5,λt nt=>?_]]
  have nn:(ds.map Df.f).Nodup:=by
   rw[x.2,e0]
   refine List.Nodup.sublist (Ix _ _) ?_
   have e:∀m,m<=8->ys.take m=(ys.take 8).take m:=λm hm=>by rw[Ov,I9 hm]
   rw[e _ P0]
   exact C.2.sublist (Ix _ _)
  exact q t ds dv _ jc (hD.mono (ae.tm (je nt))) P0 (hs.map λc=>c.2.length) #[λd hd=>#[(x.1 d hd).1,by have e:=x.2;rw[Ii (by rw[Gg];omega)]at e;rw[e];have z:=(x.1 d hd).2;rw[show(hs.map λc=>(c.1,c.2.length))=(hs.map (·.1)).zip (hs.map λc=>c.2.length) by rw[List.zip_map']]at z;exact z],nn,λy hy=>by rw[x.2,e0]at hy;exact C.1 y (Ht (Ht hy))] (by have z:=p0.mono (ae.tm (je (o:=.tup dv) nt));rw[Ii (by rw[Gg];omega)]at z;exact z) (B8.upd_new nt) (k8.upd_new nt)
theorem iF:0<=sizeLine:=by decide
theorem iG:1<=sizeLine:=by decide
theorem bN:2<=sizeLine:=by decide
theorem gn:3<=sizeLine:=by decide
theorem oK:4<=sizeLine:=by decide
theorem al.trans(a:al H h)(b:al h d):al H d:=λc x e=>b c x (a c x e)
theorem al.refl:al H H:=λ_ _ e=>e
def gj(H:Hp)(y:List Str)(k:Nat)(a:Addr):Prop:=∃T,bj H T a/\T.Good y/\T.depth<=k
theorem gj.mono(h:gj H y k a)(m:al H b):gj b y k a:=let #[T,c,d]:=h;#[T,c.mono m,d]
theorem gj.ok(h:gj H y k a)(m:k < 6):∃T,bj H T a/\df y T:=let #[T,b,c,d]:=h;#[T,b,c,HZ d m]
section
variable {Cf:gW}{H:Hp}{ys:List Str}
theorem BE(h:H a=some (.tup [.str "num",.int n]))(b:0<=n)(c:n < 1000000000000000000):gj H ys 0 a:=#[.num n,h,#[b,c],Gp _]
theorem uk(h:H a=some (.tup [.str "var",.str x]))(b:x∈ys):gj H ys 0 a:=#[.var x,h,b,Gp _]
def Sg(s:Str):Prop:=∃i,i < 6/\s=EK i
theorem yp(h:H a=some (.tup [.str "op",.str s,.ref b,.ref c]))(d:Sg s)(e:gj H ys j b)(f:gj H ys k c)(q:j < n)(r:k < n):gj H ys n a:=by
 obtain⟨i,g,rfl⟩:=d
 obtain⟨B,l,m,t⟩:=e
 obtain⟨C,o,p,u⟩:=f
 exact#[.op i B C,#[b,c,h,l,o],#[g,m,p],by show max B.depth C.depth+1<=n;omega]
theorem zf:Sg "+":=#[0,PZ,P6]
theorem Xo:Sg "-":=#[1,PZ,P6]
theorem Xp:Sg "*":=#[2,PZ,P6]
theorem wX:Sg "/":=#[3,PZ,P6]
theorem QS:Sg "<":=#[4,PZ,P6]
theorem DI:Sg "=":=#[5,PZ,P6]
theorem wq(h:0<=d)(a:d < 4):∃s,dA [V.str "+",.str "+",.str "*",.str "-"] d=some (.str s)/\Sg s:=by
 rcases(by omega:d=0∨d=1∨d=2∨d=3) with rfl |rfl |rfl |rfl
 ·exact#[_,Z,zf]
 ·exact#[_,Z,zf]
 ·exact#[_,Z,Xp]
 ·exact#[_,Z,Xo]
theorem wo(h:0<=d)(a:d < 3):∃c,dA (Str.cps "<=*").toList d=some c/\Sg #[(List.toArray [c])]:=by
 rcases(by omega:d=0∨d=1∨d=2) with rfl |rfl |rfl
 ·exact#[_,Z,QS]
 ·exact#[_,Z,DI]
 ·exact#[_,Z,Xp]
theorem Dj{P:Addr->Prop}(e:0<=d)(f:d < 2)(h:P a)(c:P b):∃x,dA [V.ref a,.ref b] d=some (.ref x)/\P x:=by
 rcases(by omega:d=0∨d=1) with rfl |rfl
 ·exact#[_,Z,h]
 ·exact#[_,Z,c]
theorem Dk{P:Addr->Prop}(g:0<=d)(i:d < 3)(h:P a)(e:P b)(f:P c):∃x,dA [V.ref a,.ref b,.ref c] d=some (.ref x)/\P x:=by
 rcases(by omega:d=0∨d=1∨d=2) with rfl |rfl |rfl
 ·exact#[_,Z,h]
 ·exact#[_,Z,e]
 ·exact#[_,Z,f]
theorem Dl{P:Addr->Prop}(h:P a)(d:P b)(c:Bool):∃x,dA [V.ref a,.ref b] (if c then 1 else 0)=some (.ref x)/\P x:=by
 cases c
 ·exact#[_,Z,h]
 ·exact#[_,Z,d]
def ci(Cf:gW)(H:Hp)(ys:List Str)(d:Nat)(v:V):Prop:=∃s,gN H v s/\(s.Ok ys/\s.Cs Cf)/\s.dep<=d/\s.size<=1+20*d
def gG(Cf:gW)(H:Hp)(ys:List Str)(d:Nat)(x:List V):Prop:=∃b,dn H b x/\(b.Ok ys/\b.Cs Cf)/\b.dep<=d/\b.size<=(1+20*d)*x.length
theorem ci.mono(h:ci Cf H ys d v)(m:al H a):ci Cf a ys d v:=let #[s,b,c]:=h;#[s,b.mono m,c]
theorem gG.mono(h:gG Cf H ys d x)(m:al H a):gG Cf a ys d x:=let #[s,b,c]:=h;#[s,b.mono m,c]
theorem ci.up(h:ci Cf H ys 0 v):ci Cf H ys d v:=let #[s,a,b,c,e]:=h;#[s,a,b,P0,P0]
theorem Ka:gG Cf H ys d []:=#[.nil,Z,#[trivial,trivial],Gp _,Gp _]
theorem Jd{xs:List V}(h:gG Cf H ys d xs)(g:gG Cf H ys d z):gG Cf H ys d (xs++z):=by
 obtain⟨a,c,A,f,i⟩:=h
 obtain⟨b,e,B,j,k⟩:=g
 refine#[a.app b,e.app c,#[J8 A.1 B.1,J7 A.2 B.2],by rw[ze];omega,?_]
 rw[jW,Gi,Nat.mul_add]
 omega
theorem zj(h:ci Cf H ys d v):gG Cf H ys d [v]:=by
 obtain⟨s,a,b,c,e⟩:=h
 exact#[s,a.bd,b,c,by show s.size<=(1+20*d)*1;omega]
theorem jV(h:ci Cf H ys d v)(g:gG Cf H ys d xs):gG Cf H ys d (v::xs):=Jd (xs:=[v]) (zj h) g
theorem Q7{l:Lf}(h:H p=some (.tup v))(a:uP H l v)(b:l.Ok ys)(c:l.Cs Cf):ci Cf H ys 0 (.ref p):=#[.lf p l .nil,.lf p l v h a,#[#[b,trivial],c,trivial],Gh 0,Gh 1]
theorem DO(h:H p=some (.tup [.str "read",.str x,.ref t]))(a:x∈ys)(b:gj H ys k t)(c:k < 6:=by decide):ci Cf H ys 0 (.ref p):=by
 obtain⟨T,d,e⟩:=b.ok c
 exact Q7 (l:=.rd x t T) h #[Z,d] #[a,e] trivial
theorem DP(h:H p=some (.tup [.str "set",.str x,.ref t]))(a:x∈ys)(b:gj H ys k t)(c:k < 6:=by decide):ci Cf H ys 0 (.ref p):=by
 obtain⟨T,d,e⟩:=b.ok c
 exact Q7 (l:=.st x t T) h #[Z,d] #[a,e] trivial
theorem DM(h:H p=some (.tup [.str "give",.ref t]))(a:gj H ys k t)(b:k < 6:=by decide):ci Cf H ys 0 (.ref p):=by
 obtain⟨T,c,d⟩:=a.ok b
 exact Q7 (l:=.gv t T) h #[Z,c] d trivial
theorem DQ(h:H p=some (.tup [.str "write",.ref t,.ref u]))(a:gj H ys k t)(b:gj H ys j u)(c:k < 6:=by decide)(d:j < 6:=by decide):ci Cf H ys 0 (.ref p):=by
 obtain⟨T,e,f⟩:=a.ok c
 obtain⟨U,g,i⟩:=b.ok d
 exact Q7 (l:=.wr t u T U) h #[Z,e,g] #[f,i] trivial
theorem DL{f:Str}(h:H p=some (.tup [.str "call",.str x,.str f,.ref q]))(b:x∈ys)(a:(f,2)∈Cf)(d:H q=some (.tup [.ref t,.ref u]))(e:gj H ys k t)(g:gj H ys j u)(i:k < 6:=by decide)(m:j < 6:=by decide):ci Cf H ys 0 (.ref p):=by
 obtain⟨T,n,o⟩:=e.ok i
 obtain⟨U,r,s⟩:=g.ok m
 refine Q7 (l:=.cl x f q [(t,T),(u,U)]) h #[Z,d,λc hc=>?_] #[b,(by show 2<=6;decide),λc hc=>?_] a
 ·rcases List.mem_cons.mp hc with rfl |hc
  ·exact n
  ·rw[List.mem_singleton.mp hc];exact r
 ·rcases List.mem_cons.mp hc with rfl |hc
  ·exact o
  ·rw[List.mem_singleton.mp hc];exact s
theorem DN(h:H p=some (.tup [.str "if",.ref t,.ref q,.ref Q]))(e:gj H ys k t)(f:H q=some (.tup A))(g:H Q=some (.tup B))(G:gG Cf H ys 0 A)(i:gG Cf H ys 0 B)(r:A.length+B.length<=20)(j:k < 6:=by decide):ci Cf H ys 1 (.ref p):=by
 obtain⟨T,l,m⟩:=e.ok j
 obtain⟨a,n,c,s,u⟩:=G
 obtain⟨b,o,d,v,x⟩:=i
 exact#[.ite p t T a b .nil,.ite p t T a b q Q A B h l f g n o,#[#[m,c.1,d.1,trivial],c.2,d.2,trivial],(by show max (max a.dep b.dep+1) 0<=1;omega),(by show a.size+b.size+0+1<=21;omega)]
theorem tS(h:H p=some (.tup [.str "while",.ref t,.ref q]))(c:gj H ys k t)(d:H q=some (.tup A))(g:gG Cf H ys 0 A)(l:A.length<=20)(e:k < 6:=by decide):ci Cf H ys 1 (.ref p):=by
 obtain⟨T,f,i⟩:=c.ok e
 obtain⟨a,j,b,m,n⟩:=g
 exact#[.loop p t T a .nil,.loop p t T a q A h f d j,#[#[i,b.1,trivial],b.2,trivial],(by show max (a.dep+1) 0<=1;omega),(by show a.size+0+1<=21;omega)]
def oI(Cf:gW)(n:Nat)(H:Hp)(r:Addr)(f:Str):Prop:=∃d:Df,xE H d (.ref r)/\(my d/\d.b.Cs Cf)/\∃p:List Str,H d.pa=some (.tup (p.map V.str))/\p.length=n/\d.f=f
theorem oI.mono(h:oI Cf n H r f)(m:al H a):oI Cf n a r f:=let #[d,b,c,p,e,g]:=h;#[d,b.mono m,c,p,m _ _ e,g]
theorem CC{f:Str}{p:List Str}(h:H r=some (.tup [.str f,.ref a,.ref b]))(d:H a=some (.tup (p.map V.str)))(e:p.length=n)(i:H b=some (.tup x))(g:gG Cf H ys 1 x)(l:x.length<=100)(j:ys.length<=20):oI Cf n H r f:=by
 obtain⟨c,k,C,m,o⟩:=g
 exact#[#[f,r,a,b,c],#[x,Z,h,i,k],#[#[#[ys,j,C.1],(by show c.dep < 8;omega),(by show c.size<=3000;omega)],C.2],p,d,e,Z]
structure Wd(H0 H:Hp)(p wl:Addr)(ys:List Str):Prop where
 B:aq H p
 K:aB p H0 H
 w:H wl=some (.lst (ys.map V.str))
theorem Wd.np(h:Wd b H p a ys):a≠p:=zY h.B h.w
theorem Wd.same(h:Wd a H p b ys)(s:ae H c):Wd a c p b ys:=#[h.B.same s,h.K.trans (aB.of_same s),s _ _ h.w]
theorem Wd.but(h:Wd b H p c ys)(B:aq a p)(k:aB p H a):Wd b a p c ys:=#[B,h.K.trans k,k _ _ h.np h.w]
theorem Wd.own{xs:List V}(h:Wd a H p b ys)(n:a l=none)(L:l≠p)(c:l≠b):Wd a (af H l (.lst z)) p b ys:=#[h.B.eq (ji (G7 L)),h.K.upd_own n,by rw[ji (G7 c)];exact h.w]
theorem QF(h:H l=some (.lst x)):al H (af H l (.lst a)):=λb u e=>by rw[ji (jP e h (by intro z;cases z))];exact e
end
inductive l7(d:List V)(H:Hp)(Q:VK)(c:XK):Prop
 |mk(p a b:Addr)(e:List Str)(k:Nat)(_:d=[.ref p,.ref a,.ref b])(_:aq H p)(_:gj H e k a)(_:gj H e k b)(_:∀(r:Addr) (H':Hp),gj H' e (k+1) r->aq H' p->aB p H H'->Q (.ref r) H')
inductive c7(n:Nat)(b:List V)(H:Hp)(Q:VK)(a:XK):Prop
 |mk(p c:Addr)(f g:Str)(d:List Str)(_:b=[.ref p,.str f,.str g,.ref c])(_:aq H p)(_:H c=some (.lst (d.map V.str)))(_:d.length=6)(_:∀(r:Addr) (H':Hp),oI [(g,2)] n H' r f->aq H' p->aB p H H'->Q (.ref r) H')
noncomputable abbrev EG:Stmt:=bL 69
noncomputable abbrev mV:Stmt:=bL 70
noncomputable abbrev gO:Stmt:=bL 71
noncomputable abbrev ff:Stmt:=bL 72
noncomputable abbrev sE:Stmt:=bL 73
theorem CV{A:List V}(h:A.length=5):∃a b c d e,A=[a,b,c,d,e]:=by
 cases A with
 |nil=>cases h
 |cons a r=>
  cases r with
  |nil=>cases h
  |cons b R=>
   cases R with
   |nil=>cases h
   |cons c f=>
    cases f with
    |nil=>cases h
    |cons d g=>
     cases g with
     |nil=>cases h
     |cons e i=>
      cases i with
      |nil=>exact#[a,b,c,d,e,Z]
      |cons _ _=>cases h
theorem FG{n:Nat}:mN (n+1) 0=some 0:=by unfold mN;rw[Gw PZ,Gw P0];rfl
theorem FH{n:Nat}:mN (n+2) 1=some 1:=by unfold mN;rw[Gw PZ,Gw P0];rfl
theorem iz:dA (v::u::y) 1=some u:=jH (j:=1) Z
structure Fw(p:Addr)(H H':Hp):Prop where
 t:al H H'
 b:aB p H H'
theorem Fw.refl:Fw p H H:=#[al.refl,aB.refl]
theorem Fw.trans(a:Fw p H h)(b:Fw p h c):Fw p H c:=#[a.t.trans b.t,a.b.trans b.b]
theorem Fw.new{p:Addr}{H:Hp}{o:HO}(n:H r=none):Fw p H (af H r o):=#[ae.tm (je n),aB.of_same (je n)]
theorem Fw.same(s:ae H h):Fw p H h:=#[ae.tm s,aB.of_same s]
theorem Fw.but(B:aq H p)(c:aB p H h):Fw p H h:=#[c.tm B,c]
def nC(P:Hp->V->Prop):Prop:=∀H h v,al H h->P H v->P h v
def Ev(a:Hp)(p W:Addr)(y:List Str)(b:Hp)(c:_L.St)(t:TE)(P:Hp->V->Prop):Prop:=∀(H:Hp) (Q:VK),Fw p b H->Wd a H p W y->(∀v h,P h v->Wd a h p W y->Fw p H h->Q v h)->t c H Q
def PT(y:List Str)(k:Nat)(H:Hp)(v:V):Prop:=∃a,v= .ref a/\gj H y k a
def PB(C:gW)(y:List Str)(d n:Nat)(H:Hp)(v:V):Prop:=∃a x,v= .ref a/\H a=some (.tup x)/\gG C H y d x/\x.length<=n
def PN(y:List Str)(_:Hp)(v:V):Prop:=∃x,v= .str x/\x∈y
def PG(_:Hp)(v:V):Prop:=∃s,v= .str s/\Sg s
def PP(n:Nat)(H:Hp)(v:V):Prop:=∃(a:Addr) (x:List Str),v= .ref a/\H a=some (.tup (x.map V.str))/\x.length=n
def uQ(y:Str)(_:Hp)(v:V):Prop:=v= .str y
def PD(C:gW)(n:Nat)(f:Str)(H:Hp)(v:V):Prop:=∃a,v= .ref a/\oI C n H a f
section
variable {Cf:gW}{ys:List Str}{H0 Hb:Hp}{p wl:Addr}{σ:_L.St}
theorem ar:nC (PT ys k):=λ_ _ _ m #[a,e,h]=>#[a,e,h.mono m]
theorem dB:nC (PB Cf ys d n):=λ_ _ _ m #[a,x,e,h,H,b]=>#[a,x,e,m _ _ h,H.mono m,b]
theorem dN:nC λH v=>ci Cf H ys d v:=λ_ _ _ m h=>h.mono m
theorem iR:nC (PD Cf n f):=λ_ _ _ m #[a,e,h]=>#[a,e,h.mono m]
theorem Ev.up{P R:Hp->V->Prop}(h:Ev H0 p wl ys Hb σ t P)(k:∀H v,P H v->R H v):Ev H0 p wl ys Hb σ t R:=λH Q m W q=>h H Q m W λv a x=>q v a (k _ _ x)
theorem jJ{P:Hp->V->Prop}(e:σ[i]?=some (some v))(M:nC P)(h:P Hb v):Ev H0 p wl ys Hb σ (a7 i) P:=λH Q m W q=>#[v,e,q v H (M _ _ _ m.t h) W .refl]
theorem zU(h:Sg s):Ev H0 p wl ys Hb σ (tC (.str s)) PG:=λH Q m W q=>q _ H #[s,Z,h] W .refl
theorem kI{K:Frag}(e:σ[j]?=some (some (.ref wl)))(a:0<=i)(b:i < (ys.length:Int)):Ev H0 p wl ys Hb σ (dG (iE K) (a7 j) (tC (.int i))) (PN ys):=λH Q m W q=>by
 obtain⟨y,c,h⟩:=J6 (ys:=ys) a b
 exact#[_,e,wl,_,_,_,Z,Z,aH.of W.w,h,q _ H #[y,Z,c] W .refl]
theorem ky{Q:VK}{P:Hp->V->Prop}(W:Wd H0 H p wl ys)(q:∀v h,P h v->Wd H0 h p wl ys->Fw p H h->Q v h)(n:H r=none)(x:al H (af H r o)->af H r o r=some o->P (af H r o) (.ref r)):Q (.ref r) (af H r o):=
 q _ _ (x (ae.tm (je n)) jc) (W.same (je n)) (.new n)
abbrev uH(n:Int):TE:=dF aZ [] E0 (am (a7 0) (am (tC (.int n)) aO))
def PK(n:Int)(_:Hp)(v:V):Prop:=∃d:Int,v= .int d/\0<=d/\d < n
theorem kK(e:σ[0]?=some (some (.ref p)))(h:1<=n)(c:n<=1000):Ev H0 p wl ys Hb σ (uH n) (PK n):=λH Q m W q=>
 #[_,e,p,n,Z,W.B,P0,P0,λd f D a b E=>q _ _ #[d,Z,D,a] (W.but b (aB.of_eq E)) (.but W.B (aB.of_eq E))]
theorem kA(h:Ev H0 p wl ys Hb σ t (PK n))(g:n<=1000000000000000000):Ev H0 p wl ys Hb σ (bX (am (tC (.str "num")) (am t aO))) (PT ys 0):=λH Q m W q=>
 h H _ m W λv i #[d,e,D,j] a b=>#[bN,λr N=>ky (P:=PT ys 0) a (λV c x f k=>q V c x f (b.trans k)) N λ_ z=>#[r,Z,BE (by rw[z,e]) D P0]]
theorem Qz(h:0<=n)(a:n < m):Ev H0 p wl ys Hb σ (tC (.int n)) (PK m):=λH Q _ W q=>q _ H #[n,Z,h,a] W .refl
theorem QG(h:Ev H0 p wl ys Hb σ t (PK n))(c:0<=m):Ev H0 p wl ys Hb σ (dG (uG λi j=>V.int (i+j)) (tC (.int m)) t) (PK (m+n)):=λH Q M W q=>
 h H _ M W λv a #[d,e,D,f] b k=>#[m,d,Z,e,q _ a #[m+d,Z,P0,P0] b k]
theorem JW(h:Ev H0 p wl ys Hb σ t (PN ys)):Ev H0 p wl ys Hb σ (bX (am (tC (.str "var")) (am t aO))) (PT ys 0):=λH Q m W q=>
 h H _ m W λv i #[d,e,a] b c=>#[bN,λr n=>ky (P:=PT ys 0) b (λV f x g k=>q V f x g (c.trans k)) n λ_ z=>#[r,Z,uk (by rw[z,e]) a]]
theorem zS{n:Nat}(h:Ev H0 p wl ys Hb σ T PG)(f:Ev H0 p wl ys Hb σ g (PT ys j))(i:Ev H0 p wl ys Hb σ l (PT ys k))(o:j < n)(u:k < n):Ev H0 p wl ys Hb σ (bX (am (tC (.str "op")) (am T (am g (am l aO))))) (PT ys n):=λH Q m W q=>
 h H _ m W λM v #[s,E,X] y c=>f v _ (m.trans c) y λO A #[a,B,C] D d=>i A _ ((m.trans c).trans d) D λR S #[b,F,G] I e=>#[oK,λr N=>ky (P:=PT ys n) I (λV J x L k=>q V J x L (((c.trans d).trans e).trans k)) N λt z=>
  #[r,Z,yp (by rw[z,E,B,F]) X ((C.mono e.t).mono t) (G.mono t) o u]]
theorem CM(e:σ[0]?=some (some (.ref p))):Ev H0 p wl ys Hb σ (dG wB (tC (.str "<=*")) (uH 3)) PG:=λH Q m W q=>
 kK e PZ PZ H _ m W λv h #[d,E,D,a] b k=>by
  obtain⟨g,i,x⟩:=wo D a
  exact#["<=*",d,g,Z,E,P6,i,q _ h #[_,Z,x] b k]
theorem YF{K:Frag}(e:σ[0]?=some (some (.ref p)))(r:Ev H0 p wl ys Hb σ T (PT ys k))(s:Ev H0 p wl ys Hb σ u (PT ys k)):Ev H0 p wl ys Hb σ (dG (iE K) (mj (am T (am u aO))) (uH 2)) (PT ys k):=λH Q m W q=>
 r H _ m W λV y #[a,E,X] z c=>s y _ (m.trans c) z λA C #[b,D,F] h f=>#[bN,λl n=>kK e PZ PZ _ _ (((m.trans c).trans f).trans (.new n)) (h.same (je n)) λv G #[d,I,J,L] M j=>by
  obtain⟨g,i,x⟩:=Dj (P:=gj C ys k) J L (X.mono f.t) F
  rw[<- E,<- D]at i
  have t:=(Fw.new (p:=p) (o:=HO.lst [V,A]) n).trans j
  exact#[l,_,d,_,Z,I,aH.of (j.b _ _ (h.B.ne n) jc),i,q _ G #[g,Z,x.mono t.t] M ((c.trans f).trans t)]]
theorem xN{K:Frag}(e:σ[0]?=some (some (.ref p)))(u:Ev H0 p wl ys Hb σ T (PT ys k))(y:Ev H0 p wl ys Hb σ z (PT ys k))(A:Ev H0 p wl ys Hb σ C (PT ys k)):Ev H0 p wl ys Hb σ (dG (iE K) (mj (am T (am z (am C aO)))) (uH 3)) (PT ys k):=λH Q m W q=>
 u H _ m W λV D #[a,E,X] F f=>y D _ (m.trans f) F λG I #[b,J,L] M h=>A I _ ((m.trans f).trans h) M λN O #[c,R,S] r j=>#[gn,λl n=>kK e PZ PZ _ _ ((((m.trans f).trans h).trans j).trans (.new n)) (r.same (je n)) λv U #[d,Y,d0,d1] W4 s=>by
  obtain⟨g,i,x⟩:=Dk (P:=gj O ys k) d0 d1 (X.mono (h.trans j).t) (L.mono j.t) S
  rw[<- E,<- J,<- R]at i
  have t:=(Fw.new (p:=p) (o:=HO.lst [V,G,N]) n).trans s
  exact#[l,_,d,_,Z,Y,aH.of (s.b _ _ (r.B.ne n) jc),i,q _ U #[g,Z,x.mono t.t] W4 (((f.trans h).trans j).trans t)]]
theorem CH{K:Frag}(e:σ[0]?=some (some (.ref p)))(r:1<=n)(s:n<=1000)(u:Ev H0 p wl ys Hb σ T (PT ys k))(y:Ev H0 p wl ys Hb σ z (PT ys k)):Ev H0 p wl ys Hb σ (dG (iE K) (mj (am T (am z aO))) (Eb (λX H Q=>(∃i,X=[V.int i]/\Q (V.int i) H)∨∃k,X=[V.bl k]/\Q (V.int (if k=true then 1 else 0)) H) (am (dG Do (uH n) (tC (.int 0))) aO))) (PT ys k):=λH Q m W q=>
 u H _ m W λA C #[a,E,D] F c=>y C _ (m.trans c) F λG I #[b,J,L] h f=>#[bN,λl N=>kK e r s _ _ (((m.trans c).trans f).trans (.new N)) (h.same (je N)) λv M #[d,O,S,U] R j=>by
  subst O
  refine#[Z,.inr #[_,Z,?_]]
  obtain⟨g,i,x⟩:=Dl (P:=gj I ys k) (D.mono f.t) L _
  rw[<- E,<- J]at i
  have t:=(Fw.new (p:=p) (o:=HO.lst [A,G]) N).trans j
  exact#[l,_,_,_,Z,Z,aH.of (j.b _ _ (h.B.ne N) jc),i,q _ M #[g,Z,x.mono t.t] R ((c.trans f).trans t)]]
theorem JX(e:σ[0]?=some (some (.ref p)))(h:Ev H0 p wl ys Hb σ T (PT ys k))(g:Ev H0 p wl ys Hb σ i (PT ys k)):Ev H0 p wl ys Hb σ (dF l7 [] E0 (am (a7 0) (am T (am i aO)))) (PT ys (k+1)):=λH Q m W q=>
 #[_,e,h H _ m W λv j #[a,E,x] l d=>g j _ (m.trans d) l λV y #[b,n,X] c f=>#[p,a,b,ys,k,by rw[E,n];rfl,c.B,x.mono f.t,X,λr o s u C=>q _ o #[r,Z,s] (c.but u C) ((d.trans f).trans (.but c.B C))]]
theorem vj{w:Str}{T a:TE}{A B R:Hp->V->Prop}(M:nC A)(d:nC B)(e:Ev H0 p wl ys Hb σ T A)(f:Ev H0 p wl ys Hb σ a B)(h:∀H r u v,H r=some (.tup [.str w,u,v])->A H u->B H v->R H (.ref r)):Ev H0 p wl ys Hb σ (bX (am (tC (.str w)) (am T (am a aO)))) R:=λH Q m W q=>
 e H _ m W λC g X i b=>f g _ (m.trans b) i λD E j l c=>#[gn,λr n=>ky (P:=R) l (λo s x y k=>q o s x y ((b.trans c).trans k)) n λt z=>h _ _ _ _ z (M _ _ _ t (M _ _ _ c.t X)) (d _ _ _ t j)]
theorem Ex{w:Str}{T:TE}{A R:Hp->V->Prop}(M:nC A)(a:Ev H0 p wl ys Hb σ T A)(h:∀H r u,H r=some (.tup [.str w,u])->A H u->R H (.ref r)):Ev H0 p wl ys Hb σ (bX (am (tC (.str w)) (am T aO))) R:=λH Q m W q=>
 a H _ m W λf g X b c=>#[bN,λr n=>ky (P:=R) b (λv d x e k=>q v d x e (c.trans k)) n λt z=>h _ _ _ z (M _ _ _ t X)]
theorem CD{w:Str}{T d e:TE}{A B C R:Hp->V->Prop}(M:nC A)(f:nC B)(g:nC C)(i:Ev H0 p wl ys Hb σ T A)(j:Ev H0 p wl ys Hb σ d B)(l:Ev H0 p wl ys Hb σ e C)(h:∀H r u v x,H r=some (.tup [.str w,u,v,x])->A H u->B H v->C H x->R H (.ref r)):Ev H0 p wl ys Hb σ (bX (am (tC (.str w)) (am T (am d (am e aO))))) R:=λH Q m W q=>
 i H _ m W λL n X o a=>j n _ (m.trans a) o λO s y D b=>l s _ ((m.trans a).trans b) D λS U E F c=>#[oK,λr N=>ky (P:=R) F (λG I x J k=>q G I x J (((a.trans b).trans c).trans k)) N λt z=>h _ _ _ _ _ z (M _ _ _ t (M _ _ _ (b.trans c).t X)) (f _ _ _ t (f _ _ _ c.t y)) (g _ _ _ t E)]
theorem y9:nC (PN ys):=λ_ _ _ _ h=>h
theorem JY{t T:TE}{k:Nat}(h:Ev H0 p wl ys Hb σ t (PN ys))(b:Ev H0 p wl ys Hb σ T (PT ys k))(c:k < 6):Ev H0 p wl ys Hb σ (bX (am (tC (.str "read")) (am t (am T aO)))) (λH v=>ci Cf H ys 0 v):=vj y9 ar h b λH r u v z #[x,e,d] #[a,E,f]=>DO (by rw[z,e,E]) d f c
theorem Jp{t T:TE}{k:Nat}(h:Ev H0 p wl ys Hb σ t (PN ys))(b:Ev H0 p wl ys Hb σ T (PT ys k))(c:k < 6):Ev H0 p wl ys Hb σ (bX (am (tC (.str "set")) (am t (am T aO)))) (λH v=>ci Cf H ys 0 v):=vj y9 ar h b λH r u v z #[x,e,d] #[a,E,f]=>DP (by rw[z,e,E]) d f c
theorem JZ{t T:TE}{j k:Nat}(h:Ev H0 p wl ys Hb σ t (PT ys j))(b:Ev H0 p wl ys Hb σ T (PT ys k))(c:j < 6)(d:k < 6):Ev H0 p wl ys Hb σ (bX (am (tC (.str "write")) (am t (am T aO)))) (λH v=>ci Cf H ys 0 v):=vj ar ar h b λH r u v z #[x,e,f] #[a,E,g]=>DQ (by rw[z,e,E]) f g c d
theorem Q8{t:TE}{k:Nat}(h:Ev H0 p wl ys Hb σ t (PT ys k))(b:k < 6):Ev H0 p wl ys Hb σ (bX (am (tC (.str "give")) (am t aO))) (λH v=>ci Cf H ys 0 v):=Ex ar h λH r v z #[a,e,c]=>DM (by rw[z,e]) c b
theorem pG{n o T c:TE}{j k:Nat}(C:Ev H0 p wl ys Hb σ n (PN ys)){f:Str}(D:Ev H0 p wl ys Hb σ o (uQ f))(d:(f,2)∈Cf)(F:Ev H0 p wl ys Hb σ T (PT ys j))(G:Ev H0 p wl ys Hb σ c (PT ys k))(I:j < 6)(J:k < 6):Ev H0 p wl ys Hb σ (bX (am (tC (.str "call")) (am n (am o (am (bX (am T (am c aO))) aO))))) (λH v=>ci Cf H ys 0 v):=by
 let R:Hp->V->Prop:=λH v=>∃q a b,v= .ref q/\H q=some (.tup [.ref a,.ref b])/\gj H ys j a/\gj H ys k b
 have M:nC R:=λ_ _ _ m #[q,a,b,e,g,L,i]=>#[q,a,b,e,m _ _ g,L.mono m,i.mono m]
 have N:Ev H0 p wl ys Hb σ (bX (am T (am c aO))) R:=λH Q m W q=>
  F H _ m W λv2 O #[a,E,X] S s=>G O _ (m.trans s) S λv3 H3 #[b,l,U] Y A=>#[bN,λr nr=>ky (P:=R) Y (λv' H' x W' k=>q v' H' x W' ((s.trans A).trans k)) nr λt z=>#[r,a,b,Z,by rw[z,E,l],(X.mono A.t).mono t,U.mono t]]
 exact CD y9 (B:=uQ f) (λ_ _ _ _ h=>h) M C D N λH r u v x z #[y,e1,g] (E:v= .str f) #[q,a,b,l,i,h4,h5]=>DL (f:=f) (by rw[z,e1,E,l]) g d i h4 h5 I J
theorem xM{t T b:TE}{k n m:Nat}(h:Ev H0 p wl ys Hb σ t (PT ys k))(c:Ev H0 p wl ys Hb σ T (PB Cf ys 0 n))(d:Ev H0 p wl ys Hb σ b (PB Cf ys 0 m))(e:k < 6)(s:n+m<=20):Ev H0 p wl ys Hb σ (bX (am (tC (.str "if")) (am t (am T (am b aO))))) (λH v=>ci Cf H ys 1 v):=
 CD ar dB dB h c d λH r u v x z #[a,E,f] #[Q,X,g,i,j,y] #[A,B,l,o,q,C]=>DN (by rw[z,E,g,l]) f i o j q P0 e
theorem xR{t T:TE}{k n:Nat}(h:Ev H0 p wl ys Hb σ t (PT ys k))(b:Ev H0 p wl ys Hb σ T (PB Cf ys 0 n))(c:k < 6)(i:n<=20):Ev H0 p wl ys Hb σ (bX (am (tC (.str "while")) (am t (am T aO)))) (λH v=>ci Cf H ys 1 v):=
 vj ar dB h b λH r u v z #[a,e,d] #[q,x,E,f,g,j]=>tS (by rw[z,e,E]) d f g P0 c
theorem xK{d:Nat}:Ev H0 p wl ys Hb σ (bX aO) (PB Cf ys d 0):=λH Q m W q=>#[iF,λr n=>ky (P:=PB Cf ys d 0) W q n λt z=>#[r,[],Z,z,Ka,Gh 0]]
theorem J1(h:Ev H0 p wl ys Hb σ T (λH v=>ci Cf H ys d v)):Ev H0 p wl ys Hb σ (bX (am T aO)) (PB Cf ys d 1):=λH Q m W q=>
 h H _ m W λf g X a b=>#[iG,λr n=>ky (P:=PB Cf ys d 1) a (λV c x e k=>q V c x e (b.trans k)) n λt z=>#[r,_,Z,z,zj (X.mono t),Gh 1]]
theorem YG(h:Ev H0 p wl ys Hb σ T (λH v=>ci Cf H ys d v))(c:Ev H0 p wl ys Hb σ e (λH v=>ci Cf H ys d v)):Ev H0 p wl ys Hb σ (bX (am T (am e aO))) (PB Cf ys d 2):=λH Q m W q=>
 h H _ m W λs f X g a=>c f _ (m.trans a) g λu y i j b=>#[bN,λr n=>ky (P:=PB Cf ys d 2) j (λV l x o k=>q V l x o ((a.trans b).trans k)) n λt z=>#[r,_,Z,z,jV ((X.mono b.t).mono t) (zj (i.mono t)),Gh 2]]
theorem CF(h:Ev H0 p wl ys Hb σ T (λH v=>ci Cf H ys d v))(e:Ev H0 p wl ys Hb σ f (λH v=>ci Cf H ys d v))(g:Ev H0 p wl ys Hb σ i (λH v=>ci Cf H ys d v)):Ev H0 p wl ys Hb σ (bX (am T (am f (am i aO)))) (PB Cf ys d 3):=λH Q m W q=>
 h H _ m W λC j X l a=>e j _ (m.trans a) l λD n o s b=>g n _ ((m.trans a).trans b) s λE F u y c=>#[gn,λr N=>ky (P:=PB Cf ys d 3) y (λV A x B k=>q V A x B (((a.trans b).trans c).trans k)) N λt z=>#[r,_,Z,z,jV ((X.mono (b.trans c).t).mono t) (jV ((o.mono c.t).mono t) (zj (u.mono t))),Gh 3]]
theorem qt(h:Ev H0 p wl ys Hb σ T (PB Cf ys d n))(e:Ev H0 p wl ys Hb σ f (PB Cf ys d m))(B:n+m<=100):Ev H0 p wl ys Hb σ (dG sq T f) (PB Cf ys d (n+m)):=λH Q M W q=>
 h H _ M W λV g #[a,x,E,i,X,L] j c=>e g _ (M.trans c) j λC D #[b,z,l,o,u,F] v k=>#[a,b,x,z,E,l,k.t _ _ i,o,Gr (show x.length+z.length<=100 by omega) PZ,λr y A s=>q _ y #[r,_,Z,A,Jd ((X.mono k.t).mono (ae.tm s)) (u.mono (ae.tm s)),by rw[Gi];omega] (v.same s) ((c.trans k).trans (.same s))]
theorem K2(e:σ[i]?=some (some (.str x))):Ev H0 p wl ys Hb σ (a7 i) (uQ x):=jJ e (λ_ _ _ _ h=>h) Z
theorem YH(h:Ev H0 p wl ys Hb σ T (uQ f))(g:Ev H0 p wl ys Hb σ i (PP m))(j:Ev H0 p wl ys Hb σ l (PB Cf ys 1 n))(O:n<=100)(o:ys.length<=20):Ev H0 p wl ys Hb σ (bX (am T (am i (am l aO)))) (PD Cf m f):=λH Q M W q=>
 h H _ M W λv s (E:v= .str f) u c=>g s _ (M.trans c) u λR y #[a,S,A,B,L] C d=>j y _ ((M.trans c).trans d) C λU Y #[b,xs,D,F,X,l4] G e=>#[gn,λr N=>ky (P:=PD Cf m f) G (λV I x J k=>q V I x J (((c.trans d).trans e).trans k)) N λt z=>
  #[r,Z,CC (f:=f) (by rw[z,E,A,D]) (t _ _ (e.t _ _ B)) L (t _ _ F) (X.mono t) P0 o]]
theorem xO(h:Ev H0 p wl ys Hb σ T (PN ys)):Ev H0 p wl ys Hb σ (bX (am T aO)) (PP 1):=λH Q m W q=>
 h H _ m W λV f #[X,e,_] a b=>#[iG,λr n=>ky (P:=PP 1) a (λv c x d k=>q v c x d (b.trans k)) n λt z=>#[r,[X],Z,by rw[z,e];rfl,Z]]
theorem xP(h:Ev H0 p wl ys Hb σ T (PN ys))(b:Ev H0 p wl ys Hb σ c (PN ys)):Ev H0 p wl ys Hb σ (bX (am T (am c aO))) (PP 2):=λH Q m W q=>
 h H _ m W λV d #[X,e,_] f a=>b d _ (m.trans a) f λs u #[g,E,_] i j=>#[bN,λr n=>ky (P:=PP 2) i (λv l x o k=>q v l x o ((a.trans j).trans k)) n λt z=>#[r,[X,g],Z,by rw[z,e,E];rfl,Z]]
theorem ci.lift(h:ci Cf H ys 0 v):ci Cf H ys 1 v:=h.up
theorem PB.lift(h:PB Cf ys 0 n H v):PB Cf ys 1 n H v:=let #[a,x,e,c,#[b,B,d,g,i],f]:=h;#[a,x,e,c,#[b,B,d,P0,P0],f]
theorem PB.more(h:PB Cf ys d n H v)(k:n<=m):PB Cf ys d m H v:=let #[a,x,e,b,c,f]:=h;#[a,x,e,b,c,Gr f k]
theorem qA{a b:TS}(W:Wd H0 H p wl ys)(e:σ[0]?=some (some (.ref p)))(g:1<=n)(i:n<=1000)(j:∀h,Wd H0 h p wl ys->Fw p H h->a D σ h)(l:∀h,Wd H0 h p wl ys->Fw p H h->b D σ h):gD (iO (dG Do (uH n) (tC (.int 0)))) a b D σ H:=
 kK (Hb:=H) e g i H _ .refl W λv c #[d,E,m,o] f k=>by
  subst E
  exact#[Z,_,Z,bP (λ_=>j c f k) (λ_=>l c f k)]
theorem jS{D:a9}{P:Hp->V->Prop}(W:Wd H0 H p wl ys)(h:Ev H0 p wl ys H σ t P)(q:∀v a,P a v->Wd H0 a p wl ys->Fw p H a->D.nx (σ.set i (some v)) a):dO t (bu i) D σ H:=h H _ .refl W q
theorem QH{D:a9}{P:Hp->V->Prop}(W:Wd H0 H p wl ys)(h:Ev H0 p wl ys H σ t P)(q:∀v a,P a v->Wd H0 a p wl ys->D.rt v a):gE t D σ H:=h H _ .refl W λv a x b _=>q v a x b
theorem wV{K:Frag}{D:a9}(W:Wd H0 H p wl ys)(d:Ev H0 p wl ys H σ T (PT ys 0))(e:Ev H0 p wl ys H σ f (PT ys 0))(g:Ev H0 p wl ys H σ l (PT ys 0))
  (q:∀u v w h,PT ys 0 h u->PT ys 0 h v->PT ys 0 h w->Wd H0 h p wl ys->Fw p H h->D.nx (((σ.set k (some w)).set j (some v)).set i (some u)) h):yj K (bX (am T (am f (am l aO)))) i j k D σ H:=
 d H _ .refl W λV m x o a=>e m _ a o λs y X z b=>g y _ (a.trans b) z λA E B C c=>#[gn,λr n=>#[r,_,_,_,Z,aw.of jc,q V s A _ (ar _ _ _ (ae.tm (je n)) (ar _ _ _ (b.trans c).t x)) (ar _ _ _ (ae.tm (je n)) (ar _ _ _ c.t X)) (ar _ _ _ (ae.tm (je n)) B) (C.same (je n)) (((a.trans b).trans c).trans (.new n))]]
structure Ow(H0 H:Hp)(p wl l:Addr)(xs:List V):Prop where
 hl:H l=some (.lst xs)
 np:l≠p
 lw:l≠wl
 l0:H0 l=none
theorem Ow.fw(o:Ow H0 H p wl l x)(k:Fw p H h):Ow H0 h p wl l x:=#[k.b _ _ o.np o.hl,o.np,o.lw,o.l0]
theorem Ow.new(W:Wd H0 H p wl ys)(n:H l=none):Ow H0 (af H l (.lst x)) p wl l x:=#[jc,W.B.ne n,(λe=>by have z:=W.w;rw[<- e,n]at z;cases z),W.K.none W.B n]
theorem Dh{D:a9}(W:Wd H0 H p wl ys)(b:Ev H0 p wl ys H σ t (λH v=>ci Cf H ys 0 v))(q:∀l v h,Ow H0 h p wl l [v]->ci Cf h ys 0 v->Wd H0 h p wl ys->Fw p H h->D.nx (σ.set i (some (.ref l))) h):dO (mj (am t aO)) (bu i) D σ H:=
 b H _ .refl W λV c x a k=>#[iG,λl n=>q l V _ (.new a n) (x.mono (ae.tm (je n))) (a.same (je n)) (k.trans (.new n))]
theorem Di{D:a9}(W:Wd H0 H p wl ys)(c:Ev H0 p wl ys H σ T (λH v=>ci Cf H ys 0 v))(d:Ev H0 p wl ys H σ e (λH v=>ci Cf H ys 0 v))(q:∀l u v h,Ow H0 h p wl l [u,v]->ci Cf h ys 0 u->ci Cf h ys 0 v->Wd H0 h p wl ys->Fw p H h->D.nx (σ.set i (some (.ref l))) h):dO (mj (am T (am e aO))) (bu i) D σ H:=
 c H _ .refl W λV f x g k=>d f _ k g λj m X a b=>#[bN,λl n=>q l V j _ (.new a n) ((x.mono b.t).mono (ae.tm (je n))) (X.mono (ae.tm (je n))) (a.same (je n)) ((k.trans b).trans (.new n))]
theorem Je{K:Frag}{D:a9}(W:Wd H0 H p wl ys)(a:σ[i]?=some (some (.ref l)))(o:Ow H0 H p wl l xs)(b:xs.length<=100)(c:Ev H0 p wl ys H σ T (λH v=>ci Cf H ys 0 v))
  (q:∀v h,ci Cf h ys 0 v->Ow H0 h p wl l (xs++[v])->Wd H0 h p wl ys->al H h->D.nx σ h):on (EO K "list" iT (a7 i) (am T aO)) D σ H:=
 #[_,a,.inl #[Z,_,aH.of o.hl],c H _ .refl W λv e x d k=>#[l,xs,v,Z,Z,(o.fw k).hl,HZ b PZ,q v _ (x.mono (QF (o.fw k).hl)) #[jc,o.np,o.lw,o.l0] (d.own (xs:=xs) o.l0 o.np o.lw) (k.t.trans (QF (o.fw k).hl))]]
theorem xh{K:Frag}{D:a9}(W:Wd H0 H p wl ys)(h:σ[i]?=some (some (.ref l)))(o:Ow H0 H p wl l (u::v::z))
  (q:∀a,Ow H0 a p wl l (v::u::z)->Wd H0 a p wl ys->al H a->D.nx σ a):dO (bX (am (dG (iE K) (a7 i) (tC (.int 1))) (am (dG (iE K) (a7 i) (tC (.int 0))) aO))) (oC K 2 (dh (yO (a7 i) (tC (.int 0)) nL) (dh (yO (a7 i) (tC (.int 1)) nL) pN))) D σ H:=
 #[_,h,l,_,_,_,Z,Z,aH.of o.hl,iz,_,h,l,_,_,_,Z,Z,aH.of o.hl,eG,bN,λt N=>#[t,_,Z,aw.of jc,Z,_,_,Z,_,h,l,_,0,0,Z,Z,ao o.hl N,FG (n:=z.length+1),_,_,Z,_,h,l,_,1,1,Z,Z,jc,FH (n:=z.length),Z,
  q _ #[jc,o.np,o.lw,o.l0] (((W.same (je N)).own (xs:=u::v::z) o.l0 o.np o.lw).own (xs:=u::v::z) o.l0 o.np o.lw) (((ae.tm (je N)).trans (QF (ao o.hl N))).trans (QF jc))]]
theorem xQ{K:Frag}{n:Nat}(e:σ[i]?=some (some (.ref l)))(o:Ow H0 Hb p wl l x)(h:gG Cf Hb ys 0 x)(a:x.length<=n):Ev H0 p wl ys Hb σ (Eb (λx H Q=>∃p ys,x=[V.ref p]/\((aH K H p ys/\∀(l:Addr),H l=none->Q (V.ref l) (af H l (HO.tup ys)))∨aw K H p ys/\Q (V.ref p) H)) (am (a7 i) aO)) (PB Cf ys 0 n):=λH Q m W q=>
 #[_,e,l,x,Z,.inl #[aH.of (o.fw m).hl,λr N=>ky (P:=PB Cf ys 0 n) W q N λt z=>#[r,x,Z,z,(h.mono m.t).mono t,a]]]
theorem yD{D:a9}(W:Wd H0 H p wl ys)(u:σ[i]?=some (some (.ref l)))(y:σ[j]?=some (some (.ref m)))(o:Ow H0 H p wl l x)(O:Ow H0 H p wl m z)(C:x.length+z.length<=100)(E:gG Cf H ys 0 x)(F:gG Cf H ys 0 z)
  (G:Ev H0 p wl ys H σ T (λH v=>ci Cf H ys 0 v)) (I:Ev H0 p wl ys H σ J (λH v=>ci Cf H ys 0 v)) (q:∀r U h,Ow H0 h p wl r U->gG Cf h ys 0 U->U.length<=x.length+z.length+2->Wd H0 h p wl ys->Fw p H h->D.nx (σ.set i (some (.ref r))) h):
  dO (dG wA (dG wA (a7 i) (a7 j)) (mj (am T (am J aO)))) (bu i) D σ H:=
 #[_,u,_,y,l,m,_,_,Z,Z,o.hl,O.hl,Gr C PZ,λc n=>G _ _ (.new n) (W.same (je n)) λV L X M k=>I L _ ((Fw.new n).trans k) M λe R Q A s=>#[bN,λd N=>#[c,d,_,_,Z,Z,ao ((k.trans s).b _ _ (W.B.ne n) jc) N,jc,by
  have:=aE
  show(x++z).length+2<=sizeLine
  rw[Gi]
  omega,λr a=>q r _ _ (.new (A.same (je N)) a) (by
   have f:=(((Fw.new n).trans k).trans s).trans ((Fw.new (p:=p) (o:=HO.lst [V,e]) N).trans (Fw.new (o:=HO.lst ((x++z)++[V,e])) a))
   have g:=(Fw.new (p:=p) (o:=HO.lst [V,e]) N).trans (Fw.new (o:=HO.lst ((x++z)++[V,e])) a)
   exact Jd (Jd (E.mono f.t) (F.mono f.t)) (jV ((X.mono s.t).mono g.t) (zj (Q.mono g.t)))) (by rw[Gi,Gi];exact Gh _) ((A.same (je N)).same (je a)) ((((Fw.new n).trans k).trans s).trans ((Fw.new N).trans (Fw.new a)))]]]
theorem Y5{K:Frag}{D:a9}(W:Wd H0 H p wl ys)(k:σ[3]?=some (some (.ref wl)))(l:ys.length=6)
  (q:∀a b c d e g,PT ys 0 g a->PT ys 0 g b->PT ys 0 g c->PT ys 0 g d->PT ys 0 g e->Wd H0 g p wl ys->D.nx (((((σ.set 4 (some a)).set 5 (some b)).set 6 (some c)).set 7 (some d)).set 8 (some e)) g):
  dO (tV (xU K (BR (wC K) (a7 3) lE (mn (tC (V.int 5))))) 1 [] (bu 0) lD (bX (am (tC (V.str "var")) (am (a7 0) aO)))) (Ey K 5 (dh (bu 4) (dh (bu 5) (dh (bu 6) (dh (bu 7) (dh (bu 8) pN)))))) D σ H:=by
 have B:=aE
 refine#[_,k,_,Z,wl,_,Z,aH.of W.w,λs n=>?_]
 have E:aX (ys.map V.str) none (some 5)=(ys.take 5).map V.str:=by rw[show(5:Int)=((5:Nat):Int) from Z,Cw (by rw[Gg];omega),Lx]
 have t:af H s (.lst (aX (ys.map V.str) none (some 5))) s=some (.lst ((ys.take 5).map V.str)):=by rw[E];exact jc
 have S:=je (o:=HO.lst (aX (ys.map V.str) none (some 5))) n
 generalize af H s (.lst (aX (ys.map V.str) none (some 5)))=A at t S
 refine#[s,Z,#[_,aH.of t],?_]
 refine ZS (K:=K) (a:=s) (xs:=(ys.take 5).map V.str) (by rw[Gg,GV];omega) (λi j g=>j.length=i/\(∀v∈j,PT ys 0 g v)/\ae A g) #[Z,(λ_ h=>absurd h GU),ae.refl _] (λi j g h=>#[aH.of (h.2.2 _ _ t),MD h.1]) (λi x j g C h=>?_) (λj F h L N=>?_)
 ·obtain⟨y,l,rfl⟩:=List.mem_map.mp (GP C)
  exact#[_,Z,bN,λr u=>#[by rw[Gi,h.1];rfl,qR (λa z=>ar _ _ _ (ae.tm (je u)) (h.2.1 a z)) #[r,Z,uk jc (Ht l)],h.2.2.trans (je u)]]
 ·have e:=h.1
  rw[Gg,GV]at e
  obtain⟨a,b,c,d,f,rfl⟩:=CV (show j.length=5 by omega)
  have m:=ae.tm (je (o:=HO.lst [a,b,c,d,f]) N)
  exact#[L,_,Z,aH.of jc,Z,_,_,Z,_,_,Z,_,_,Z,_,_,Z,_,_,Z,Z,q a b c d f _ (ar _ _ _ m (h.2.1 a P5)) (ar _ _ _ m (h.2.1 b P5)) (ar _ _ _ m (h.2.1 c P5)) (ar _ _ _ m (h.2.1 d P5)) (ar _ _ _ m (h.2.1 f P5)) (((W.same S).same h.2.2).same (je N))]
end
theorem EH:aj z17z z17z (aa EG):=bK
theorem C9(F:aN K "_law_op" "_law_op" EG f t)(C:Cl P w K mg base 1 T u z0z aZ "_law_take"):ah P w K mg base ay 2 f t z17z l7:=by
 refine F.ok EH ?_ λv A O s H V Q E x h=>?_
 ·rintro _ _ _ _ ⟨p,a,b,y,k,rfl,_⟩
  rfl
 obtain⟨p,a,b,y,k,rfl,B,z,D,q⟩:=h
 refine#[_,(jg (jo (jh (ja jm (ja (jr jq (jF (ja jm (ja jm (ja jm (ja jm jb))))) (C.e x.m (ja (pv 0) (ja jf jb))) (λ_ _=>Z)) (ja (pv 1) (ja (pv 2) jb))))))),?_]
 refine#[oK,λl n=>#[_,Z,p,4,Z,B.upd_new n,PZ,PZ,λd G I J L j=>?_]]
 obtain⟨s,c,M⟩:=wq I J
 have g:aB p H G:=((aB.refl).upd_new n).trans (aB.of_eq j)
 refine#[l,_,_,_,Z,Z,aH.of (by rw[j l (B.ne n)];exact jc),c,_,Z,_,Z,oK,λr N=>?_]
 have S:=je (o:=HO.tup [.str "op",.str s,.ref a,.ref b]) N
 exact q r _ (yp jc M ((z.mono (g.tm B)).mono (ae.tm S)) ((D.mono (g.tm B)).mono (ae.tm S)) (HR _) (HR _)) (L.upd_new N) (g.trans (aB.of_same S))
theorem bQ:aj ["_law_box_here","_law_f","_law_g","_law_w","_law_x","_law_i","_law_y","_law_spot_here","_law_body_here","_law_deeper","_law_test","_law_early","_law_last"] z34z (aa mV):=bK
theorem rL(F:aN K "_law_inner" "_law_inner" mV f fd)(I:Cl P w K mg base 1 fT c0 z0z aZ "_law_take")(cO:Cl P w K mg base 2 fO c1 z17z l7 "_law_op"):ah P w K mg base ay 3 f fd z34z (c7 2):=by
 refine F.ok bQ ?_ λc2 A o1 s H vs Q E l h=>?_
 ·rintro _ _ _ _ ⟨p,T,f0,g,Y,rfl,_⟩
  rfl
 obtain⟨p,T,f0,g,Y,rfl,B,hw,h2,q⟩:=h
 refine#[_,(jd (@wt _ _ _ _ _ _ _ _ (4) (5) (6) Z bQ.nd Z Z Z (Or.inl Z) (Or.inl Z) (Or.inl Z) (jh (ja (jh (ja jm (ja (jr jq (pv 3) jf (λ_ _=>Z)) jb))) (ja (jh (ja jm (ja (jr jq (pv 3) jf (λ_ _=>Z)) jb))) (ja (jh (ja jm (ja (jr jq (pv 3) jf (λ_ _=>Z)) jb))) jb)))) (by first |exact .inl Z |exact .inr Z) (by first |exact .inl Z |exact .inr Z) (by first |exact .inl Z |exact .inr Z) P7 P7) (jd (jy 7 bQ.nd (jh (ja jm (ja jm (ja (jr jq (jF (ja (pv 4) (ja (pv 5) jb))) (I.e l.m (ja (pv 0) (ja jf jb))) (λ_ _=>Z)) (ja (jh (ja jm (ja (I.e l.m (ja (pv 0) (ja jf jb))) jb))) jb)))))) (jd (jy 8 bQ.nd (jh (ja (jh (ja jm (ja (jr jq (pv 3) jf (λ_ _=>Z)) (ja (pv 7) jb)))) jb))) (jd (j3 (jv (za (I.e l.m (ja (pv 0) (ja jf jb)))) (jd (jy 7 bQ.nd (jh (ja jm (ja jm (ja (pv 5) (ja (jh (ja jm (ja (ju jY jf (I.e l.m (ja (pv 0) (ja jf jb)))) jb))) jb)))))) (jg (jy 8 bQ.nd (ju jZ (pv 8) (jh (ja (jh (ja jm (ja (pv 7) (ja (cO.e l.m (ja (pv 0) (ja (pv 4) (ja (pv 6) jb)))) jb)))) jb)))))) jp)) (jd (j3 (jv (za (I.e l.m (ja (pv 0) (ja jf jb)))) (jd (jy 9 bQ.nd (jh (ja jm (ja (jr jq (pv 3) jf (λ_ _=>Z)) (ja (pv 2) (ja (jh (ja (jh (ja jm (ja jm (ja (pv 5) (ja (jh (ja jm (ja jf jb))) jb))))) (ja (pv 6) jb))) jb)))))) (jg (jy 8 bQ.nd (ju jZ (pv 8) (jh (ja (jh (ja jm (ja (pv 5) (ja (jh (ja (pv 9) jb)) (ja (jh jb) jb))))) jb)))))) jp)) (jd (jy 10 bQ.nd (jh (ja jm (ja (jr J5 jm (I.e l.m (ja (pv 0) (ja jf jb))) (λ_ _=>Z)) (ja (pv 6) (ja (jh (ja jm (ja (I.e l.m (ja (pv 0) (ja jf jb))) jb))) jb)))))) (jd (jy 11 bQ.nd (jh (ja jm (ja (cO.e l.m (ja (pv 0) (ja (pv 4) (ja (pv 6) jb)))) jb)))) (jd (jy 12 bQ.nd (jh (ja jm (ja (cO.e l.m (ja (pv 0) (ja (pv 6) (ja (pv 5) jb)))) jb)))) (jd (jy 8 bQ.nd (ju jZ (pv 8) (jh (ja (jh (ja jm (ja (pv 10) (ja (jh (ja (pv 11) jb)) (ja (jh jb) jb))))) (ja (pv 12) jb))))) (jg (jo (jh (ja (pv 1) (ja (jh (ja (jr jq (pv 3) jf (λ_ _=>Z)) (ja (jr jq (pv 3) jf (λ_ _=>Z)) jb))) (ja (pv 8) jb))))))))))))))),?_]
 have W0:Wd H H p T Y:=#[B,aB.refl,hw]
 refine ai λF1 f1=>wV W0 (JW (kI Z PZ P0)) (JW (kI Z PZ P0)) (JW (kI Z PZ P0)) λvx vi vy J xx X U W1 k1=>f1 _ _ ?_
 refine ai λF2 f2=>jS W1 (zS (n:=1) (zU zf) (YF Z (jJ Z ar xx) (jJ Z ar X)) (kA (kK Z PZ PZ) PZ) PZ PZ) λv2 H2 x2 W2 k2=>f2 _ _ ?_
 refine ai λF3 f3=>jS W2 (J1 (JY (Cf:=[(g,2)]) (kI Z PZ P0) (jJ Z ar x2) PZ)) λv3 H3 x3 W3 k3=>f3 _ _ ?_
 refine ai λF4 f4=>dw (λL u=>∃(o:Option V) (b:V),L=[some (V.ref p),some (V.str f0),some (V.str g),some (V.ref T),some (vx),some (vi),some (vy),o,some b,none,none,none,none]/\PB [(g,2)] Y 1 2 u b/\Wd H u p T Y/\al H3 u) (λE4 _ f5=>qA W3 Z PZ PZ (λH6 W6 k6=>?_) (λH6 W6 k6=>?_)) λσ0 H5 h0=>?_
 ·clear f4
  have C:al J H6:=((k2.t.trans k3.t).trans k6.t)
  refine ai λF7 f7=>jS W6 (zS (n:=1) (zU zf) (jJ Z ar (ar _ _ _ C X)) (kA (QG (kK Z PZ PZ) PZ) PZ) PZ PZ) λv7 H7 x7 W7 k7=>f7 _ _ ?_
  have D:al H3 H7:=(k6.t.trans k7.t)
  have G:al J H7:=(C.trans k7.t)
  refine jS W7 (qt (jJ Z dB (dB _ _ _ D x3)) (J1 (JZ (Cf:=[(g,2)]) (jJ Z ar x7) (JX Z (jJ Z ar (ar _ _ _ G xx)) (jJ Z ar (ar _ _ _ G U))) PZ PZ)) PZ) λv8 H8 x8 W8 k8=>f5 _ _ ?_
  have m0:al H3 H8:=(D.trans k8.t)
  exact#[_,_,Z,(PB.lift x8),W8,m0]
 ·clear f4
  exact f5 _ _ #[_,_,Z,(PB.more (PB.lift (dB _ _ _ k6.t x3)) PZ),W6,k6.t]
 obtain⟨o5,b5,rfl,x5,W5,k5⟩:=h0
 refine f4 _ _ ?_
 clear f4
 refine ai λF9 f9=>dw (λL u=>∃(o:Option V) (b:V),L=[some (V.ref p),some (V.str f0),some (V.str g),some (V.ref T),some (vx),some (vi),some (vy),o5,some b,o,none,none,none]/\PB [(g,2)] Y 1 3 u b/\Wd H u p T Y/\al H5 u) (λE9 _ f6=>qA W5 Z PZ PZ (λH0 W k=>?_) (λH0 W k=>?_)) λσ1 H4 h1=>?_
 ·clear f9
  have M:al J H0:=(((k2.t.trans k3.t).trans k5).trans k.t)
  refine ai λF0 f'=>jS W (pG (Cf:=[(g,2)]) (kI Z PZ P0) (K2 Z) GF (zS (n:=1) (zU Xo) (jJ Z ar (ar _ _ _ M X)) (kA (Qz PZ (by decide:(1:Int) < 2)) PZ) PZ PZ) (jJ Z ar (ar _ _ _ M U)) PZ PZ) λv1 H9 x0 W4 k0=>f' _ _ ?_
  have c:al H5 H9:=(k.t.trans k0.t)
  have N:al J H9:=(M.trans k0.t)
  refine jS W4 (qt (jJ Z dB (dB _ _ _ c x5)) (J1 (xM (jJ Z ar (ar _ _ _ N X)) (J1 (jJ Z dN x0)) (xK (Cf:=[(g,2)]) (d:=0)) PZ PZ)) PZ) λv4 a2 x1 W9 k9=>f6 _ _ ?_
  have O:al H5 a2:=(c.trans k9.t)
  exact#[_,_,Z,x1,W9,O]
 ·clear f9
  exact f6 _ _ #[_,_,Z,(PB.more (dB _ _ _ k.t x5) PZ),W,k.t]
 obtain⟨o2,c3,rfl,x4,a3,k'⟩:=h1
 refine f9 _ _ ?_
 clear f9
 have i:al J H4:=(((k2.t.trans k3.t).trans k5).trans k')
 refine ai λF5 a4=>jS a3 (zS (n:=1) (CM Z) (jJ Z ar (ar _ _ _ i U)) (kA (kK Z PZ PZ) PZ) PZ PZ) λv5 a0 x9 a' k4=>a4 _ _ ?_
 have a:al J a0:=(i.trans k4.t)
 refine ai λF6 b0=>jS a' (Q8 (Cf:=[(g,2)]) (JX Z (jJ Z ar (ar _ _ _ a xx)) (jJ Z ar (ar _ _ _ a U))) PZ) λv9 b1 x' b2 R=>b0 _ _ ?_
 have j:al J b1:=(a.trans R.t)
 refine ai λc4 b3=>jS b2 (Q8 (Cf:=[(g,2)]) (JX Z (jJ Z ar (ar _ _ _ j U)) (jJ Z ar (ar _ _ _ j X))) PZ) λv' a1 b4 b7 S=>b3 _ _ ?_
 have y:al H4 a1:=((k4.t.trans R.t).trans S.t)
 have z:al a0 a1:=(R.t.trans S.t)
 refine ai λc5 b8=>jS b7 (qt (jJ Z dB (dB _ _ _ y x4)) (YG (xM (jJ Z ar (ar _ _ _ z x9)) (J1 (jJ Z dN (dN _ _ _ S.t x'))) (xK (Cf:=[(g,2)]) (d:=0)) PZ PZ) (Ev.up (jJ Z dN b4) λ_ _=>ci.lift)) PZ) λc6 c9 b9 b' c'=>b8 _ _ ?_
 refine QH b' (YH (K2 Z) (xP (kI Z PZ P0) (kI Z PZ P0)) (jJ Z dB b9) PZ P0) λv u x W'=>?_
 obtain⟨r,rfl,x⟩:=x
 exact q r u x W'.B W'.K
theorem bq:aj z38z z19z (aa gO):=bK
noncomputable def KZ:Scope:=#[.function,[(".0",.local),("_law_one",.local)],false,false,[]]
theorem Yy:(["_law_one"]:List Str).Nodup:=by decide+kernel
theorem Yz:bG z38z (aa gO) KZ ["_law_one"] 1 []:=oY
theorem ZW(F:aN K "_law_looped" "_law_looped" gO f fd)(C:Cl P w K mg base 1 fT d6 z0z aZ "_law_take")(cO:Cl P w K mg base 2 fO d7 z17z l7 "_law_op")(mi:mg "int"=none)(m6:mg "tuple"=none):ah P w K mg base ay 3 f fd z19z (c7 1):=by
 refine F.ok bq ?_ λd8 A b2 s H vs Q E l h=>?_
 ·rintro _ _ _ _ ⟨p,W,f0,g,Y,rfl,_⟩
  rfl
 obtain⟨p,W,f0,g,Y,rfl,B,hw,h2,q⟩:=h
 refine#[_,(jd (zb (@zd _ _ _ _ _ _ _ (["_law_one"]) (1) ([]) _ _ _ _ Z (qH (jG kh (pv 3) jU (jE jf))) Yz (λ_ _ _ _ _=>(jw (i:=0) Yy Z (Or.inl Z))) (λ_ _ _ _ _=>(@zA _)) (λ_ _ _ _ _=>(jh (ja jm (ja (pv 0) jb)))) (by intro _;rfl)) (@YU _ _ _ _ (5) _ Z (jB (jw (i:=4) bq.nd Z (Or.inl Z)) (jB (jw (i:=5) bq.nd Z (Or.inl Z)) (jB (jw (i:=6) bq.nd Z (Or.inl Z)) (jB (jw (i:=7) bq.nd Z (Or.inl Z)) (jB (jw (i:=8) bq.nd Z (Or.inl Z)) kN))))) P7 P7)) (jd (jy 9 bq.nd (jF (ja (jh (ja jm (ja (jr jq (pv 3) jf (λ_ _=>Z)) (ja (jh (ja jm (ja jm (ja (pv 5) (ja (jh (ja jm (ja (C.e l.m (ja (pv 0) (ja jf jb))) jb))) jb))))) jb)))) jb))) (jd (jO (kn Gx GS GQ jR (pv 9) (ja (jh (ja jm (ja (jr jq (pv 3) jf (λ_ _=>Z)) (ja (pv 2) (ja (jh (ja (pv 7) (ja (jr jq (jF (ja (pv 5) (ja (pv 6) jb))) (jD Jg Z mi PQ (ja (JE qi (C.e l.m (ja (pv 0) (ja jf jb))) jf (aD _)) jb)) (λ_ _=>Z)) jb))) jb))))) jb))) (jd (j3 (jv (za (C.e l.m (ja (pv 0) (ja jf jb)))) (jd (jy 10 bq.nd (jh (ja jm (ja jm (ja (pv 5) (ja (jh (ja jm (ja (ju jY jf (C.e l.m (ja (pv 0) (ja jf jb)))) jb))) jb)))))) (jg (jO (kn Gx GS GQ jR (pv 9) (ja (jh (ja jm (ja (pv 10) (ja (jr jq (jF (ja (pv 6) (ja (pv 8) (ja (pv 7) jb)))) (C.e l.m (ja (pv 0) (ja jf jb))) (λ_ _=>Z)) jb)))) jb))))) jp)) (jd (jO (kn Gx GS GQ jR (pv 9) (ja (jh (ja jm (ja (jr jq (pv 3) jf (λ_ _=>Z)) (ja (cO.e l.m (ja (pv 0) (ja (jr jq (jF (ja (pv 6) (ja (pv 6) (ja (pv 7) jb)))) (C.e l.m (ja (pv 0) (ja jf jb))) (λ_ _=>Z)) (ja (pv 8) jb)))) jb)))) jb))) (jd (j3 (jv (za (C.e l.m (ja (pv 0) (ja jf jb)))) (jg (zb (jh (ja (jr jq (pv 9) jf (λ_ _=>Z)) (ja (jr jq (pv 9) jf (λ_ _=>Z)) jb))) (zV (n:=2) Z (jB (qq (pv 9) jf zn) (jB (qq (pv 9) jf zn) kN))))) jp)) (jd (jO (kn Gx GS GQ jR (pv 9) (ja (jh (ja jm (ja (jr jq (pv 3) jf (λ_ _=>Z)) (ja (jh (ja jm (ja jm (ja (pv 5) (ja (jh (ja jm (ja jf jb))) jb))))) jb)))) jb))) (jd (jy 11 bq.nd (jh (ja (jh (ja jm (ja (jr jq (pv 3) jf (λ_ _=>Z)) (ja (jh (ja jm (ja (C.e l.m (ja (pv 0) (ja jf jb))) jb))) jb)))) (ja (jh (ja jm (ja (jr jq (pv 3) jf (λ_ _=>Z)) (ja (jh (ja jm (ja (C.e l.m (ja (pv 0) (ja jf jb))) jb))) jb)))) jb)))) (jd (j3 (jv (za (C.e l.m (ja (pv 0) (ja jf jb)))) (jd (jy 11 bq.nd (ju jZ (pv 11) (jh (ja (jh (ja jm (ja (jr jq (pv 3) jf (λ_ _=>Z)) (ja (jh (ja jm (ja (ju jY jf (C.e l.m (ja (pv 0) (ja jf jb)))) jb))) jb)))) jb)))) (jg (jy 11 bq.nd (ju jZ (pv 11) (jh (ja (jh (ja jm (ja (jr jq (pv 3) jf (λ_ _=>Z)) (ja (jh (ja jm (ja jm (ja (pv 4) (ja (jh (ja jm (ja jf jb))) jb))))) jb)))) jb)))))) jp)) (jd (jy 12 bq.nd (jh (ja jm (ja (jh (ja jm (ja jm (ja (pv 5) (ja (pv 4) jb))))) (ja (jD jI Z m6 Ib (ja (pv 9) jb)) jb))))) (jg (jo (jh (ja (pv 1) (ja (jh (ja (jr jq (pv 3) jf (λ_ _=>Z)) jb)) (ja (ju jZ (pv 11) (jh (ja (pv 12) (ja (jh (ja jm (ja (jh (ja jm (ja jf jb))) (ja (pv 6) jb)))) (ja (jh (ja jm (ja (pv 6) jb))) jb))))) jb)))))))))))))))),?_]
 have W0:Wd H H p W Y:=#[B,aB.refl,hw]
 refine ai λF1 f1=>Y5 W0 Z h2 λvn vi vs vx vy U xn xi xs xx xy W1=>f1 _ _ ?_
 refine ai λF2 f2=>Dh W1 (JY (Cf:=[(g,2)]) (kI Z PZ P0) (zS (n:=1) (zU zf) (jJ Z ar xi) (kA (kK Z PZ PZ) PZ) PZ PZ) PZ) λlb u2 H2 o2 x2 W2 k2=>f2 _ _ ?_
 refine ai λF3 f3=>Je W2 Z o2 (show 1<=100 by decide) (pG (Cf:=[(g,2)]) (kI Z PZ P0) (K2 Z) GF (jJ Z ar (ar _ _ _ k2.t xx)) (CH Z PZ PZ (jJ Z ar (ar _ _ _ k2.t xi)) (jJ Z ar (ar _ _ _ k2.t xs))) PZ PZ) λu3 H3 x3 o3 W3 k3=>f3 _ _ ?_
 refine ai λF4 f4=>dw (λu c=>∃(o:Option V) (G:List V),u=[some (V.ref p),some (V.str f0),some (V.str g),some (V.ref W),some (vn),some (vi),some (vs),some (vx),some (vy),some (V.ref lb),o,none,none]/\Ow H c p W lb (u2::u3::G)/\gG [(g,2)] c Y 0 G/\G.length<=1/\Wd H c p W Y/\al H3 c) (λE4 _ f5=>qA W3 Z PZ PZ (λH6 W6 k6=>?_) (λH6 W6 k6=>?_)) λσ2 H5 h3=>?_
 ·clear f4
  have o6:=o3.fw k6
  have R:al U H6:=((k2.t.trans k3).trans k6.t)
  refine ai λF7 f7=>jS W6 (zS (n:=1) (zU zf) (jJ Z ar (ar _ _ _ R xi)) (kA (QG (kK Z PZ PZ) PZ) PZ) PZ PZ) λv7 H7 x7 W7 k7=>f7 _ _ ?_
  have o7:=o6.fw k7
  have y:al U H7:=(R.trans k7.t)
  refine Je W7 Z o7 (show 2<=100 by decide) (JZ (Cf:=[(g,2)]) (jJ Z ar x7) (xN Z (jJ Z ar (ar _ _ _ y xs)) (jJ Z ar (ar _ _ _ y xy)) (jJ Z ar (ar _ _ _ y xx))) PZ PZ) λu8 H8 x8 o8 W8 k8=>f5 _ _ ?_
  have m5:al H3 H8:=((k6.t.trans k7.t).trans k8)
  exact#[_,[u8],Z,o8,zj x8,Gh 1,W8,m5]
 ·clear f4
  have o6:=o3.fw k6
  exact f5 _ _ #[_,[],Z,o6,Ka,PZ,W6,k6.t]
 obtain⟨w5,G,rfl,o5,zx,zl,W5,k5⟩:=h3
 refine f4 _ _ ?_
 clear f4
 have M:al U H5:=((k2.t.trans k3).trans k5)
 refine ai λF9 f9=>Je W5 Z o5 (show G.length+1+1<=100 by omega) (Jp (Cf:=[(g,2)]) (kI Z PZ P0) (JX Z (xN Z (jJ Z ar (ar _ _ _ M xs)) (jJ Z ar (ar _ _ _ M xs)) (jJ Z ar (ar _ _ _ M xx))) (jJ Z ar (ar _ _ _ M xy))) PZ) λu9 H9 x9 o9 W9 k9=>f9 _ _ ?_
 have zy:gG [(g,2)] H9 Y 0 (G++[u9]):=Jd (zx.mono k9) (zj x9)
 have zm:(G++[u9]).length<=2:=by rw[Gi];exact HY zl
 refine ai λF0 I=>dw (λu c=>∃(X:List V),u=[some (V.ref p),some (V.str f0),some (V.str g),some (V.ref W),some (vn),some (vi),some (vs),some (vx),some (vy),some (V.ref lb),w5,none,none]/\Ow H c p W lb X/\gG [(g,2)] c Y 0 X/\X.length<=4/\Wd H c p W Y/\al H9 c) (λE1 _ S=>qA W9 Z PZ PZ (λH0 W4 k=>?_) (λH0 W4 k=>?_)) λσ0 b3 h0=>?_
 ·clear I
  have o1:=o9.fw k
  refine xh W4 Z o1 λH4 b4 b5 k0=>S _ _ ?_
  have m0:al H3 H4:=(((k5.trans k9).trans k.t).trans k0)
  have m1:al H2 H4:=((((k3.trans k5).trans k9).trans k.t).trans k0)
  have z:al H9 H4:=(k.t.trans k0)
  exact#[_,Z,b4,jV ((dN _ _ _ m0 x3)) (jV ((dN _ _ _ m1 x2)) (zy.mono z)),(show(G++[u9]).length+1+1<=4 by omega),b5,z]
 ·clear I
  have o1:=o9.fw k
  have m2:al H2 H0:=(((k3.trans k5).trans k9).trans k.t)
  have m3:al H3 H0:=((k5.trans k9).trans k.t)
  exact S _ _ #[_,Z,o1,jV ((dN _ _ _ m2 x2)) (jV ((dN _ _ _ m3 x3)) (zy.mono k.t)),(show(G++[u9]).length+1+1<=4 by omega),W4,k.t]
 obtain⟨X,rfl,b7,ux,ul,b8,b9⟩:=h0
 refine I _ _ ?_
 clear I
 have d:al U b3:=((M.trans k9).trans b9)
 refine ai λF5 f6=>Je b8 Z b7 P0 (Jp (Cf:=[(g,2)]) (kI Z PZ P0) (zS (n:=1) (zU zf) (jJ Z ar (ar _ _ _ d xi)) (kA (Qz PZ (by decide:(1:Int) < 2)) PZ) PZ PZ) PZ) λu0 a1 x1 b' c0 k1=>f6 _ _ ?_
 have b0:gG [(g,2)] a1 Y 0 (X++[u0]):=Jd (ux.mono k1) (zj x1)
 have bl:(X++[u0]).length<=5:=by rw[Gi];exact HY ul
 refine ai λF6 f'=>jS c0 (YG (Jp (Cf:=[(g,2)]) (kI Z PZ P0) (kA (kK Z PZ PZ) PZ) PZ) (Jp (Cf:=[(g,2)]) (kI Z PZ P0) (kA (kK Z PZ PZ) PZ) PZ)) λv1 a2 x0 c1 J=>f' _ _ ?_
 have o':=b'.fw J
 refine ai λd' L=>dw (λu c=>∃(b:V),u=[some (V.ref p),some (V.str f0),some (V.str g),some (V.ref W),some (vn),some (vi),some (vs),some (vx),some (vy),some (V.ref lb),w5,some b,none]/\Ow H c p W lb (X++[u0])/\PB [(g,2)] Y 0 4 c b/\Wd H c p W Y/\al a2 c) (λE2 _ T=>qA c1 Z PZ PZ (λc2 a0 a=>?_) (λc2 a0 a=>?_)) λσ1 a3 h1=>?_
 ·clear L
  have o4:=o'.fw a
  refine ai λe0 c3=>jS a0 (qt (jJ Z dB (dB _ _ _ a.t x0)) (J1 (JY (Cf:=[(g,2)]) (kI Z PZ P0) (kA (QG (kK Z PZ PZ) PZ) PZ) PZ)) PZ) λv2 c4 x4 c5 k4=>c3 _ _ ?_
  have c6:=o4.fw k4
  have m4:al U c4:=((((d.trans k1).trans J.t).trans a.t).trans k4.t)
  refine jS c5 (qt (jJ Z dB x4) (J1 (Jp (Cf:=[(g,2)]) (kI Z PZ P0) (zS (n:=1) (zU wX) (jJ Z ar (ar _ _ _ m4 xn)) (kA (Qz PZ (by decide:(2:Int) < 3)) PZ) PZ PZ) PZ)) PZ) λv3 c9 x5 c' a4=>T _ _ ?_
  have d0:=c6.fw a4
  have N:al a2 c9:=((a.t.trans k4.t).trans a4.t)
  exact#[_,Z,d0,x5,c',N]
 ·clear L
  have o4:=o'.fw a
  exact T _ _ #[_,Z,o4,(PB.more (dB _ _ _ a.t x0) PZ),a0,a.t]
 obtain⟨e1,rfl,a',x',d1,b1⟩:=h1
 refine L _ _ ?_
 clear L
 have j:al U a3:=(((d.trans k1).trans J.t).trans b1)
 have O:al a1 a3:=(J.t.trans b1)
 refine ai λe2 d2=>jS d1 (xR (zS (n:=1) (zU QS) (jJ Z ar (ar _ _ _ j xi)) (jJ Z ar (ar _ _ _ j xn)) PZ PZ) (xQ (n:=5) Z a' (b0.mono O) bl) PZ PZ) λv4 d3 d4 d5 k'=>d2 _ _ ?_
 have e3:=a'.fw k'
 have D:al U d3:=(j.trans k'.t)
 refine QH d5 (YH (K2 Z) (xO (kI Z PZ P0)) (qt (Ev.up (jJ Z dB (dB _ _ _ k'.t x')) λ_ _=>PB.lift) (CF (jJ Z dN d4) (Ev.up (JZ (Cf:=[(g,2)]) (kA (Qz PZ (by decide:(30:Int) < 31)) PZ) (jJ Z ar (ar _ _ _ D xs)) PZ PZ) λ_ _=>ci.lift) (Ev.up (Q8 (Cf:=[(g,2)]) (jJ Z ar (ar _ _ _ D xs)) PZ) λ_ _=>ci.lift)) PZ) PZ P0) λv c x W'=>?_
 obtain⟨r,rfl,x⟩:=x
 exact q r c x W'.B W'.K
theorem Es(b:0<=d)(c:d < 2)(h:ci C H y 0 u)(a:ci C H y 0 v):gG C H y 0 (aX [u,v] none (some (1+d)))/\(aX [u,v] none (some (1+d))).length<=2:=by
 rcases(by omega:d=0∨d=1) with rfl |rfl
 ·exact#[zj h,by show 1<=2;decide]
 ·exact#[jV h (zj a),by show 2<=2;decide]
def P2(C:gW)(y:List Str)(H:Hp)(w:V):Prop:=∃a u v,w= .ref a/\H a=some (.tup [u,v])/\ci C H y 0 u/\ci C H y 0 v
theorem xZ:nC (P2 C y):=λ_ _ _ m #[a,u,v,e,h,H,b]=>#[a,u,v,e,m _ _ h,H.mono m,b.mono m]
section
variable {Cf:gW}{ys:List Str}{H0 Hb:Hp}{p wl:Addr}{σ:_L.St}
theorem yL(h:Ev H0 p wl ys Hb σ T (λH v=>ci Cf H ys 0 v))(c:Ev H0 p wl ys Hb σ d (λH v=>ci Cf H ys 0 v)):Ev H0 p wl ys Hb σ (bX (am T (am d aO))) (P2 Cf ys):=λH Q m W q=>
 h H _ m W λo e X f a=>c e _ (m.trans a) f λs u g i b=>#[bN,λr n=>ky (P:=P2 Cf ys) i (λV j x l k=>q V j x l ((a.trans b).trans k)) n λt z=>#[r,_,_,Z,z,(X.mono b.t).mono t,g.mono t]]
theorem yK(e:σ[i]?=some (some v))(E:σ[0]?=some (some (.ref p)))(h:P2 Cf ys Hb v):Ev H0 p wl ys Hb σ (BR AW (a7 i) lE (mn (dG (uG λi j=>V.int (i+j)) (tC (.int 1)) (uH 2)))) (PB Cf ys 0 2):=λH Q m W q=>
 #[v,e,kK E PZ PZ H _ m W λw y #[d,b,D,c] f k=>#[1,d,Z,b,_,Z,by
  obtain⟨a,u,A,rfl,g,l,n⟩:=xZ _ _ _ (m.trans k).t h
  have z:=Es D c l n
  exact#[a,_,Z,g,λr o x s=>q _ o #[r,_,Z,x,z.1.mono (ae.tm s),z.2] (f.same s) (k.trans (.same s))]]]
end
theorem aP:aj z39z z19z (aa ff):=bK
noncomputable def KI:Scope:=#[.function,[(".0",.local),("_law_one",.local)],false,false,[]]
theorem XO:(["_law_one"]:List Str).Nodup:=by decide+kernel
theorem XQ:bG z39z (aa ff) KI ["_law_one"] 1 []:=oY
theorem YA(F:aN K "_law_ticking" "_law_ticking" ff f fd)(C:Cl P w K mg base 1 fT b7 z0z aZ "_law_take")(cO:Cl P w K mg base 2 fO b8 z17z l7 "_law_op")(mi:mg "int"=none)(m1:mg "tuple"=none):ah P w K mg base ay 3 f fd z19z (c7 1):=by
 refine F.ok aP ?_ λc0 A o5 s H vs Q E c h=>?_
 ·rintro _ _ _ _ ⟨p,W,f0,g,ys,rfl,_⟩
  rfl
 obtain⟨p,W,f0,g,ys,rfl,B,hw,h1,q⟩:=h
 refine#[_,(jd (zb (@zd _ _ _ _ _ _ _ (["_law_one"]) (1) ([]) _ _ _ _ Z (qH (jG kh (pv 3) jU (jE jf))) XQ (λ_ _ _ _ _=>(jw (i:=0) XO Z (Or.inl Z))) (λ_ _ _ _ _=>(@zA _)) (λ_ _ _ _ _=>(jh (ja jm (ja (pv 0) jb)))) (by intro _;rfl)) (@YU _ _ _ _ (5) _ Z (jB (jw (i:=4) aP.nd Z (Or.inl Z)) (jB (jw (i:=5) aP.nd Z (Or.inl Z)) (jB (jw (i:=6) aP.nd Z (Or.inl Z)) (jB (jw (i:=7) aP.nd Z (Or.inl Z)) (jB (jw (i:=8) aP.nd Z (Or.inl Z)) kN))))) P7 P7)) (jd (jy 9 aP.nd (jh (ja jm (ja (ju jY jf (C.e c.m (ja (pv 0) (ja jf jb)))) jb)))) (jd (jy 10 aP.nd (jF (ja (jh (ja jm (ja (jr jq (pv 3) jf (λ_ _=>Z)) (ja (pv 9) jb)))) (ja (jh (ja jm (ja (jr jq (pv 3) jf (λ_ _=>Z)) (ja (jr jq (jF (ja (pv 5) (ja (jh (ja jm (ja (C.e c.m (ja (pv 0) (ja jf jb))) jb))) jb))) (C.e c.m (ja (pv 0) (ja jf jb))) (λ_ _=>Z)) jb)))) jb)))) (jd (jO (kn Gx GS GQ jR (pv 10) (ja (jh (ja jm (ja (jr jq (pv 3) jf (λ_ _=>Z)) (ja (pv 2) (ja (jh (ja (jr jq (jF (ja (pv 7) (ja (jh (ja jm (ja jf jb))) jb))) (C.e c.m (ja (pv 0) (ja jf jb))) (λ_ _=>Z)) (ja (jr jq (jF (ja (pv 5) (ja (jh (ja jm (ja jf jb))) jb))) (C.e c.m (ja (pv 0) (ja jf jb))) (λ_ _=>Z)) jb))) jb))))) jb))) (jd (j3 (jv (za (C.e c.m (ja (pv 0) (ja jf jb)))) (jg (jO (kn Gx GS GQ jR (pv 10) (ja (jh (ja jm (ja (jh (ja jm (ja jm (ja (pv 5) (ja (jh (ja jm (ja (C.e c.m (ja (pv 0) (ja jf jb))) jb))) jb))))) (ja (pv 8) jb)))) jb)))) jp)) (jd (jy 11 aP.nd (jh (ja jm (ja jf jb)))) (jd (jy 12 aP.nd (jF (ja (jh (ja jm (ja (jr jq (pv 3) jf (λ_ _=>Z)) (ja (pv 11) jb)))) (ja (jh (ja jm (ja (pv 11) (ja (cO.e c.m (ja (pv 0) (ja (pv 6) (ja (pv 8) jb)))) jb)))) jb)))) (jd (j3 (jv (za (C.e c.m (ja (pv 0) (ja jf jb)))) (jg (jy 12 aP.nd (jF (ja (jh (ja jm (ja (jr jq (pv 3) jf (λ_ _=>Z)) (ja (cO.e c.m (ja (pv 0) (ja (pv 6) (ja (pv 8) jb)))) jb)))) jb)))) jp)) (jd (jy 10 aP.nd (ju zX (ju zX (pv 10) (pv 12)) (jF (ja (jh (ja jm (ja (pv 9) (ja (jh (ja jm (ja jm (ja (pv 5) (ja (jh (ja jm (ja jf jb))) jb))))) jb)))) (ja (jh (ja jm (ja (jr jq (pv 3) jf (λ_ _=>Z)) (ja (jh (ja jm (ja jm (ja (pv 5) (ja (pv 4) jb))))) jb)))) jb))))) (jd (jy 13 aP.nd (jh (ja (jh (ja jm (ja (jr jq (pv 3) jf (λ_ _=>Z)) (ja (jh (ja jm (ja jf jb))) jb)))) (ja (jh (ja jm (ja (pv 9) (ja (jh (ja jm (ja (C.e c.m (ja (pv 0) (ja jf jb))) jb))) jb)))) jb)))) (jd (jy 14 aP.nd (jh (ja jm (ja (jh (ja jm (ja (jr jq (pv 3) jf (λ_ _=>Z)) jb))) (ja (jD jI Z m1 Ib (ja (pv 10) jb)) jb))))) (jg (jo (jh (ja (pv 1) (ja (jh (ja (jr jq (pv 3) jf (λ_ _=>Z)) jb)) (ja (ju jZ (jG kE (pv 13) jU (jE (ju jY jf (C.e c.m (ja (pv 0) (ja jf jb)))))) (jh (ja (pv 14) (ja (jh (ja jm (ja (pv 6) jb))) jb)))) jb))))))))))))))))),?_]
 have W0:Wd H H p W ys:=#[B,aB.refl,hw]
 refine ai λF1 f1=>Y5 W0 Z h1 λvn vi vs vx vy H1 xn xi xs xx xy W1=>f1 _ _ ?_
 refine ai λF2 f2=>jS W1 (kA (QG (kK Z PZ PZ) PZ) PZ) λv2 H2 x2 W2 k2=>f2 _ _ ?_
 refine ai λF3 f3=>Di W2 (JY (Cf:=[(g,2)]) (kI Z PZ P0) (jJ Z ar x2) PZ) (JY (Cf:=[(g,2)]) (kI Z PZ P0) (YF Z (jJ Z ar (ar _ _ _ k2.t xi)) (kA (kK Z PZ PZ) PZ)) PZ) λlb u3 w3 H3 o3 x3 y3 W3 k3=>f3 _ _ ?_
 have a:al H1 H3:=(k2.t.trans k3.t)
 refine ai λF4 f4=>Je W3 Z o3 (show 2<=100 by decide) (pG (Cf:=[(g,2)]) (kI Z PZ P0) (K2 Z) GF (YF Z (jJ Z ar (ar _ _ _ a xx)) (kA (Qz PZ (by decide:(3:Int) < 4)) PZ)) (YF Z (jJ Z ar (ar _ _ _ a xi)) (kA (Qz PZ (by decide:(2:Int) < 3)) PZ)) PZ PZ) λu4 H4 x4 o4 W4 k4=>f4 _ _ ?_
 refine ai λF5 f5=>dw (λN d=>∃(us:List V),N=[some (V.ref p),some (V.str f0),some (V.str g),some (V.ref W),some (vn),some (vi),some (vs),some (vx),some (vy),some (v2),some (V.ref lb),none,none,none,none]/\Ow H d p W lb us/\gG [(g,2)] d ys 0 us/\us.length<=4/\Wd H d p W ys/\al H4 d) (λE5 _ f6=>qA W4 Z PZ PZ (λH7 W7 u=>?_) (λH7 W7 u=>?_)) λσ1 H6 h2=>?_
 ·clear f5
  have o7:=o4.fw u
  have D:al H1 H7:=((a.trans k4).trans u.t)
  refine Je W7 Z o7 (show 3<=100 by decide) (JZ (Cf:=[(g,2)]) (zS (n:=1) (zU zf) (jJ Z ar (ar _ _ _ D xi)) (kA (kK Z PZ PZ) PZ) PZ PZ) (jJ Z ar (ar _ _ _ D xy)) PZ PZ) λu8 H8 x8 o8 W8 k8=>f6 _ _ ?_
  have G:al H4 H8:=(u.t.trans k8)
  have I:al H3 H8:=((k4.trans u.t).trans k8)
  exact#[_,Z,o8,(jV ((dN _ _ _ I x3)) (jV ((dN _ _ _ I y3)) (jV ((dN _ _ _ G x4)) (jV (x8) Ka)))),(show 4<=4 by decide),W8,G]
 ·clear f5
  have o7:=o4.fw u
  have J:al H3 H7:=(k4.trans u.t)
  exact f6 _ _ #[_,Z,o7,(jV ((dN _ _ _ J x3)) (jV ((dN _ _ _ J y3)) (jV ((dN _ _ _ u.t x4)) Ka))),(show 3<=4 by decide),W7,u.t]
 obtain⟨us,rfl,o6,ux,ul,W6,k6⟩:=h2
 refine f5 _ _ ?_
 clear f5
 refine ai λF9 f9=>jS W6 (kA (Qz PZ (by decide:(30:Int) < 31)) PZ) λv9 H9 x9 W9 k9=>f9 _ _ ?_
 have o9:=o6.fw k9
 have b:al H1 H9:=(((a.trans k4).trans k6).trans k9.t)
 refine ai λF0 f7=>Di W9 (JY (Cf:=[(g,2)]) (kI Z PZ P0) (jJ Z ar x9) PZ) (JZ (Cf:=[(g,2)]) (jJ Z ar x9) (JX Z (jJ Z ar (ar _ _ _ b xs)) (jJ Z ar (ar _ _ _ b xy))) PZ PZ) λlm u0 w0 H0 z0 x0 y0 W5 j=>f7 _ _ ?_
 have o1:=o9.fw j
 refine ai λF6 y=>dw (λN d=>∃(m:Addr) (zs:List V),N=[some (V.ref p),some (V.str f0),some (V.str g),some (V.ref W),some (vn),some (vi),some (vs),some (vx),some (vy),some (v2),some (V.ref lb),some (v9),some (.ref m),none,none]/\Ow H d p W lb us/\Ow H d p W m zs/\gG [(g,2)] d ys 0 zs/\zs.length<=2/\Wd H d p W ys/\al H0 d) (λE1 _ L=>qA W5 Z PZ PZ (λH5 O k=>?_) (λH5 O k=>?_)) λσ0 R h0=>?_
 ·clear y
  have S:=o1.fw k
  have z1:=z0.fw k
  have l:al H1 H5:=((b.trans j.t).trans k.t)
  refine Dh O (Jp (Cf:=[(g,2)]) (kI Z PZ P0) (JX Z (jJ Z ar (ar _ _ _ l xs)) (jJ Z ar (ar _ _ _ l xy))) PZ) λlq u1 a0 z2 x1 a1 k1=>L _ _ ?_
  have o':=S.fw k1
  have z:al H0 a0:=(k.t.trans k1.t)
  exact#[_,_,Z,o',z2,zj x1,(show 1<=2 by decide),a1,z]
 ·clear y
  have S:=o1.fw k
  have z1:=z0.fw k
  exact L _ _ #[_,_,Z,S,z1,(jV ((dN _ _ _ k.t x0)) (jV ((dN _ _ _ k.t y0)) Ka)),(show 2<=2 by decide),O,k.t]
 obtain⟨lm,zs,rfl,a2,z3,zx,zl,a3,T⟩:=h0
 refine y _ _ ?_
 clear y
 have o:al H2 R:=(((((k3.t.trans k4).trans k6).trans k9.t).trans j.t).trans T)
 have M:al H1 R:=((b.trans j.t).trans T)
 have U:al H6 R:=((k9.t.trans j.t).trans T)
 refine ai λF7 f'=>yD a3 Z Z a2 z3 P0 (ux.mono U) zx (JZ (Cf:=[(g,2)]) (jJ Z ar (ar _ _ _ o x2)) (zS (n:=1) (zU zf) (jJ Z ar (ar _ _ _ M xi)) (kA (Qz PZ (by decide:(1:Int) < 2)) PZ) PZ PZ) PZ PZ) (Jp (Cf:=[(g,2)]) (kI Z PZ P0) (zS (n:=1) (zU QS) (jJ Z ar (ar _ _ _ M xi)) (jJ Z ar (ar _ _ _ M xn)) PZ PZ) PZ) λlc cs a4 a' cx cl b0 k5=>f' _ _ ?_
 have cm:cs.length<=8:=by omega
 have X:al H2 a4:=(o.trans k5.t)
 refine ai λb9 b1=>jS b0 (yL (Jp (Cf:=[(g,2)]) (kI Z PZ P0) (kA (Qz PZ (by decide:(1:Int) < 2)) PZ) PZ) (JZ (Cf:=[(g,2)]) (jJ Z ar (ar _ _ _ X x2)) (kA (kK Z PZ PZ) PZ) PZ PZ)) λv1 b' x5 b2 Y=>b1 _ _ ?_
 have o2:=a'.fw Y
 refine ai λc1 b3=>jS b2 (xR (JW (kI Z PZ P0)) (xQ (n:=8) Z o2 (cx.mono Y.t) cm) PZ PZ) λv3 b4 x7 b5 k0=>b3 _ _ ?_
 have c2:=o2.fw k0
 have m0:al H1 b4:=(((M.trans k5.t).trans Y.t).trans k0.t)
 refine QH b5 (YH (K2 Z) (xO (kI Z PZ P0)) (qt (Ev.up (yK Z Z (xZ _ _ _ k0.t x5)) λ_ _=>PB.lift) (YG (jJ Z dN x7) (Ev.up (Q8 (Cf:=[(g,2)]) (jJ Z ar (ar _ _ _ m0 xs)) PZ) λ_ _=>ci.lift)) PZ) PZ P0) λv d x W'=>?_
 obtain⟨r,rfl,x⟩:=x
 exact q r d x W'.B W'.K
theorem Et{y:List Str}{lo:Nat}(h:y.length=14)(H:lo<=8):(bn y (some (lo:Int)) (some ((lo+6:Nat):Int))).length=6:=by
 unfold bn
 rw[HT.sIx_nat,HT.sIx_nat,GV,Ik,h,I9 (Gr H PZ),I9 (Nat.add_le_add_right H 6),Nat.add_sub_cancel_left]
 exact I9 (Nat.le_sub_of_add_le (Gr (NK H 6) PZ))
theorem FJ{k:Nat}(h:k < n):mN n (k:Int)=some k:=by unfold mN;rw[Gw P0,Gw P0,Hq]
theorem oI.more(h:oI C n H r f)(k:∀y∈C,y∈D):oI D n H r f:=let #[d,b,a,c]:=h;#[d,b,#[a.1,kj k a.2],c]
theorem Ew(r:oI [(l,N),(m,j),(o,k)] N H a l)(s:oI [(l,N),(m,j),(o,k)] j H b m)(t:oI [(l,N),(m,j),(o,k)] k H c o)(p:N<=100/\j<=100/\k<=100):∃D,cg H D [.ref a,.ref b,.ref c]/\D.length=3/\((∀d∈D,my d/\d.b.Cs [(l,N),(m,j),(o,k)])/\D.map Df.f=[l,m,o])/\lI H D [N,j,k]:=by
 obtain⟨d,u,v,O,y,z,E⟩:=r
 obtain⟨e,A,B,Q,C,F,G⟩:=s
 obtain⟨f,I,J,R,g3,L,M⟩:=t
 refine#[[d,e,f],#[_,_,Z,u,_,_,Z,A,_,_,Z,I,Z],Z,#[λx q=>?_,by rw[<- E,<- G,<- M];rfl],Z,λi x n h g=>?_]
 ·simp only[Iz,GU,Ma]at q
  rcases q with rfl |rfl |rfl
  ·exact v
  ·exact B
  ·exact J
 ·match i,h,g with
  |0,h,g=>cases h;cases g;exact#[_,y,z,p.1]
  |1,h,g=>cases h;cases g;exact#[_,C,F,p.2.1]
  |2,h,g=>cases h;cases g;exact#[_,g3,L,p.2.2]
inductive lg(b:List V)(H:Hp)(Q:VK)(a:XK):Prop
 |mk(p:Addr)(_:b=[.ref p])(_:aq H p)(_:∀(r:Addr) (ds:List Df) (xs:List V) (H':Hp),H' r=some (.tup xs)->cg H' ds xs->ds.length=3->∀ns,oN ds ns->lI H' ds ns->(∃r,ns=1::r)->aq H' p->aB p H H'->Q (.ref r) H')
def Ci(L:List Str)(_:Hp)(v:V):Prop:=∃x,v= .str x/\x∈L
section
variable {ys:List Str}{H0 Hb:Hp}{p wl:Addr}{σ:_L.St}
theorem CJ{K:Frag}(e:σ[0]?=some (some (.ref p)))(r:Ev H0 p wl ys Hb σ t (uQ a))(s:Ev H0 p wl ys Hb σ T (uQ b))(u:Ev H0 p wl ys Hb σ x (uQ c)):Ev H0 p wl ys Hb σ (dG (iE K) (mj (am t (am T (am x aO)))) (uH 3)) (Ci [a,b,c]):=λH Q m W q=>
 r H _ m W λy z (E:y= .str a) A k=>s z _ (m.trans k) A λC D (F:C= .str b) G f=>u D _ ((m.trans k).trans f) G λI R (J:I= .str c) h j=>#[gn,λl n=>kK e PZ PZ _ _ ((((m.trans k).trans f).trans j).trans (.new n)) (h.same (je n)) λv L #[d,M,S,U] N o=>by
  obtain⟨g,i,O⟩:∃g,dA [V.str a,.str b,.str c] d=some (.str g)/\g∈[a,b,c]:=by
   rcases(by omega:d=0∨d=1∨d=2) with rfl |rfl |rfl
   ·exact#[a,Z,P5]
   ·exact#[b,Z,P5]
   ·exact#[c,Z,P5]
  rw[<- E,<- F,<- J]at i
  exact#[l,_,d,_,Z,M,aH.of (o.b _ _ (h.B.ne n) jc),i,q _ L #[g,Z,O] N (((k.trans f).trans j).trans ((Fw.new n).trans o))]]
theorem pH{K:Frag}{lo:Nat}(e:σ[0]?=some (some (.ref p)))(E:σ[1]?=some (some (.ref wl)))(d:Ev H0 p wl ys Hb σ t (uQ f))(l:Ev H0 p wl ys Hb σ T (Ci L))(h:ys.length=14)(o:lo<=8)(s:i=(lo:Int))(u:j=((lo+6:Nat):Int)):
  Ev H0 p wl ys Hb σ (dF (c7 n) [] E0 (am (a7 0) (am t (am T (am (BR (wC K) (a7 1) (mn (tC (.int i))) (mn (tC (.int j)))) aO))))) (PD (L.map λy=>(y,2)) n f):=λH Q m W q=>
 #[_,e,d H _ m W λv x (z:v= .str f) A k=>l x _ (m.trans k) A λV M #[g,D,c] b F=>#[_,E,_,Z,_,Z,wl,_,Z,aH.of b.w,λr N=>#[p,r,f,g,bn ys (some i) (some j),by rw[z,D];rfl,b.B.upd_new N,by rw[jc,zp],by rw[s,u];exact Et h o,λa G X I C=>
  q _ G #[a,Z,X.more λy J=>by rw[List.mem_singleton.mp J];exact List.mem_map.mpr #[g,c,Z]] ((b.same (je N)).but I C) ((k.trans F).trans ((Fw.new N).trans (.but (b.B.upd_new N) C)))]]]
theorem qB{K:Frag}{k:Nat}(e:σ[j]?=some (some (.ref wl)))(a:i=(k:Int))(h:ys[k]?=some y):Ev H0 p wl ys Hb σ (dG (iE K) (a7 j) (tC (.int i))) (uQ y):=λH Q m W q=>
 #[_,e,wl,_,_,_,Z,Z,aH.of W.w,(by rw[a];exact jH (by rw[Gz,h];rfl)),q _ H Z W .refl]
theorem CG{n1 n2 n3:Nat}(s:n1<=100/\n2<=100/\n3<=100)(u:Ev H0 p wl ys Hb σ T (PD [(e,n1),(h,n2),(i,n3)] n1 e))(y:Ev H0 p wl ys Hb σ z (PD [(e,n1),(h,n2),(i,n3)] n2 h))(A:Ev H0 p wl ys Hb σ B (PD [(e,n1),(h,n2),(i,n3)] n3 i)):Ev H0 p wl ys Hb σ (bX (am T (am z (am B aO)))) (λH v=>∃r D x,v= .ref r/\H r=some (.tup x)/\cg H D x/\D.length=3/\((∀d∈D,my d/\d.b.Cs [(e,n1),(h,n2),(i,n3)])/\D.map Df.f=[e,h,i])/\lI H D [n1,n2,n3]):=λH Q m W q=>
 u H _ m W λV C X E k=>y C _ (m.trans k) E λF G I J j=>A G _ ((m.trans k).trans j) J λL H4 M N l=>#[gn,λr n=>q _ _ (by
  have t:=ae.tm (je (o:=HO.tup [V,F,L]) n)
  obtain⟨a,O,R⟩:=iR _ _ _ t (iR _ _ _ (j.trans l).t X)
  obtain⟨b,S,U⟩:=iR _ _ _ t (iR _ _ _ l.t I)
  obtain⟨c,Y,h3⟩:=iR _ _ _ t M
  obtain⟨D,g⟩:=Ew R U h3 s
  exact#[r,D,_,Z,by rw[jc,O,S,Y],g]) (N.same (je n)) (((k.trans j).trans l).trans (.new n))]
end
theorem eP:aj ["_law_box_here","_law_w","_law_body_here","_law_deeper","_law_further","_law_first"] z2z (aa sE):=bK
theorem vS(F:aN K "_law_busy" "_law_busy" sE f fd)(T:Cl P w K mg base 1 fT f0 z0z aZ "_law_take")(cO:Cl P w K mg base 2 fO f1 z17z l7 "_law_op")(cA:Cl P w K mg base 2 fA f7 z24z fQ "_law_names")(cL:Cl P w K mg base 3 fL f9 z19z (c7 1) "_law_looped")(cK:Cl P w K mg base 3 fK f' z19z (c7 1) "_law_ticking")(cI:Cl P w K mg base 3 fI a0 z34z (c7 2) "_law_inner"):ah P w K mg base ay 4 f fd z2z lg:=by
 refine F.ok eP ?_ λc0 A U s H vs Q E i h=>?_
 ·rintro _ _ _ _ ⟨p,rfl,_⟩
  rfl
 obtain⟨p,rfl,B,q⟩:=h
 refine#[_,(jd (jy 1 eP.nd (cA.e i.m (ja (pv 0) (ja jf jb)))) (jd (j3 (jv (za (T.e i.m (ja (pv 0) (ja jf jb)))) (jg (zb (jr jq (pv 1) jf (λ_ _=>Z)) (qq (pv 1) jf zn))) jp)) (jd (jy 2 eP.nd (jh (ja (jh (ja jm (ja (jr jq (pv 1) jf (λ_ _=>Z)) (ja (jh (ja jm (ja (jr jq (pv 1) jf (λ_ _=>Z)) jb))) jb)))) (ja (jh (ja jm (ja (cO.e i.m (ja (pv 0) (ja (jh (ja jm (ja (jr jq (pv 1) jf (λ_ _=>Z)) jb))) (ja (jh (ja jm (ja (jr jq (pv 1) jf (λ_ _=>Z)) jb))) jb)))) jb))) jb)))) (jd (jy 3 eP.nd (jh (ja (jr jq (pv 1) jf (λ_ _=>Z)) (ja (jh (ja (jr jq (pv 1) jf (λ_ _=>Z)) (ja (jr jq (pv 1) jf (λ_ _=>Z)) jb))) (ja (pv 2) jb))))) (jd (jy 4 eP.nd (jr jq (jF (ja (jr jq (pv 1) jf (λ_ _=>Z)) (ja (jr jq (pv 1) jf (λ_ _=>Z)) (ja (jr jq (pv 1) jf (λ_ _=>Z)) jb)))) (T.e i.m (ja (pv 0) (ja jf jb))) (λ_ _=>Z))) (jd (jy 5 eP.nd (cL.e i.m (ja (pv 0) (ja (jr jq (pv 1) jf (λ_ _=>Z)) (ja (jr jq (pv 1) jf (λ_ _=>Z)) (ja (jG kh (pv 1) (jE jf) (jE jf)) jb)))))) (jd (j3 (jv (za (T.e i.m (ja (pv 0) (ja jf jb)))) (jg (jy 5 eP.nd (cK.e i.m (ja (pv 0) (ja (jr jq (pv 1) jf (λ_ _=>Z)) (ja (jr jq (pv 1) jf (λ_ _=>Z)) (ja (jG kh (pv 1) (jE jf) (jE jf)) jb))))))) jp)) (jg (jo (jh (ja (pv 5) (ja (cI.e i.m (ja (pv 0) (ja (jr jq (pv 1) jf (λ_ _=>Z)) (ja (pv 4) (ja (jG kh (pv 1) (jE jf) (jE jf)) jb))))) (ja (pv 3) jb))))))))))))),?_]
 refine ai λFa o=>#[_,Z,p,14,Z,B,PZ,PZ,λj ys Ha X u c d Ba ka=>o _ _ ?_]
 clear o
 have wp:j≠p:=zY Ba u
 refine ai λFa o=>dw (λn g=>∃Y:List Str,n=[some (V.ref p),some (V.ref j),none,none,none,none]/\g j=some (.lst (Y.map V.str))/\(Y.length=14/\(Y.take 3).Nodup/\∀y∈Y.take 3,y.length<=20)/\aq g p/\aB p H g) (λE0 _ fm=>qA (W:=#[Ba,ka,u]) Z PZ PZ (λHb l kb=>?_) (λHb l kb=>fm _ _ #[_,Z,l.w,#[P0,d.2.sublist (Ix _ _),λy hy=>d.1 y (Ht hy)],l.B,l.K])) λσ1 H0 h3=>?_
 ·clear o
  obtain⟨v1,h6,z⟩:=J6 (ys:=ys) (k:=1) PZ P0
  refine#[_,Z,j,_,_,_,Z,Z,aH.of l.w,z,_,Z,j,_,8,8,Z,Z,l.w,FJ (k:=8) (by rw[Gg];omega),fm _ _ #[ys.set 8 v1,Z,?_,#[by rw[LY];omega,by rw[List.take_set_of_le PZ];exact#[d.2.sublist (Ix _ _),λy hy=>d.1 y (Ht hy)]],l.B.eq (ji (G7 wp)),l.K.upd_own X]]
  rw[jc,OT]
 obtain⟨ys,rfl,h4,⟨c,C,D⟩,B1,k1⟩:=h3
 obtain⟨y0,h0⟩:∃y,ys[0]?=some y:=#[_,Gc (by omega:0 < ys.length)]
 obtain⟨G,I⟩:∃y,ys[1]?=some y:=#[_,Gc (by omega:1 < ys.length)]
 obtain⟨y2,N⟩:∃y,ys[2]?=some y:=#[_,Gc (by omega:2 < ys.length)]
 have e3:ys.take 3=[y0,G,y2]:=by rw[IP,IP,IP,h0,I,N];rfl
 rw[e3]at C D
 refine o _ _ ?_
 clear o
 have W1:Wd H H0 p j ys:=#[B1,k1,h4]
 generalize H0=H1 at W1
 refine ai λF2 f2=>jS W1 (YG (JY (Cf:=[]) (kI Z PZ P0) (JW (kI Z PZ P0)) PZ) (Q8 (Cf:=[]) (JX Z (JW (kI Z PZ P0)) (JW (kI Z PZ P0))) PZ)) λv2 H2 x2 W2 k2=>f2 _ _ ?_
 refine ai λF3 f3=>jS W2 (YH (Cf:=[]) (qB (k:=2) Z Z N) (xP (kI Z PZ P0) (kI Z PZ P0)) (Ev.up (jJ Z dB x2) λ_ _=>PB.lift) PZ P0) λv3 H3 x3 W3 k3=>f3 _ _ ?_
 refine ai λF4 f4=>jS W3 (CJ Z (qB (k:=1) Z Z I) (qB (k:=2) Z Z N) (qB (k:=2) Z Z N)) λv4 H4 x4 W4 k4=>f4 _ _ ?_
 refine ai λF5 f5=>jS W4 (pH (lo:=6) Z Z (qB (k:=0) Z Z h0) (Ev.up (R:=Ci [G]) (qB (k:=1) Z Z I) λ_ _ e=>#[_,e,GF]) c PZ Z Z) λv5 H5 x5 W5 k5=>f5 _ _ ?_
 refine ai λF6 O=>dw (λn g=>∃(b:V),n=[some (V.ref p),some (V.ref j),some (v2),some (v3),some (v4),some b]/\PD [(G,2)] 1 y0 g b/\Wd H g p j ys/\al H5 g) (λE6 _ J=>qA W5 Z PZ PZ (λH8 W8 S=>?_) (λH8 W8 S=>?_)) λσ2 H7 h5=>?_
 ·clear O
  refine jS W8 (pH (lo:=6) Z Z (qB (k:=0) Z Z h0) (Ev.up (R:=Ci [G]) (qB (k:=1) Z Z I) λ_ _ e=>#[_,e,GF]) c PZ Z Z) λv9 H9 x9 W9 k9=>J _ _ ?_
  have M:al H5 H9:=(S.t.trans k9.t)
  exact#[_,Z,x9,W9,M]
 ·clear O
  exact J _ _ #[_,Z,(iR _ _ _ S.t x5),W8,S.t]
 obtain⟨b7,rfl,x7,W7,k7⟩:=h5
 refine O _ _ ?_
 clear O
 have L:al H3 H7:=((k4.t.trans k5.t).trans k7)
 refine QH W7 (CG (n1:=1) (n2:=2) (n3:=2) #[PZ,PZ,PZ] (Ev.up (jJ Z iR x7) (λ_ _ #[a,e,h]=>#[a,e,h.more P5])) (Ev.up (pH (lo:=7) Z Z (qB (k:=1) Z Z I) (jJ (P:=Ci [G,y2,y2]) Z (λ_ _ _ _ h=>h) x4) c PZ Z Z) (λ_ _ #[a,e,h]=>#[a,e,h.more P5])) (Ev.up (jJ Z iR (iR _ _ _ L x3)) (λ_ _ #[a,e,h]=>#[a,e,h.more P5]))) λv g x W'=>?_
 obtain⟨r,ds,xs,rfl,g0,g1,g2,g3,g4⟩:=x
 exact q r ds xs g g0 g1 g2 [1,2,2] #[by rw[g3.2];exact g3.1,by rw[g3.2];exact#[C,D]] g4 #[_,Z] W'.B W'.K
noncomputable abbrev nP:Stmt:=bL 74
theorem Bz(h:0<=d)(H:d < 4):∃m:Int,dA [V.int 3,.int 3,.int 3,.int 8] d=some (.int m)/\3<=m/\m<=8:=by
 rcases(by omega:d=0∨d=1∨d=2∨d=3) with rfl |rfl |rfl |rfl
 ·exact#[3,Z,PZ,PZ]
 ·exact#[3,Z,PZ,PZ]
 ·exact#[3,Z,PZ,PZ]
 ·exact#[8,Z,PZ,PZ]
theorem yI(h:cg H D v)(f:0<=k)(g:k < (v.length:Int)):∃d,dA v k=some (.ref d.p)/\d∈D/\xE H d (.ref d.p):=by
 have a:k.toNat < v.length:=by omega
 have E:k=((k.toNat:Nat):Int):=by omega
 obtain⟨d,c,b⟩:=h.at k.toNat _ (Gc a)
 have e:v[k.toNat]= .ref d.p:=b.elim λ_ z=>z.1
 refine#[d,?_,GP c,by rw[<- e];exact b]
 rw[E]
 exact jH (by rw[<- e];exact Gc a)
def BV(H:Hp)(D:List Df)(v a:V):Prop:=∃(d:Df) (p:List Str) (t:Addr) (I:List Int),d∈D/\v= .str d.f/\H d.pa=some (.tup (p.map V.str))/\a= .ref t/\H t=some (.tup (I.map V.int))/\I.length=p.length/\I.length<=100/\∀i∈I,0<=i/\i < 1000000000000000000
inductive lh(b:List V)(H:Hp)(Q:VK)(a:XK):Prop
 |mk(p:Addr)(_:b=[.ref p])(_:aq H p)(_:∀(t r:Addr) (v2 v3:V) (ds:List Df) (xs:List V) (H':Hp),H' t=some (.tup [.ref r,v2,v3])->H' r=some (.tup xs)->cg H' ds xs->1<=ds.length->ds.length<=8->∀ns,oN ds ns->lI H' ds ns->BV H' ds v2 v3->aq H' p->aB p H H'->Q (.ref t) H')
theorem eQ:aj z40z z2z (aa nP):=bK
noncomputable def XS:Scope:=#[.function,[(".0",.local),("_law_one",.local),("_law_number",.globalImplicit),("_law_box_here",.free)],false,false,[]]
theorem rh:(["_law_one","_law_box_here"]:List Str).Nodup:=by decide+kernel
theorem oX:bG z40z (aa nP) XS ["_law_one","_law_box_here"] 1 [0]:=oY
theorem vU(F:aN K "_law_case" "_law_case" nP f fd)(M:Cl P w K mg base 1 fT f0 z0z aZ "_law_take")(cN:Cl P w K mg base 2 fN f3 z2z gJ "_law_number")(cY:Cl P w K mg base 4 fY f4 z2z lg "_law_busy")(cZ:Cl P w K mg base 22 fZ f5 z33z nZ "_law_any")(ml:mg "len"=none)(m0:mg "tuple"=none):ah P w K mg base ay 23 f fd z2z lh:=by
 refine F.ok eQ ?_ λc0 A o1 s H vs Q E y h=>?_
 ·rintro _ _ _ _ ⟨p,rfl,_⟩
  rfl
 obtain⟨p,rfl,B,q⟩:=h
 refine#[_,(jd (jv (jz Jn (M.e y.m (ja (pv 0) (ja jf jb))) jf (aD _)) (jd (jy 1 eQ.nd (cY.e y.m (ja (pv 0) jb))) (jg (jo (jh (ja (pv 1) (ja (jx (jr jM (pv 1) jf (λ_ _=>Z))) (ja (jh (ja (M.e y.m (ja (pv 0) (ja jf jb))) jb)) jb))))))) jp) (jd (jy 2 eQ.nd (jr jq (jF (ja jf (ja jf (ja jf (ja jf jb))))) (M.e y.m (ja (pv 0) (ja jf jb))) (λ_ _=>Z))) (jd (jy 1 eQ.nd (cZ.e y.m (ja (pv 0) (ja (ju jY jf (M.e y.m (ja (pv 0) (ja (pv 2) jb)))) (ja jf jb))))) (jd (zb (jr jM (pv 1) (M.e y.m (ja (pv 0) (ja (jN jK Z ml HJ (ja (pv 1) jb)) jb))) (λ_ _=>Z)) (zV (n:=3) Z (jB (jw (i:=3) eQ.nd Z (Or.inl Z)) (jB (jw (i:=4) eQ.nd Z (Or.inl Z)) (jB (jw (i:=5) eQ.nd Z (Or.inl Z)) kN))))) (jg (jo (jh (ja (pv 1) (ja (pv 3) (ja (jD jI Z m0 Ib (ja (@zd _ _ _ _ _ _ _ (["_law_one","_law_box_here"]) (1) ([0]) _ _ _ _ Z (zI (pv 4)) oX (λ_ _ _ _ _=>(jw (i:=0) rh Z (Or.inl Z))) (λ_ _ _ _ _=>(@zA _)) (λ_ _ _ _ _=>(cN.e y.m (ja (pv 1) jb))) (by intro _;rfl)) jb)) jb)))))))))),?_]
 have b0:=aE
 refine ai λF1 a=>nG λG1 g1=>#[_,Z,p,3,Z,B,PZ,PZ,λd1 H1 a0 a1 B1 e1=>#[_,_,Z,Z,_,Z,g1 _ _ ?_]]
 clear g1
 have k1:aB p H H1:=aB.of_eq e1
 refine bP (λc=>?_) (λc=>a _ _ ?_)
 ·clear a
  refine ai λF2 f2=>#[_,Z,p,Z,B1,λr ds xs H2 N C hl ns D b O B2 k2=>f2 _ _ ?_]
  clear f2
  have ln:=C.len
  obtain⟨nr,rfl⟩:=O
  cases ds with
  |nil=>cases hl
  |cons d r0=>
  obtain⟨p0,R,S,_⟩:=b.2 0 d 1 Z Z
  have h0:=C
  obtain⟨u0,rr,rfl,⟨bs,rfl,hp,_⟩,_⟩:=h0
  have g:dA (V.ref d.p::rr) 0=some (.ref d.p):=eG
  refine#[_,Z,js N g #[d.p,_,_,_,Z,Z,aw.of hp,eG,_,Z,p,6,Z,B2,PZ,PZ,λd3 H3 d0 d4 B3 e3=>?_]]
  have c3:aB p H2 H3:=aB.of_eq e3
  refine#[iG,λu nu=>#[gn,λt U=>?_]]
  have s4:ae H3 (af (af H3 u (.tup [.int d3])) t (.tup [.ref r,.str d.f,.ref u])):=(je nu).trans (je U)
  have T:=(c3.tm B2).trans (ae.tm s4)
  exact q t r _ _ _ _ _ jc (T _ _ N) (C.mono T) P0 P0 _ D (b.mono T) #[d,p0,u,[d3],GF,Z,T _ _ R,Z,ao jc U,by rw[S];rfl,(by show 1<=100;decide),λi hi=>by rw[List.mem_singleton.mp hi];omega] (B3.same s4) ((k1.trans k2).trans (c3.trans (aB.of_same s4)))
 clear a
 refine ai λF1 a=>#[oK,λl W=>#[_,Z,p,4,Z,B1.upd_new W,PZ,PZ,λd2 H2 d6 d7 B2 e2=>?_]]
 have k2:aB p H1 H2:=((aB.refl).upd_new W).trans (aB.of_eq e2)
 obtain⟨m,g,m3,m8⟩:=Bz d6 d7
 refine#[l,_,_,_,Z,Z,aH.of (by rw[e2 l (B1.ne W)];exact jc),g,a _ _ ?_]
 clear a
 refine ai λF1 a=>#[_,Z,_,Z,_,Z,p,m,Z,B2,P0,P0,λd3 H3 d0 d4 B3 e3=>#[_,_,Z,Z,p,1+d3,12,Z,B3,P0,P0,PZ,PZ,λr ds xs H4 G C hl ns D b B4 k4=>a _ _ ?_]]
 clear a
 have ln:=C.len
 have K4:aB p H H4:=(k1.trans k2).trans ((aB.of_eq e3).trans k4)
 refine ai λF1 a=>#[_,Z,_,Z,_,Z,r,_,Z,.inr (aw.of G),p,_,Z,B4,P0,P0,λd5 H5 d8 d' B5 e5=>?_]
 have c5:aB p H4 H5:=aB.of_eq e5
 have o:=c5.tm B4
 obtain⟨d,g,hd,bs,e,hp,_⟩:=yI (C.mono o) d8 d'
 refine#[r,_,_,_,Z,Z,aw.of (o _ _ G),g,d.p,_,Z,aw.of hp,Z,_,_,Z,_,_,Z,_,_,Z,Z,a _ _ ?_]
 clear a
 obtain⟨pv,X,h4⟩:=b.v d hd
 have z:=o _ _ X
 refine#[_,Z,_,Z,_,Z,d.pa,Z,#[_,aw.of z],?_]
 refine qg (K:=K) (xs:=pv.map V.str) (by rw[Gg];omega) (λi L J=>(∃I:List Int,L=I.map V.int/\I.length=i/\∀j∈I,0<=j/\j < 1000000000000000000)/\aq J p/\aB p H5 J) #[#[[],Z,Z,(λ_ h=>nomatch h)],B5,aB.refl] (λi L J k=>?_) (λi x L J hx k=>?_) (λL J k l W=>?_)
 ·exact#[aw.of (k.2.2.tm B5 _ _ z),let #[I,e,l,_]:=k.1;by rw[e,Gg,l];exact Gh _]
 ·exact#[_,Z,p,Z,k.2.1,λe H7 e0 e1 B7 e7=>#[let #[I,h1,l,h2]:=k.1;#[I++[e],by rw[h1,GY];rfl,by rw[Gi,l];rfl,qR h2 #[e0,e1]],B7,k.2.2.trans (aB.of_eq e7)]]
 ·refine#[l,_,Z,.inl #[aH.of jc,λl2 n0=>#[gn,λt U=>?_]]]
  have s7:ae J (af (af (af J l (.lst L)) l2 (.tup L)) t (.tup [.ref r,.str d.f,.ref l2])):=((je W).trans (je n0)).trans (je U)
  have T:=o.trans ((k.2.2.tm B5).trans (ae.tm s7))
  obtain⟨I,hz,Y,h3⟩:=k.1
  rw[Gg]at Y
  exact q t r _ _ ds xs _ jc (T _ _ G) (C.mono T) P0 P0 ns D (b.mono T) #[d,pv,l2,I,hd,Z,T _ _ X,Z,by rw[<- hz];exact ao jc U,Y,P0,h3] (k.2.1.same s7) (K4.trans (c5.trans (k.2.2.trans (aB.of_same s7))))
noncomputable abbrev iY:Stmt:=bL 12
noncomputable abbrev i9:Stmt:=bL 13
abbrev aJ:=List (bh×V)
def eK(x:Int):Prop:=0<=x/\x < 1000000000000000000
def GT(k:aJ):Prop:=∀p∈k,∃i,p.2= .int i/\eK i
theorem GT.nil:GT []:=λ_ h=>absurd h GU
theorem GT.put(h:GT a)(k:bh)(H:eK i):GT (aY a k (.int i)):=by
 intro p hp
 unfold aY at hp
 split at hp
 ·obtain⟨q,b,rfl⟩:=List.mem_map.mp hp
  by_cases e:q.1=k
  ·rw[Gw e];exact#[i,Z,H]
  ·rw[GG e];exact h q b
 ·rcases List.mem_append.mp hp with hp |hp
  ·exact h p hp
  ·rw[List.mem_singleton.mp hp];exact#[i,Z,H]
theorem GT.val(h:GT a)(e:bg a k=some v):∃i,v= .int i/\eK i:=by
 unfold bg at e
 obtain⟨p,H,rfl⟩:=Option.map_eq_some_iff.mp e
 exact h p (List.mem_of_find?_eq_some H)
noncomputable def look(a:aJ)(k:bh)(z:Int):Int:=match bg a k with
 |some (.int i)=>i
 |_=>z
theorem Kg(h:GT a)(k:bh)(z:Int):(bg a k).getD (.int z)= .int (look a k z):=by
 unfold look
 cases e:bg a k with
 |none=>rfl
 |some v=>obtain⟨i,rfl,_⟩:=h.val e;rfl
theorem ZX(h:GT a)(e:bg a k=some v)(z:Int):v= .int (look a k z):=by
 unfold look
 obtain⟨i,rfl,_⟩:=h.val e
 rw[e]
theorem Qv(e:bg a k=none)(z:Int):look a k z=z:=by
 unfold look
 rw[e]
theorem JL(h:GT a)(H:eK z):eK (look a k z):=by
 unfold look
 cases e:bg a k with
 |none=>exact H
 |some v=>obtain⟨i,rfl,b⟩:=h.val e;exact b
theorem qM:eK 0:=#[PZ,PZ]
noncomputable def jn(i:Nat)(x y:Int):Int:=match i with
 |0=>(x+y) % 1000000000000000000
 |1=>(x - y) % 1000000000000000000
 |2=>x*y % 1000000000000000000
 |3=>if y=0 then 0 else x / y
 |4=>if x < y then 1 else 0
 |_=>if x=y then 1 else 0
noncomputable def Tm.ev(k:aJ):Tm->Int
 | .num n=>n
 | .var x=>look k (.inr x) 0
 | .op i a b=>jn i (a.ev k) (b.ev k)
theorem CT(H:eK x)(c:eK y):eK (jn i x y):=by
 have a:(1000000000000000000:Int)≠0:=by decide
 have b:(0:Int) < 1000000000000000000:=by decide
 match i with
 |0=>exact#[Hv _ a,Hj _ b]
 |1=>exact#[Hv _ a,Hj _ b]
 |2=>exact#[Hv _ a,Hj _ b]
 |3=>
  show eK (if y=0 then 0 else x / y)
  by_cases h:y=0
  ·rw[Gw h];exact#[PZ,PZ]
  ·rw[GG h]
   have e:=c.1
   have d:0 < y:=by omega
   refine#[Oz H.1 P0,Int.lt_of_le_of_lt ?_ H.2]
   exact Int.ediv_le_self _ H.1
 |4=>
  show eK (if x < y then 1 else 0)
  split<;>exact#[PZ,PZ]
 |n+5=>
  show eK (if x=y then 1 else 0)
  split<;>exact#[PZ,PZ]
theorem qC(g:GT k):∀{t:Tm},t.Good y->eK (t.ev k)
 | .num _,h=>h
 | .var x,_=>JL g qM
 | .op _ _ _,h=>CT (qC g h.2.1) (qC g h.2.2)
inductive ig(b:List V)(H:Hp)(Q:VK)(a:XK):Prop
 |mk(i:Nat)(x y:Int)(_:b=[.str (EK i),.int x,.int y])(_:i < 6)(_:eK x)(_:eK y)(_:Q (.int (jn i x y)) H)
def Fm(K:Frag)(H:Hp)(T:Tm)(a:Addr):Prop:=bj H T a∨(T= .num 0/\aw K H a [.str "num",.int 0])
inductive cf(K:Frag)(n:Nat)(e:List V)(H:Hp)(Q:VK)(b:XK):Prop
 |mk(a d:Addr)(T:Tm)(f:List Str)(c:aJ)(_:e=[.ref a,.ref d])(_:Fm K H T a)(_:T.depth < n)(_:T.Good f)(_:H d=some (.dK c))(_:GT c)(_:Q (.int (T.ev c)) H)
theorem sX:aj z21z z21z (aa iY):=bK
theorem ZY(F:aN K "joined" "joined" iY f b)(m:mg "TOP"=some (.int 1000000000000000000 t)):ah P w K mg base ay 1 f b z21z ig:=by
 refine F.ok sX (λd H Q E h=>?_) (λe A o s H d Q E r h=>?_)
 ·obtain⟨i,x,y,rfl,_⟩:=h
  rfl
 obtain⟨i,x,y,rfl,u,g,j,q⟩:=h
 refine#[_,(jd (jv (j5 (pv 0)) (jg (jo (ju kQ (ju jY (pv 1) (pv 2)) (qF (v:=.int 1000000000000000000) Z m #[_,Z])))) jp) (jd (jv (j5 (pv 0)) (jg (jo (ju kQ (ju kP (pv 1) (pv 2)) (qF (v:=.int 1000000000000000000) Z m #[_,Z])))) jp) (jd (jv (j5 (pv 0)) (jg (jo (ju kQ (ju zi (pv 1) (pv 2)) (qF (v:=.int 1000000000000000000) Z m #[_,Z])))) jp) (jd (jv (j5 (pv 0)) (jg (jo (kB (za (pv 2)) jf (ju Kc (pv 1) (pv 2))))) jp) (jd (jv (j5 (pv 0)) (jg (jo (kB (jz K0 (pv 1) (pv 2) (aD _)) jf jf))) jp) (jg (jo (kB (jz qi (pv 1) (pv 2) (aD _)) jf jf)))))))),?_]
 obtain⟨k,l⟩:=g
 obtain⟨n,p⟩:=j
 rcases(by omega:i=0∨i=1∨i=2∨i=3∨i=4∨i=5) with rfl |rfl |rfl |rfl |rfl |rfl
 ·refine#[_,Z,Z,_,Z,cn P6 ?_]
  exact#[_,Z,_,Z,_,_,Z,Z,_,_,Z,Z,(by show(0:Int) < 1000000000000000000;decide),q]
 ·refine#[_,Z,Z,_,Z,aS P6 ?_]
  refine#[_,Z,Z,_,Z,cn P6 ?_]
  exact#[_,Z,_,Z,_,_,Z,Z,_,_,Z,Z,(by show(0:Int) < 1000000000000000000;decide),q]
 ·refine#[_,Z,Z,_,Z,aS P6 ?_]
  refine#[_,Z,Z,_,Z,aS P6 ?_]
  refine#[_,Z,Z,_,Z,cn P6 ?_]
  exact#[_,Z,_,Z,_,_,Z,Z,.inl #[P0,P0],_,_,Z,Z,(by show(0:Int) < 1000000000000000000;decide),q]
 ·refine#[_,Z,Z,_,Z,aS P6 ?_]
  refine#[_,Z,Z,_,Z,aS P6 ?_]
  refine#[_,Z,Z,_,Z,aS P6 ?_]
  refine#[_,Z,Z,_,Z,cn P6 ?_]
  have a:Q (.int (if y=0 then 0 else x / y)) H:=q
  refine#[_,Z,Z,_,Z,?_]
  refine bP (λc=>?_) (λc=>?_)
  ·have C:V.int y=V.int 0:=HK c
   injection C with C
   rw[Gw C]at a
   exact a
  ·have C:y≠0:=λz=>c (by rw[z];rfl)
   rw[GG C]at a
   exact#[_,Z,_,Z,_,_,Z,Z,#[P0,P0],a]
 ·refine#[_,Z,Z,_,Z,aS P6 ?_]
  refine#[_,Z,Z,_,Z,aS P6 ?_]
  refine#[_,Z,Z,_,Z,aS P6 ?_]
  refine#[_,Z,Z,_,Z,aS P6 ?_]
  refine#[_,Z,Z,_,Z,cn P6 ?_]
  have a:Q (.int (if x < y then 1 else 0)) H:=q
  refine#[_,Z,_,Z,_,_,Z,Z,_,Z,?_]
  refine bP (λc=>?_) (λc=>?_)
  ·rw[Gw (HK c)]at a
   exact a
  ·rw[GG (Mb (Bool.eq_false_iff.mpr c))]at a
   exact a
 ·refine#[_,Z,Z,_,Z,aS P6 ?_]
  refine#[_,Z,Z,_,Z,aS P6 ?_]
  refine#[_,Z,Z,_,Z,aS P6 ?_]
  refine#[_,Z,Z,_,Z,aS P6 ?_]
  refine#[_,Z,Z,_,Z,aS P6 ?_]
  have a:Q (.int (if x=y then 1 else 0)) H:=q
  refine#[_,Z,_,Z,Z,_,Z,?_]
  refine bP (λc=>?_) (λc=>?_)
  ·have C:V.int x=V.int y:=HK c
   injection C with C
   rw[Gw C]at a
   exact a
  ·have C:x≠y:=λz=>c (by rw[z];exact G8 Z)
   rw[GG C]at a
   exact a
theorem wU:aj z9z z9z (aa i9):=bK
theorem rS(F:aN K "worth" "worth" i9 f p)(C:Cl P w K mg base (n+1) f p z9z (cf K n) "worth")(v:Cl P w K mg base 1 R B z21z ig "joined"):ah P w K mg base ay (n+2) f p z9z (cf K (n+1)):=by
 refine F.ok wU (λV H Q E h=>?_) (λD A o s H V Q E j h=>?_)
 ·obtain⟨a,d,T,y,c,rfl,_⟩:=h
  rfl
 obtain⟨a,d,T,y,c,rfl,t,I,g,l,G,q⟩:=h
 refine#[_,(jd (jv (j5 (jx (pv 0))) (jg (jo (jx (pv 0)))) jp) (jd (jv (j5 (jx (pv 0))) (jg (jo (@Kf _ _ _ _ _ _ _ _ _ (zc j) (pv 1) (jx (pv 0)) jf #[P7,P7,P7,P7]))) jp) (jg (jo (v.e j.m (ja (jx (pv 0)) (ja (C.e j (ja (jx (pv 0)) (ja (pv 1) jb))) (ja (C.e j (ja (jx (pv 0)) (ja (pv 1) jb))) jb)))))))),?_]
 cases T with
 |num m=>
  have b:aw K H a [.str "num",.int m]:=t.elim (λh=>aw.of h) λz=>by cases z.1;exact z.2
  refine#[_,Z,a,_,_,_,Z,Z,b,Z,Z,_,Z,cn P6 ?_]
  exact#[_,Z,a,_,_,_,Z,Z,b,Z,q]
 |var x=>
  have b:H a=some (.tup [.str "var",.str x]):=t.resolve_right λz=>by cases z.1
  refine(js b Z #[Z,_,Z,aS P6 ?_])
  refine(js b Z #[Z,_,Z,cn P6 ?_])
  refine#[_,Z,d,Z,.inl #[c,.inl l],js b Z #[_,dH.k (k:=Sum.inr x) l,?_]]
  rw[Kg G]
  exact q
 |op i r u=>
  obtain⟨J,L,b,M,N⟩:=t.resolve_right λz=>by cases z.1
  have O:max r.depth u.depth+1 < n+1:=I
  refine(js b Z #[Z,_,Z,aS P6 ?_])
  refine(js b Z #[Z,_,Z,aS P6 ?_])
  refine(js b Z ?_)
  refine(js b Z #[_,Z,J,d,r,y,c,Z,.inl M,P0,g.2.1,l,G,?_])
  refine(js b Z #[_,Z,L,d,u,y,c,Z,.inl N,P0,g.2.2,l,G,?_])
  exact#[i,_,_,Z,g.1,qC G g.2.1,qC G g.2.2,q]
theorem rC:ah P w K mg base ay 1 f e z9z (cf K 0):=by
 have n:∀v H Q E,¬cf K 0 v H Q E:=λv H Q E h=>by
  obtain⟨a,d,T,y,k,_,_,c,_⟩:=h
  exact absurd c (Lm _)
 exact#[λv H Q E h=>absurd h (n v H Q E),λA o s H b u v Q E _ _ _ _ h=>absurd h (n v H Q E)]
theorem uu(F:aN K "worth" "worth" i9 f a)(b:au K a z9z [])(m:mg "worth"=some (.ref f))(c:Cl P w K mg base 1 e d z21z ig "joined"):
  ∀n:Nat,ah P w K mg base ay (n+1) f a z9z (cf K n)
 |0=>rC
 |n+1=>rS F #[(uu F b m c n),b,F.kp,m] c
def TV(H:Hp)(y:List Str)(t:Addr)(T:Tm):Prop:=bj H T t/\df y T
theorem TV.mono(k:al H a)(h:TV H y t T):TV a y t T:=#[h.1.mono k,h.2]
inductive Gl where
 |give (t:Addr) (T:Tm) |nought |go (n:Nat)
structure WD where
 sets:List (Str×Addr×Tm)
 goal:Gl
noncomputable def Gl.gol(N:Addr):Gl->D0
 | .give t _=>.give t
 | .nought=>.give N
 | .go n=>.go (n:Int)
noncomputable def WD.wy(n:Addr)(w:WD):Wy:=#[w.sets.map λs=>(s.1,s.2.1),w.goal.gol n]
def BZ(H:Hp)(y:List Str)(m:Nat):Gl->Prop
 | .give t T=>TV H y t T
 | .nought=>True
 | .go n=>n < m
structure uE(H:Hp)(ys:List Str)(m N:Nat)(w:WD):Prop where
 sets:∀s∈w.sets,TV H ys s.2.1 s.2.2
 len:w.sets.length<=N
 goal:BZ H ys m w.goal
def lM(H:Hp)(y:List Str)(n:Addr)(m N:Nat)(w:Wy):Prop:=∃d:WD,d.wy n=w/\uE H y m N d
def Fb(F:gW)(H:Hp)(y:List Str):Dd->Prop
 | .st p=>∃(l:Lf) (v:List V),H p=some (.tup v)/\uP H l v/\l.Ok y/\l.isCut=true/\l.Cs F
 | .ask t=>∃T,TV H y t T
noncomputable def Dd.ways:Dd->Nat
 | .st _=>1
 | .ask _=>2
structure uJ(F:gW)(H:Hp)(ys:List Str)(nA:Addr)(m N:Nat)(c:Ct):Prop where
 mem:∀x,c.M x->x∈ys
 deed:Fb F H ys c.d
 ways:∀w∈c.ws,lM H ys nA m N w
 len:c.ws.length=c.d.ways
structure uD(H:Hp)(ys:List Str)(nA:Addr)(m N:Nat)(pc:Pc):Prop where
 mem:∀x,pc.M x->x∈ys
 way:lM H ys nA m N pc.w
section
variable {F:gW}{H H':Hp}{ys:List Str}{nA:Addr}{m N N':Nat}
theorem BZ.mono(k:al H H')(h:BZ H ys m g):BZ H' ys m g:=by
 cases g with
 |give t T=>exact TV.mono k h
 |nought=>trivial
 |go n=>exact h
theorem uE.mono(k:al H H'){w:WD}(h:uE H ys m N w):uE H' ys m N w:=#[λs a=>(h.sets s a).mono k,h.len,h.goal.mono k]
theorem lM.up(a:N<=N'){w:Wy}(h:lM H ys nA m N w):lM H ys nA m N' w:=let #[d,e,v]:=h;#[d,e,v.sets,Gr v.len a,v.goal]
theorem uJ.up(a:N<=N')(h:uJ F H ys nA m N c):uJ F H ys nA m N' c:=#[h.mem,h.deed,λw b=>(h.ways w b).up a,h.len]
theorem uD.up(a:N<=N')(h:uD H ys nA m N p):uD H ys nA m N' p:=#[h.mem,h.way.up a]
theorem XZ{n:Nat}(a:k=(n:Int))(b:n < m):lM H ys nA m N #[[],.go k]:=#[#[[],.go n],by rw[a];rfl,(λ_ h=>absurd h GU),Gp _,b]
theorem J2:∀(b:Bd) {X:List V} {g:Pc} {fs:List Ct} {N:Nat},dn H b X->b.Ok ys->b.Cs F->uD H ys nA m N g->(∀c∈fs,uJ F H ys nA m N c)->fs.length+b.cuts<=m->
  uD H ys nA m (N+b.size) (pB (m:Int) b g fs).1/\∀c∈(pB (m:Int) b g fs).2,uJ F H ys nA m (N+b.size) c
 | .nil,_,_,_,_,_,_,_,o,y,_=>#[o,y]
 | .lf p l r,X,g,fs,N,C,i,k,o,y,D=>by
  obtain⟨vs,zs,_,h1,I,h3⟩:=C
  have E:fs.length+(l.cut+r.cuts)<=m:=D
  obtain⟨R,A⟩:=J2 r h3 i.2 k.2 o y P0
  have hl:=j8 (m:Int) r g fs
  have S:N+r.size<=N+(r.size+1):=by omega
  have j:=Lf.use_in i.1 R.mem
  have J:l.isCut=true->l.cut=1->uD H ys nA m (N+(r.size+1)) #[l.use (pB (m:Int) r g fs).1.M,#[[],.go ((m:Int) - ((pB (m:Int) r g fs).2.length:Int) - 1)]]/\∀c∈(pB (m:Int) r g fs).2++[#[l.use (pB (m:Int) r g fs).1.M,.st p,[(pB (m:Int) r g fs).1.w]]],uJ F H ys nA m (N+(r.size+1)) c:=λG h0=>
   #[#[j,XZ (n:=m - (fs.length+r.cuts) - 1) (by rw[hl];omega) P0],λc L=>by
    rcases List.mem_append.mp L with z |z
    ·exact(A c z).up S
    ·rw[List.mem_singleton.mp z]
     exact#[j,#[l,vs,h1,I,i.1,G,k.1],λw hw=>by rw[List.mem_singleton.mp hw];exact R.way.up S,Z]]
  show uD H ys nA m (N+(r.size+1)) (pL (m:Int) p l (pB (m:Int) r g fs)).1/\∀c∈(pL (m:Int) p l (pB (m:Int) r g fs)).2,uJ F H ys nA m (N+(r.size+1)) c
  cases l with
  |gv t T=>exact#[#[j,#[#[[],.give t T],Z,(λ_ h=>absurd h GU),Gp _,I.2,i.1]],λc G=>(A c G).up S]
  |st x t T=>
   refine#[#[j,?_],λc G=>(A c G).up S]
   show lM H ys nA m _ (hV x t (pB (m:Int) r g fs).1)
   unfold hV
   split
   ·obtain⟨d,e,v⟩:=R.way
    refine#[#[(x,t,T)::d.sets,d.goal],by rw[<- e];rfl,λs hs=>?_,HY v.len,v.goal]
    rcases List.mem_cons.mp hs with rfl |hs
    ·exact#[I.2,i.1.2]
    ·exact v.sets s hs
   ·exact R.way.up S
  |rd x t T |wr t u T U |cl x f q ts=>exact J Z Z
 | .ite p t T a c r,X,g,fs,N,C,i,k,o,y,D=>by
  obtain⟨qa,qb,as,bs,zs,_,g1,O,g2,g3,Q,g5,W⟩:=C
  have E:fs.length+(1+a.cuts+c.cuts+r.cuts)<=m:=D
  obtain⟨R,A⟩:=J2 r W i.2.2.2 k.2.2 o y P0
  have B:=j8 (m:Int) r g fs
  obtain⟨c1,c2⟩:=J2 c g5 i.2.2.1 k.2.1 R A P0
  have h4:=j8 (m:Int) c (pB (m:Int) r g fs).1 (pB (m:Int) r g fs).2
  obtain⟨Y,a2⟩:=J2 a Q i.2.1 k.1 (R.up (Il _ _)) c2 P0
  have S:N+r.size+c.size+a.size<=N+(a.size+c.size+r.size+1):=by omega
  have j:∀x,(Bd.ite p t T a c .nil).use (pB (m:Int) r g fs).1.M x->x∈ys:=Bd.use_in #[i.1,i.2.1,i.2.2.1,trivial] R.mem
  have hk:(m:Int) - ((pB (m:Int) r g fs).2.length:Int) - ((Bd.ite p t T a c .nil).cuts:Int)=((m - (fs.length+r.cuts) - (1+a.cuts+c.cuts):Nat):Int):=by
   show(m:Int) - _ - ((1+a.cuts+c.cuts+0:Nat):Int)=_
   rw[B]
   omega
  unfold pB
  dsimp only
  refine#[#[j,XZ hk P0],λe he=>?_]
  rcases List.mem_append.mp he with z |z
  ·exact(a2 e z).up S
  ·rw[List.mem_singleton.mp z]
   refine#[j,#[T,O,i.1],λw hw=>?_,Z]
   rcases List.mem_cons.mp hw with rfl |hw
   ·exact Y.way.up S
   ·rw[List.mem_singleton.mp hw]
    exact c1.way.up (by show _<=N+(a.size+c.size+r.size+1);omega)
 | .loop p t T a r,X,g,fs,N,C,i,k,o,y,D=>by
  obtain⟨qa,as,zs,_,g1,O,g2,Q,W⟩:=C
  have E:fs.length+(1+a.cuts+r.cuts)<=m:=D
  obtain⟨R,A⟩:=J2 r W i.2.2 k.2 o y P0
  have B:=j8 (m:Int) r g fs
  have j:∀x,(Bd.loop p t T a .nil).use (pB (m:Int) r g fs).1.M x->x∈ys:=Bd.use_in #[i.1,i.2.1,trivial] R.mem
  have hk:(m:Int) - ((pB (m:Int) r g fs).2.length:Int) - ((Bd.loop p t T a .nil).cuts:Int)=((m - (fs.length+r.cuts) - (1+a.cuts):Nat):Int):=by
   show(m:Int) - _ - ((1+a.cuts+0:Nat):Int)=_
   rw[B]
   omega
  have pl:uD H ys nA m (N+r.size) #[(Bd.loop p t T a .nil).use (pB (m:Int) r g fs).1.M,#[[],.go ((m:Int) - ((pB (m:Int) r g fs).2.length:Int) - ((Bd.loop p t T a .nil).cuts:Int))]]:=#[j,XZ hk P0]
  obtain⟨Y,a2⟩:=J2 a Q i.2.1 k.1 pl A P0
  have S:N+r.size+a.size<=N+(a.size+r.size+1):=by omega
  unfold pB
  dsimp only
  refine#[pl.up (by show _<=N+(a.size+r.size+1);omega),λe he=>?_]
  rcases List.mem_append.mp he with z |z
  ·exact(a2 e z).up S
  ·rw[List.mem_singleton.mp z]
   refine#[j,#[T,O,i.1],λw hw=>?_,Z]
   rcases List.mem_cons.mp hw with rfl |hw
   ·exact Y.way.up S
   ·rw[List.mem_singleton.mp hw]
    exact R.way.up (by show _<=N+(a.size+r.size+1);omega)
end
noncomputable def bM(n:Addr)(d:Df):List Ct:=(gI n d).2.reverse
theorem Y6(n:Addr)(d:Df):(bM n d).length=d.b.cuts:=by
 unfold bM
 rw[NG]
 exact(j8 _ _ _ _).trans (LU _)
theorem yc{nA:Addr}{d:Df}(f:dn H d.b B)(g:d.b.Ok y):uD H y nA d.b.cuts d.b.size (gI nA d).1/\∀c∈bM nA d,uJ d.b.calls H y nA d.b.cuts d.b.size c:=by
 have p:uD H y nA d.b.cuts 0 (EE nA):=#[λx i=>absurd i GU,#[[],.nought],Z,(λ_ h=>absurd h GU),Gh _,trivial]
 obtain⟨a,e⟩:=J2 (m:=d.b.cuts) d.b f g (zq d.b) p (fs:=[]) (λ_ h=>absurd h GU) (by show 0+_<=_;omega)
 rw[LU]at a e
 exact#[a,λc j=>e c (List.mem_reverse.mp j)]
theorem Qw{M:Str->Prop}{y:List Str}(h:∀x,M x->x∈y):(canon M).length<=y.length:=by
 by_cases e:∃s,Nm s M
 ·obtain⟨s,H⟩:=e
  rw[<- H.canon]
  exact H.len h
 ·unfold canon
  rw[dif_neg e]
  exact Gp _
noncomputable def bZ:List (Str×Addr×Tm)->aJ->aJ
 | [],k=>k
 |s::r,k=>bZ r (aY k (.inr s.1) (.int (s.2.2.ev k)))
noncomputable def dE(N:Addr)(d:Df)(n:Nat):List Str:=match (bM N d)[n]? with
 |some c=>canon c.M
 |none=>[]
noncomputable def oE(N:Nat->List Str)(k:aJ):Gl->Tr
 | .give _ T=>aG [ba "give",aF (T.ev k)]
 | .nought=>aG [ba "give",aF 0]
 | .go n=>aG [ba "go",aF (n:Int),aG ((N n).map λx=>aF (look k (.inr x) 0))]
theorem zL{H:Hp}{ys:List Str}:∀{ss:List (Str×Addr×Tm)} {k:aJ},(∀s∈ss,TV H ys s.2.1 s.2.2)->GT k->GT (bZ ss k)
 | [],_,_,g=>g
 |s::r,k,h,g=>zL (H:=H) (ys:=ys) (ss:=r) (λS a=>h S (GJ _ a)) (g.put _ (qC g (h s GF).2.1))
theorem ZZ{S:List (Str×Addr×Tm)}:∀{i:Nat} {s:Str×Addr×Tm} {k:aJ},S[i]?=some s->bZ (S.take (i+1)) k=aY (bZ (S.take i) k) (.inr s.1) (.int (s.2.2.ev (bZ (S.take i) k))):=by
 induction S with
 |nil=>intro i s k h;simp at h
 |cons a r I=>
  intro i s k h
  cases i with
  |zero=>
   cases h
   rfl
  |succ i=>exact I (by simpa using h)
theorem kO{kvs:aJ}{k:bh}{v:V}:(aY kvs k v).length<=kvs.length+1:=by
 unfold aY
 split
 ·rw[Gg];exact Ic _
 ·rw[Gi];exact Gh _
theorem Xq:∀{ss:List (Str×Addr×Tm)} {k:aJ},(bZ ss k).length<=k.length+ss.length
 | [],_=>Gh _
 |s::r,k=>by
  have h:=Xq (ss:=r) (k:=aY k (.inr s.1) (.int (s.2.2.ev k)))
  have H:=kO (kvs:=k) (k:=.inr s.1) (v:=.int (s.2.2.ev k))
  show(bZ r _).length<=k.length+(r.length+1)
  omega
noncomputable def aR(n:List Str)(i:List Int):aJ:=bV [] ((n.map Sum.inr).zip (i.map V.int))
theorem Xr:∀{m:aJ} {k:aJ},GT k->GT m->GT (bV k m)
 | [],_,g,_=>g
 |p::r,k,g,h=>by
  obtain⟨i,e,H⟩:=h p GF
  have E:aY k p.1 p.2=aY k p.1 (.int i):=by rw[e]
  show GT (bV (aY k p.1 p.2) r)
  rw[E]
  exact Xr (g.put _ H) λq a=>h q (GJ _ a)
theorem qu(h:∀i∈I,eK i):GT (aR n I):=by
 refine Xr GT.nil λp H=>?_
 obtain⟨i,a,e⟩:=List.mem_map.mp (LX H).2
 exact#[i,e.symm,h i a]
theorem Y7{ns:List Str}{is:List Int}:(aR ns is).length<=ns.length:=by
 have h:=kX ((ns.map Sum.inr).zip (is.map V.int)) []
 rw[MM,Gg]at h
 show(bV [] _).length<=_
 have H:(bV [] ((ns.map Sum.inr).zip (is.map V.int))).length<=0+min ns.length (is.map V.int).length:=h
 omega
noncomputable abbrev mQ:Stmt:=bL 23
noncomputable abbrev iX:Stmt:=bL 24
noncomputable abbrev fe:Stmt:=bL 28
noncomputable abbrev iW:Stmt:=bL 29
noncomputable abbrev gY:Stmt:=bL 30
noncomputable abbrev i6:Stmt:=bL 31
structure lJ(H:Hp)(nA:Addr)(d:Df)(ys:List Str)(v:V):Prop where
 tr:aM H (eI nA d) v []
 bd:∃bs,dn H d.b bs
 ok:d.b.Ok ys
 y20:ys.length<=20
 sz:d.b.size<=3000
structure BX(H:Hp)(nA:Addr)(d:Df)(ys:List Str)(c:Ct)(ka na wa:Addr)(dv:V)(wvs:List V):Prop where
 at':H ka=some (.tup [.ref na,dv,.ref wa])
 nms:H na=some (.tup ((canon c.M).map V.str))
 deed:aM H (D7 c.d) dv []
 wat:H wa=some (.tup wvs)
 ways:aM H (aI (c.ws.map gM)) .non wvs
 v:uJ d.b.calls H ys nA d.b.cuts d.b.size c
theorem Y8:∀{S:List Str} {v:List V},aM H (aI (S.map ba)) .non v->v=S.map V.str
 | [],v,h=>h
 |s::S,v,h=>by
  obtain⟨_,_,y,Y,rfl,⟨rfl,_⟩,a⟩:=h
  rw[Y8 a]
  rfl
section
variable {H H':Hp}{nA:Addr}{d:Df}{ys:List Str}{v:V}
theorem lJ.mono(k:al H H')(h:lJ H nA d ys v):lJ H' nA d ys v:=#[h.tr.mono k,let #[b,a]:=h.bd;#[b,a.mono k],h.ok,h.y20,h.sz]
theorem lJ.parts(h:lJ H nA d ys v):∃(a c:Addr) (W:V) (C:List V),v= .ref a/\H a=some (.tup [.str d.f,.ref d.pa,W,.ref c])/\aM H (gM (gI nA d).1.w) W []/\H c=some (.tup C)/\aM H (aI ((bM nA d).map Cu)) .non C:=by
 obtain⟨_,a,x,rfl,i,_,_,n,Y,rfl,⟨rfl,_⟩,_,_,o,j,rfl,⟨rfl,_⟩,_,_,W,k,rfl,l,_,_,p,y,rfl,m,e⟩:=h.tr
 have e:y=[]:=e
 subst e
 obtain⟨_,c,C,rfl,b,g⟩:=m
 exact#[a,c,W,C,Z,i,l,b,g]
theorem lJ.cut{C:List V}(h:lJ H nA d ys v)(a:aM H (aI ((bM nA d).map Cu)) .non C){n:Nat}{c:Ct}(g:(bM nA d)[n]?=some c):∃k N i D W,C[n]?=some (.ref k)/\BX H nA d ys c k N i D W:=by
 have L:=kW a
 rw[Gg]at L
 have u:n < C.length:=by rw[L];exact(List.getElem?_eq_some_iff.mp g).1
 have j:C[n]?=some C[n]:=Gc u
 obtain⟨T,b,t⟩:=qr a n _ j
 rw[Gz,g]at b
 cases b
 obtain⟨B,y⟩:=h.bd
 have z:=(yc (nA:=nA) y h.ok).2 c (GP g)
 generalize C[n]=x at j t
 obtain⟨_,k,E,rfl,l,_,_,F,G,rfl,m,_,_,D,I,rfl,o,_,_,J,A,rfl,p,e⟩:=t
 have e:A=[]:=e
 subst e
 obtain⟨_,N,M,rfl,f,q⟩:=m
 obtain⟨_,i,W,rfl,r,s⟩:=p
 rw[Y8 q]at f
 exact#[k,N,i,D,W,j,l,f,o,r,s,z]
theorem lJ.way(h:lJ H nA d ys v):lM H ys nA d.b.cuts d.b.size (gI nA d).1.w:=let #[B,a]:=h.bd;(yc (nA:=nA) a h.ok).1.way
theorem rq(h:(bM nA d)[n]?=some c):dE nA d n=canon c.M:=by
 unfold dE
 rw[h]
end
structure Eo(H:Hp)(nA:Addr)(w:WD)(wa sa ga:Addr)(ss:List V)(wd:Str)(u:V):Prop where
 at':H wa=some (.tup [.ref sa,.ref ga])
 sat:H sa=some (.tup ss)
 sets:∀(i:Nat) (x:V),ss[i]?=some x->∃(s:Str×Addr×Tm) (p:Addr),w.sets[i]?=some s/\x= .ref p/\H p=some (.tup [.str s.1,.ref s.2.1])
 len:ss.length=w.sets.length
 gat:H ga=some (.tup [.str wd,u])
 goal:match w.goal with
  | .give t _=>wd="give"/\u= .ref t
  | .nought=>wd="give"/\u= .ref nA
  | .go n=>wd="go"/\u= .int (n:Int)
theorem xt{w:WD}(h:aM H (gM (w.wy N)) v []):∃(l S G:Addr) (A:List V) (W:Str) (u:V),v= .ref l/\Eo H N w l S G A W u:=by
 obtain⟨_,r,X,rfl,C,_,_,y0,D,rfl,⟨_,s,c,rfl,E,m⟩,_,_,Y,y,rfl,b,e⟩:=h
 have e:y=[]:=e
 subst e
 have L:=kW m
 have st:∀(i:Nat) (x:V),c[i]?=some x->∃(s:Str×Addr×Tm) (p:Addr),w.sets[i]?=some s/\x= .ref p/\H p=some (.tup [.str s.1,.ref s.2.1]):=λi x F=>by
  obtain⟨tr,o,I⟩:=qr m i x F
  rw[Gz]at o
  obtain⟨q,J,rfl⟩:=Option.map_eq_some_iff.mp o
  have a:(w.sets.map λs=>(s.1,s.2.1))[i]?=some q:=J
  rw[Gz]at a
  obtain⟨z,M,rfl⟩:=Option.map_eq_some_iff.mp a
  obtain⟨_,p,X,rfl,O,_,_,Q,R,rfl,⟨rfl,_⟩,_,_,U,B,rfl,⟨rfl,_⟩,e⟩:=I
  have e:B=[]:=e
  subst e
  exact#[z,p,M,Z,O]
 have ln:c.length=w.sets.length:=by
  rw[L,Gg]
  exact Gg ..
 have f:∀g:Gl,w.goal=g->aM H (vt (g.gol N)) Y []->∃(G:Addr) (W:Str) (u:V),Y= .ref G/\H G=some (.tup [.str W,u])/\match g with
  | .give t _=>W="give"/\u= .ref t
  | .nought=>W="give"/\u= .ref N
  | .go n=>W="go"/\u= .int (n:Int):=λg _ b=>by
  cases g with
  |give t T |nought |go n=>
   obtain⟨_,gl,X,rfl,d,_,_,Q,R,rfl,⟨rfl,_⟩,_,_,U,B,rfl,⟨rfl,_⟩,e⟩:=b
   have e:B=[]:=e
   subst e
   exact#[gl,_,_,Z,d,Z,Z]
 obtain⟨G,W,u,rfl,j,k⟩:=f w.goal Z b
 exact#[r,s,G,c,W,u,Z,C,E,st,ln,j,k]
inductive hX(b:Addr)(e:List V)(H:Hp)(Q:VK)(a:XK):Prop
 |mk(v:V)(n:Nat)(d:Df)(f:List Str)(c:Ct)(_:e=[v,.int (n:Int)])(_:lJ H b d f v)(_:(bM b d)[n]?=some c)(_:∀(ka na wa:Addr) (dv:V) (wvs:List V),BX H b d f c ka na wa dv wvs->Q (.ref ka) H)
inductive ie(f:Addr)(g:List V)(H:Hp)(Q:VK)(a:XK):Prop
 |mk(v:V)(n:Nat)(b:Addr)(d:Df)(h:List Str)(c:Ct)(e:List Int)(_:g=[v,.int (n:Int),.ref b])(_:lJ H f d h v)(_:(bM f d)[n]?=some c)(_:H b=some (.tup (e.map V.int)))(_:e.length=(canon c.M).length)(_:∀dd:Addr,H dd=none->Q (.ref dd) (af H dd (.dK (aR (canon c.M) e))))
theorem Y9:∀(s:List Str),(s.map (Sum.inr:Str->bh)).map kV=s.map V.str:=λs=>by rw[ID];rfl
theorem wS:aj ["part","n"] ["part","n"] (aa mQ):=bK
theorem rH{f:Addr}{g:FuncData}{N:Addr}(F:aN K "cut_at" "cut_at" mQ f g):ah P w K mg base ay 1 f g ["part","n"] (hX N):=by
 refine F.ok wS ?_ λl A o s H V Q E B h=>?_
 ·rintro _ _ _ _ ⟨v,n,d,y,c,rfl,_⟩
  rfl
 obtain⟨v,n,d,y,c,rfl,i,m,q⟩:=h
 refine#[_,(jg (jo (jr jM (jx (pv 0)) (pv 1) (λ_ _=>Z)))),?_]
 obtain⟨a,p,I,J,rfl,r,L,b,e⟩:=i.parts
 obtain⟨t,u,x,D,W,z,C⟩:=i.cut e m
 exact#[_,Z,a,_,_,_,Z,Z,aw.of r,jH (j:=3) Z,_,Z,p,_,_,_,Z,Z,aw.of b,jH z,q t u x D W C]
theorem sW:aj z13z z13z (aa iX):=bK
theorem Z0(F:aN K "held_at" "held_at" iX f g)(i:Cl P w K mg base 1 J j ["part","n"] (hX N) "cut_at")(m:mg "dict"=none)(a:mg "zip"=none):ah P w K mg base ay 2 f g z13z (ie N):=by
 refine F.ok sW ?_ λp A o s H V Q E r h=>?_
 ·rintro _ _ _ _ ⟨v,n,b,d,y,c,I,rfl,_⟩
  rfl
 obtain⟨v,n,b,d,y,c,I,rfl,t,u,x,z,q⟩:=h
 refine#[_,(jg (jo (@YX _ _ _ _ _ _ _ _ Z m Z a Z (ja (jr jM (i.e r (ja (pv 0) (ja (pv 1) jb))) jf (λ_ _=>Z)) (ja (pv 2) jb)) P7 P7 P7 P7))),?_]
 refine#[_,Z,_,Z,v,n,d,y,c,Z,t,u,λB D O R W C=>#[B,_,_,_,Z,Z,aw.of C.at',eG,_,Z,D,b,(canon c.M).map Sum.inr,_,Z,by rw[Y9];exact aw.of C.nms,aw.of x,by rw[Gg,Gg,z],λl G=>q l G]]
inductive Wh where
 |rd (a i:Int) |wr (a b:Int) |ask (b:Int) |cl (f:Str) (is:List Int) (i:Int)
def yx(H:Hp)(u:V):Wh->Prop
 | .rd a i=>∃p,u= .ref p/\H p=some (.tup [.str "read",.int a,.int i])
 | .wr a b=>∃p,u= .ref p/\H p=some (.tup [.str "write",.int a,.int b])
 | .ask b=>∃p,u= .ref p/\H p=some (.tup [.str "ask",.int b])
 | .cl f I i=>∃p c g e,u= .ref p/\H p=some (.tup [.str "call",.ref c])/\H c=some (.tup [.str f,.ref g,e,.int i])/\H g=some (.tup (I.map V.int))
theorem yx.mono{H d:Hp}(k:al H d){u:V}{w:Wh}(h:yx H u w):yx d u w:=by
 cases w with
 |rd a i |wr a b |ask b=>obtain⟨p,e,h⟩:=h;exact#[p,e,k _ _ h]
 |cl f I i=>obtain⟨p,c,g,e,E,j,l,m⟩:=h;exact#[p,c,g,e,E,k _ _ j,k _ _ l,k _ _ m]
inductive DD where
 |st (p:Addr) (l:Lf) |ask (t:Addr) (T:Tm)
noncomputable def DD.dd:DD->Dd
 | .st p _=>.st p
 | .ask t _=>.ask t
def uK(H:Hp)(y:List Str):DD->Prop
 | .st p l=>∃v,H p=some (.tup v)/\uP H l v/\l.Ok y/\l.isCut=true
 | .ask t T=>TV H y t T
theorem uK.mono(k:al H a)(h:uK H y d):uK a y d:=by
 cases d with
 |st p l=>obtain⟨v,b,c,e⟩:=h;exact#[v,k _ _ b,c.mono k,e]
 |ask t T=>exact TV.mono k h
def DD.Cs(F:gW):DD->Prop
 | .st _ l=>l.Cs F
 | .ask _ _=>True
theorem Cz{F:gW}(h:Fb F H y d):∃e:DD,e.dd=d/\uK H y e/\e.Cs F:=by
 cases d with
 |st p=>obtain⟨l,v,a,b,c,f,g⟩:=h;exact#[.st p l,Z,#[v,a,b,c,f],g]
 |ask t=>obtain⟨T,h⟩:=h;exact#[.ask t T,Z,h,trivial]
def BY:DD->Wh->Prop
 | .st _ (.rd _ _ _),.rd _ i=>eK i
 | .st _ (.wr _ _ _ _),.wr _ _=>True
 | .st _ (.cl _ _ _ _),.cl _ _ i=>eK i
 | .ask _ _,.ask b=>b=0∨b=1
 |_,_=>False
noncomputable def nD(d:DD)(w:Wh)(k:aJ):aJ:=match d,w with
 | .st _ (.rd x _ _),.rd _ i=>aY k (.inr x) (.int i)
 | .st _ (.cl x _ _ _),.cl _ _ i=>aY k (.inr x) (.int i)
 |_,_=>k
noncomputable def Wh.side:Wh->Nat
 | .ask b=>if b=0 then 1 else 0
 |_=>0
def pK(Q:VK)(H:Hp):Wh->Prop
 | .rd _ i=>Q (.int i) H
 | .cl _ _ i=>Q (.int i) H
 |_=>False
inductive eh(b:List V)(H:Hp)(Q:VK)(a:XK):Prop
 |mk(u:V)(w:Wh)(_:b=[u])(_:yx H u w)(_:pK Q H w)
inductive lW(c:Addr)(e:List V)(H:Hp)(Q:VK)(a:XK):Prop
 |mk(v f:V)(b:Addr)(d:Df)(g:List Str)(w:WD)(k:aJ)(_:e=[v,f,.ref b])(_:lJ H c d g v)(_:aM H (gM (w.wy c)) f [])(_:uE H g d.b.cuts d.b.size w)(_:H b=some (.dK k))(_:GT k)(_:k.length<=200)(_:∀(u:V) (H':Hp),aM H' (oE (dE c d) (bZ w.sets k) w.goal) u []->aB b H H'->Q u H')
inductive EI(c:Addr)(a:_L.St)(j:List (Str×Addr×Tm))(k:aJ)(H:Hp)(i:Nat)(l:_L.St)(b:Hp):Prop
 |mk(g h:Option V)(d:l=a++[g,h,none,none])(e:b c=some (.dK (bZ (j.take i) k)))(f:aB c H b)
theorem JM{H:Hp}:∀{is:List Int},aM H (aI (is.map aF)) .non (is.map V.int)
 | []=>rfl
 |i::is=>jl Z jT (JM (is:=is))
theorem iJ:aj ["what"] ["what"] (aa fe):=bK
theorem rK(F:aN K "found_in" "found_in" fe f n):ah P w K mg base ay 1 f n ["what"] eh:=by
 refine F.ok iJ ?_ λC A o s H v Q E t h=>?_
 ·rintro _ _ _ _ ⟨u,W,rfl,_⟩
  rfl
 obtain⟨u,W,rfl,d,q⟩:=h
 refine#[_,(jg (jo (kB (j5 (jx (pv 0))) (jx (jr jM (pv 0) jf (λ_ _=>Z))) (jr jM (pv 0) (rY XV jf) (λ_ _=>Z))))),?_]
 cases W with
 |rd a i=>
  obtain⟨p,rfl,l⟩:=d
  exact(js l eG #[Z,_,Z,aS P6 #[_,Z,_,Z,p,_,_,_,Z,Z,aw.of l,Z,q]])
 |cl f I i=>
  obtain⟨p,c,g,e,rfl,m,r,_⟩:=d
  exact(js m eG #[Z,_,Z,cn P6 (js m iz #[c,_,_,_,Z,Z,aw.of r,jH (j:=3) Z,q])])
 |wr a b |ask b=>exact q.elim
theorem fi:aj ["part","way","numbers","name","term","goal","held"] ["part","way","numbers"] (aa iW):=bK
noncomputable def YB:Scope:=#[.function,[(".0",.local),("name",.local),("numbers",.free)],false,false,[]]
theorem vI:(["name","numbers"]:List Str).Nodup:=by decide+kernel
theorem uZ:bG ["part","way","numbers","name","term","goal","held"] (aa iW) YB ["name","numbers"] 1 [2]:=oY
theorem rJ(F:aN K "end_of" "end_of" iW f fd)(cC:Cl P w K mg base 1 fC f2 ["part","n"] (hX U) "cut_at")(cW:Cl P w K mg base 7 fW f3 z9z (cf K 6) "worth")(m0:mg "tuple"=none)(no:mG K U):ah P w K mg base ay 8 f fd ["part","way","numbers"] (lW U):=by
 refine F.ok fi ?_ λc0 A o1 s H vs Q E Y h=>?_
 ·rintro _ _ _ _ ⟨v,w1,D,d,ys,O,k,rfl,_⟩
  rfl
 obtain⟨v,w1,D,d,ys,O,k,rfl,hp,hw,wv,hd,gk,hk,q⟩:=h
 refine#[_,(jd (kr He Z (zI (jx (pv 1))) (zV (n:=2) Z (jB (jw (i:=3) fi.nd Z (Or.inl Z)) (jB (jw (i:=4) fi.nd Z (Or.inl Z)) kN))) (jg (zK (zc Y) (pv 2) (pv 3) (cW.e Y.m (ja (pv 4) (ja (pv 2) jb))) Z))) (jd (jy 5 fi.nd (jx (pv 1))) (jd (jv (j5 (jx (pv 5))) (jg (jo (jh (ja jm (ja (cW.e Y.m (ja (jx (pv 5)) (ja (pv 2) jb))) jb))))) jp) (jd (@YS _ _ _ _ _ _ _ _ _ _ (6) (["name","numbers"]) (1) ([2]) _ _ _ _ fi.nd Z (Or.inl Z) Z (zI (jr jM (cC.e Y.m (ja (pv 0) (ja (jx (pv 5)) jb))) jf (λ_ _=>Z))) uZ (λ_ _ _ _ _=>(jw (i:=0) vI Z (Or.inl Z))) (λ_ _ _ _ _=>(@zA _)) (λ_ _ _ _ _=>(@Kf _ _ _ _ _ _ _ _ _ (zc Y) (pv 1) (pv 0) jf #[P7,P7,P7,P7])) P7 (by first |exact .inl Z |exact .inr Z) (by intro _;rfl)) (jg (jo (jh (ja jm (ja (jx (pv 5)) (ja (jD jI Z m0 Ib (ja (pv 6) jb)) jb)))))))))),?_]
 have b0:=aE
 obtain⟨wa,sa,ga,ss,wd,u,rfl,W⟩:=xt hw
 have R:∀g,aB D H g->al H g:=λg k b xs e=>k b _ (jP e hd (by intro z;cases z)) e
 have h2:=hp.sz
 have h3:=wv.len
 refine ai λF1 C=>eO λJ j=>(js W.at' eG #[sa,Z,#[_,aw.of W.sat],j _ _ ?_])
 clear j
 refine qQ (K:=K) (xs:=ss) (EI D [some v,some (.ref wa),some (.ref D)] O.sets k H) #[_,_,Z,hd,aB.refl] (λi σ g _ h=>?_) ?_ (λσ g h=>C _ _ ?_)
 ·obtain⟨_,_,_,_,I⟩:=h
  exact aw.of (R _ I _ _ W.sat)
 ·intro E _ i x σ H1 hx f0 Gq kq h
  obtain⟨o3,o4,rfl,L,I⟩:=h
  clear C
  obtain⟨s,p,hs,rfl,h0⟩:=W.sets i x hx
  have S:=R _ I
  have tv:=(wv.sets s (GP hs)).mono S
  have g1:GT (bZ (O.sets.take i) k):=zL (H:=H) (ys:=ys) (λs hs=>wv.sets s (Ht hs)) gk
  have l1:=Xq (ss:=O.sets.take i) (k:=k)
  rw[GV]at l1
  refine kq ?_
  clear kq
  refine#[p,_,Z,aw.of (S _ _ h0),Z,_,_,Z,_,_,Z,Z,?_]
  refine#[_,Z,_,Z,s.2.1,D,s.2.2,ys,_,Z,.inl tv.1,tv.2.2,tv.2.1,L,g1,_,Z,_,Z,D,_,Z,.inl #[_,.inr s.1,L,Z,P0,Z],f0 _ _ #[_,_,Z,?_,λc o X e=>by rw[ji X];exact I c o X e]]
  rw[ZZ hs]
  exact jc
 ·obtain⟨o3,o4,rfl,L,I⟩:=h
  rw[W.len,Ho]at L
  have S:=R _ I
  have g1:GT (bZ O.sets k):=zL (H:=H) (ys:=ys) wv.sets gk
  have B:=wv.goal
  have a:=W.goal
  generalize bZ O.sets k=N at L g1 q
  refine ai λF1 C=>(js (S _ _ W.at') iz (C _ _ ?_))
  clear C
  have G:=S _ _ W.gat
  refine ai λF1 C=>uF λG1 k3 k0=>(js G eG #[Z,_,Z,?_])
  have give:∀(t:Addr) (T:Tm),wd="give"->u= .ref t->Fm K g T t->df ys T->(∀(u':V) (H9:Hp),aM H9 (aG [ba "give",aF (T.ev N)]) u' []->aB D H H9->Q u' H9)->G1 (decide (V.str wd=V.str "give")) g:=by
   intro t T e1 e2 x1 x2 x3
   subst e1
   subst e2
   rw[G8 Z]
   refine k3 _ (js G iz #[_,Z,t,D,T,ys,N,Z,x1,x2.2,x2.1,L,g1,bN,λr nr=>?_])
   exact x3 _ _ (jC jc (jl Z jQ (jl Z jT jA))) λc o X e=>je nr _ _ (I c o X e)
  cases hg:O.goal with
  |give t T=>
   rw[hg]at B a q
   exact give t T a.1 a.2 (.inl (B.1.mono S)) B.2 q
  |nought=>
   rw[hg]at a q
   exact give U (.num 0) a.1 a.2 (.inr #[Z,no _]) #[#[PZ,PZ],PZ] q
  |go n=>
   rw[hg]at B a q
   clear give k3
   obtain⟨e1,e2⟩:=a
   subst e1
   subst e2
   have hn:n < (bM U d).length:=by rw[Y6];exact B
   obtain⟨c,hc⟩:∃c,(bM U d)[n]?=some c:=#[_,Gc hn]
   have e0:decide (V.str "go"=V.str "give")=false:=by decide+kernel
   rw[e0]
   refine k0 _ (C _ _ ?_)
   clear k0 C
   refine ai λF1 C=>#[_,Z,js G iz #[v,n,d,ys,c,Z,hp.mono S,hc,λka na w2 dv w3 ca=>#[ka,_,_,_,Z,Z,aw.of ca.at',eG,na,Z,#[_,aw.of ca.nms],?_]]]
   have cl:=Gr (Qw ca.v.mem) hp.y20
   have q:∀(u:V) (g:Hp),aM g (aG [ba "go",aF (n:Int),aG ((dE U d n).map λx=>aF (look N (.inr x) 0))]) u []->aB D H g->Q u g:=q
   rw[rq hc]at q
   refine qg (K:=K) (xs:=(canon c.M).map V.str) (by rw[Gg];omega) (λi zs Hx=>zs=((canon c.M).take i).map (λx=>V.int (look N (.inr x) 0))/\Hx=g) #[Z,Z] (λi zs Hx h=>?_) (λi x zs Hx hx h=>?_) (λzs Hx h l nl=>C _ _ ?_)
   ·obtain⟨rfl,rfl⟩:=h
    exact#[aw.of ca.nms,by rw[Gg,GV];omega]
   ·obtain⟨rfl,rfl⟩:=h
    rw[Gz]at hx
    obtain⟨y,hy,rfl⟩:=Option.map_eq_some_iff.mp hx
    refine#[_,Z,D,Z,.inl #[N,.inl L],_,Z,_,dH.k (k:=Sum.inr y) L,?_,Z]
    rw[Kg g1,HV,hy,GY]
    rfl
   ·obtain⟨rfl,rfl⟩:=h
    rw[Gg,Ho]
    refine(js (je nl _ _ G) iz #[_,Z,l,_,Z,.inl #[aH.of jc,λtl n0=>#[gn,λr nr=>?_]]])
    refine q _ _ (jC jc (jl Z jQ (jl Z jT (jl Z (jC (ao jc nr) ?_) jA)))) λc' o X e=>je nr _ _ (je n0 _ _ (je nl _ _ (I c' o X e)))
    have:=JM (H:=af (af (af Hx l (.lst ((canon c.M).map (λx=>V.int (look N (.inr x) 0))))) tl (.tup ((canon c.M).map (λx=>V.int (look N (.inr x) 0))))) r (.tup [.str "go",.int (n:Int),.ref tl])) (is:=(canon c.M).map λx=>look N (.inr x) 0)
    rw[ID,ID]at this
    exact this
structure lK(H:Hp)(nA:Addr)(d:Df)(ys:List Str)(v:V)(sa:Addr)(n:Nat)(hv:Addr)(uw:V)(c:Ct)(is:List Int)(wh:Wh)(e:DD)(wd:WD):Prop where
 prt:lJ H nA d ys v
 at':H sa=some (.tup [.int (n:Int),.ref hv,uw])
 cut:(bM nA d)[n]?=some c
 hat:H hv=some (.tup (is.map V.int))
 hl:is.length=(canon c.M).length
 hin:∀i∈is,eK i
 whv:yx H uw wh
 ed:e.dd=c.d
 dv:uK H ys e
 fit:BY e wh
 way:c.ws[wh.side]?=some (wd.wy nA)
 wdv:uE H ys d.b.cuts d.b.size wd
theorem lK.mono(k:al H a)(h:lK H N d y v s n b u c i f e g):lK a N d y v s n b u c i f e g:=
 #[h.prt.mono k,k _ _ h.at',h.cut,k _ _ h.hat,h.hl,h.hin,h.whv.mono k,h.ed,h.dv.mono k,h.fit,h.way,h.wdv.mono k]
noncomputable def ED(n:Addr)(d:Df)(c:Ct)(i:List Int)(a:Wh)(e:DD)(W:WD):Tr:=oE (dE n d) (bZ W.sets (nD e a (aR (canon c.M) i))) W.goal
inductive fu(e:Addr)(g:List V)(H:Hp)(Q:VK)(a:XK):Prop
 |mk(v:V)(b:Addr)(d:Df)(h f:List Str)(c:List Int)(w:WD)(_:g=[v,.ref b])(_:lJ H e d h v)(_:H d.pa=some (.tup (f.map V.str)))(_:f.length<=100)(_:H b=some (.tup (c.map V.int)))(_:c.length=f.length)(_:∀i∈c,eK i)(_:w.wy e=(gI e d).1.w)(_:uE H h d.b.cuts d.b.size w)(_:∀(u:V) (H':Hp),aM H' (oE (dE e d) (bZ w.sets (aR f c)) w.goal) u []->ae H H'->Q u H')
inductive tN(g:Addr)(j:List V)(H:Hp)(Q:VK)(a:XK):Prop
 |mk(v i:V)(h b:Addr)(n:Nat)(d:Df)(m:List Str)(c:Ct)(f:List Int)(l:Wh)(e:DD)(k:WD)(_:j=[v,.ref h])(_:lK H g d m v h n b i c f l e k)(_:∀(u:V) (H':Hp),aM H' (ED g d c f l e k) u []->ae H H'->Q u H')
theorem X0(h:BY e a)(g:GT k):GT (nD e a k):=by
 unfold nD
 split
 ·exact g.put _ h
 ·exact g.put _ h
 ·exact g
theorem uV{e:DD}{wh:Wh}{k:aJ}:(nD e wh k).length<=k.length+1:=by
 unfold nD
 split
 ·exact kO
 ·exact kO
 ·exact Ic _
theorem oH:aj ["part","args"] ["part","args"] (aa gY):=bK
theorem YC(F:aN K "first_of" "first_of" gY f I)(J:Cl P w K mg base 8 fE L ["part","way","numbers"] (lW T) "end_of")(M:mg "dict"=none)(b:mg "zip"=none):ah P w K mg base ay 9 f I ["part","args"] (fu T):=by
 refine F.ok oH ?_ λR A O s H vs Q E U h=>?_
 ·rintro _ _ _ _ ⟨v,x,d,y,p,is,z,rfl,_⟩
  rfl
 obtain⟨v,x,d,y,p,is,z,rfl,C,g,V,i,n,r,t,W,q⟩:=h
 refine#[_,(jg (jo (J.e U.m (ja (pv 0) (ja (jx (pv 0)) (ja (@YX _ _ _ _ _ _ _ _ Z M Z b Z (ja (jx (pv 0)) (ja (pv 1) jb)) P7 P7 P7 P7) jb)))))),?_]
 obtain⟨a,ca,X,cs,rfl,D,G,Y,h0⟩:=C.parts
 rw[<- t]at G
 refine#[_,Z,_,Z,a,_,_,_,Z,Z,aw.of D,jH (j:=2) Z,js D iz #[_,Z,d.pa,x,p.map Sum.inr,_,Z,by rw[Y9];exact aw.of g,aw.of i,by rw[Gg,Gg,n],λl N=>?_]]
 have S:ae H (af H l (.dK (aR p is))):=je N
 have zl:=Y7 (ns:=p) (is:=is)
 exact#[.ref a,X,l,d,y,z,aR p is,Z,C.mono (ae.tm S),G.mono (ae.tm S),W.mono (ae.tm S),jc,qu r,P0,λu H' tu k=>q u H' tu λc o e=>k c o (jk e N) (S _ _ e)]
theorem dZ:aj ["part","step","cut","numbers","what","way"] ["part","step"] (aa i6):=bK
theorem Z1{f:Addr}{fd:FuncData}{nA fC fD fF fE:Addr}{f0 f3 f4 f5:FuncData}(F:aN K "onward" "onward" i6 f fd)(cC:Cl P w K mg base 1 fC f0 ["part","n"] (hX nA) "cut_at")(cD:Cl P w K mg base 2 fD f3 z13z (ie nA) "held_at")(cF:Cl P w K mg base 1 fF f4 ["what"] eh "found_in")(cE:Cl P w K mg base 8 fE f5 ["part","way","numbers"] (lW nA) "end_of"):ah P w K mg base ay 9 f fd ["part","step"] (tN nA):=by
 refine F.ok dZ ?_ λc0 A o2 s H vs Q E hr h=>?_
 ·rintro _ _ _ _ ⟨v,L,Y,hv,n,d,ys,c,is,wh,e,wd,rfl,_⟩
  rfl
 obtain⟨v,L,Y,hv,n,d,ys,c,is,wh,e,wd,rfl,C,q⟩:=h
 refine#[_,(jd (jy 2 dZ.nd (cC.e hr.m (ja (pv 0) (ja (jx (pv 1)) jb)))) (jd (jy 3 dZ.nd (cD.e hr.m (ja (pv 0) (ja (jx (pv 1)) (ja (jx (pv 1)) jb))))) (jd (jy 4 dZ.nd (jx (pv 1))) (jd (jv (jz zg (jx (pv 4)) (jh (ja jm (ja jm jb))) Z) (jg (zK (zc hr) (pv 3) (jx (jr jM (pv 2) jf (λ_ _=>Z))) (cF.e hr.m (ja (pv 4) jb)) Z)) jp) (jd (jy 5 dZ.nd (kB (jz (AE (zc hr)) (pv 4) (jh (ja jm (ja jf jb))) (aD _)) (jx (jr jM (pv 2) jf (λ_ _=>Z))) (jx (jr jM (pv 2) jf (λ_ _=>Z))))) (jg (jo (cE.e hr.m (ja (pv 0) (ja (pv 5) (ja (pv 3) jb))))))))))),?_]
 have b0:=aE
 obtain⟨a,ca,wv,cs,rfl,ha,hw,a0,a1⟩:=C.prt.parts
 have h0:=C.at'
 refine ai λF1 J=>#[_,Z,js h0 eG #[_,n,d,ys,c,Z,C.prt,C.cut,λka na wa dv w0 cu=>J _ _ ?_]]
 clear J
 refine ai λF1 J=>#[_,Z,js h0 eG (js h0 iz #[_,n,hv,d,ys,c,is,Z,C.prt,C.cut,C.hat,C.hl,λD n0=>J _ _ ?_])]
 clear J
 have s1:ae H (af H D (.dK (aR (canon c.M) is))):=je n0
 have d1:af H D (.dK (aR (canon c.M) is)) D=some (.dK (aR (canon c.M) is)):=jc
 generalize af H D (.dK (aR (canon c.M) is))=H1 at s1 d1
 have O:=C.mono (ae.tm s1)
 have g0:GT (aR (canon c.M) is):=qu C.hin
 have z0:=Y7 (ns:=canon c.M) (is:=is)
 have z1:=Qw cu.v.mem
 have z2:=C.prt.y20
 generalize h7:aR (canon c.M) is=k0 at d1 g0 z0
 refine ai λF1 J=>#[_,Z,Y,_,_,_,Z,Z,aw.of O.at',jH (j:=2) Z,J _ _ ?_]
 clear J
 have o1:ED nA d c is wh e wd=oE (dE nA d) (bZ wd.sets (nD e wh k0)) wd.goal:=by unfold ED;rw[h7]
 rw[o1]at q
 have h1:=kW cu.ways
 rw[Gg]at h1
 have G:∃x,w0[wh.side]?=some x/\aM H (gM (wd.wy nA)) x []:=by
  have hj:wh.side < w0.length:=by rw[h1];exact(List.getElem?_eq_some_iff.mp C.way).1
  obtain⟨tr,ht,tx⟩:=qr cu.ways wh.side _ (Gc hj)
  rw[Gz,C.way]at ht
  cases ht
  exact#[_,Gc hj,tx]
 obtain⟨wx,G,t0⟩:=G
 have h4:=cu.at'
 have h8:=cu.wat
 refine ai λF1 J=>?_
 have r0:∀(H3:Hp),H3 D=some (.dK (nD e wh k0))->aB D H1 H3->F1 [some (.ref a),some (.ref Y),some (.ref ka),some (.ref D),some L,none] H3:=by
  intro H3 h3 k3
  refine J _ _ ?_
  clear J
  have s3:ae H H3:=λc o x=>k3 c o (jk x n0) (s1 _ _ x)
  have l3:=uV (e:=e) (wh:=wh) (k:=k0)
  refine ai λF2 f2=>?_
  have f6:∀H4,ae H3 H4->F2 [some (.ref a),some (.ref Y),some (.ref ka),some (.ref D),some L,some wx] H4:=λH4 s4=>f2 _ _ (by
   have S:=s3.trans s4
   exact#[_,Z,_,Z,_,Z,.ref a,wx,D,d,ys,wd,_,Z,C.prt.mono (ae.tm S),t0.mono (ae.tm S),C.wdv.mono (ae.tm S),s4 _ _ h3,X0 C.fit g0,P0,λu R tu k=>q u R tu λc o x=>k c o (jk x n0) (S _ _ x)])
  clear f2
  have wk:=C.whv.mono (ae.tm s3)
  have dC:∀(H4:Hp) (j:Nat),ae H3 H4->w0[j]?=some wx->dG (fc K) (dG (fc K) (a7 2) (tC (.int 2))) (tC (.int (j:Int))) [some (.ref a),some (.ref Y),some (.ref ka),some (.ref D),some L,none] H4 λx H5=>F2 ([some (.ref a),some (.ref Y),some (.ref ka),some (.ref D),some L,none].set 5 (some x)) H5:=λH4 j s4 hj=>
   #[_,Z,ka,_,_,_,Z,Z,aw.of ((s3.trans s4) _ _ h4),jH (j:=2) Z,wa,_,_,_,Z,Z,aw.of ((s3.trans s4) _ _ h8),jH hj,f6 H4 s4]
  cases wh with
  |rd a' i |wr a' b=>
   obtain⟨p,rfl,B⟩:=wk
   exact#[_,Z,bN,λt N=>#[p,t,_,_,Z,Z,aw.of (je N _ _ B),aw.of jc,.inl #[Z,Z,_,Z,aS (by unfold pE;exact Mj _) (dC _ 0 (je N) G)]]]
  |ask b=>
   obtain⟨p,rfl,B⟩:=wk
   have hb:b=0∨b=1:=by
    have:=C.fit
    cases e with
    |st p l=>cases l<;>exact this.elim
    |ask t T=>exact this
   rcases hb with rfl |rfl
   ·exact#[_,Z,bN,λt N=>#[p,t,_,_,Z,Z,aw.of (je N _ _ B),aw.of jc,.inl #[Z,Z,_,Z,cn P6 (dC _ 1 (je N) G)]]]
   ·exact#[_,Z,bN,λt N=>#[p,t,_,_,Z,Z,aw.of (je N _ _ B),aw.of jc,.inl #[Z,Z,_,Z,aS P6 (dC _ 0 (je N) G)]]]
  |cl f' i0 i=>
   obtain⟨p,c',g,e',rfl,B,h',_⟩:=wk
   exact#[_,Z,bN,λt N=>#[p,t,_,_,Z,Z,aw.of (je N _ _ B),aw.of jc,.inr #[_,c',_,_,_,Z,aw.of (je N _ _ h'),Z,_,Z,aS Z (dC _ 0 (je N) G)]]]
 have wk:=O.whv
 have dk:=O.dv
 have fk:=O.fit
 have h5:=s1 _ _ h4
 have d0:=cu.deed
 rw[<- C.ed]at d0
 have skip:∀(p:Addr) (W:Str) (r:List V),L= .ref p->H1 p=some (.tup (.str W::r))->nH (.str W) [.str "read",.str "call"]=false->nD e wh k0=k0->gD (iO (dG (Dr K false) (dG (fc K) (a7 4) (tC (.int 0))) (bX (am (tC (.str "read")) (am (tC (.str "call")) aO))))) (sF (a7 3) (dG (fc K) (dG (fc K) (a7 2) (tC (.int 1))) (tC (.int 1))) (dF eh [] E0 (am (a7 4) aO))) t6 { nx:=F1,rt:=Q } [some (.ref a),some (.ref Y),some (.ref ka),some (.ref D),some L,none] H1:=by
  intro p W r I B e2 e3
  subst I
  refine uF λG1 k1 k2=>(js B eG #[bN,λt N=>#[t,_,Z,.inr (aw.of jc),Z,Z,_,Z,?_]])
  show G1 (nH (.str W) [.str "read",.str "call"]) _
  rw[e2]
  exact k2 _ (r0 _ (by rw[e3];exact ao d1 N) λc o _ x=>je N _ _ x)
 have p0:∀(p p':Addr) (W:Str) (r:List V) (i:Int) (x:Str) (y:V) (r':List V),L= .ref p->H1 p=some (.tup (.str W::r))->nH (.str W) [.str "read",.str "call"]=true->dv= .ref p'->H1 p'=some (.tup (y:: .str x::r'))->(∀R:Hp,ae H1 R->yx R L wh)->(∀(Q':VK) (R:Hp),Q' (.int i) R->pK Q' R wh)->nD e wh k0=aY k0 (.inr x) (.int i)->gD (iO (dG (Dr K false) (dG (fc K) (a7 4) (tC (.int 0))) (bX (am (tC (.str "read")) (am (tC (.str "call")) aO))))) (sF (a7 3) (dG (fc K) (dG (fc K) (a7 2) (tC (.int 1))) (tC (.int 1))) (dF eh [] E0 (am (a7 4) aO))) t6 { nx:=F1,rt:=Q } [some (.ref a),some (.ref Y),some (.ref ka),some (.ref D),some L,none] H1:=by
  intro p p' W r i x y r' I B e2 e4 X e5 e6 e3
  subst I
  subst e4
  refine uF λG1 k1 k2=>(js B eG #[bN,λt N=>#[t,_,Z,.inr (aw.of jc),Z,Z,_,Z,?_]])
  show G1 (nH (.str W) [.str "read",.str "call"]) _
  rw[e2]
  refine k1 _ #[_,Z,.ref p,wh,Z,e5 _ (je N),e6 _ _ ?_]
  exact#[_,Z,js (je N _ _ h5) iz #[p',_,_,_,Z,Z,aw.of (je N _ _ X),iz,D,_,Z,.inl #[k0,.inr x,ao d1 N,Z,P0,Z],r0 _ (by rw[e3];exact jc) λc o nc z=>by rw[ji nc];exact je N _ _ z]]
 cases e with
 |ask t T=>
  cases wh with
  |ask b=>obtain⟨p,I,B⟩:=wk;exact skip p _ _ I B P6 Z
  |_=>exact fk.elim
 |st p' l=>
  obtain⟨vs,X,h6,_⟩:=dk
  have ed:dv= .ref p':=d0.1
  cases l with
  |rd x t T=>
   cases wh with
   |rd b i=>obtain⟨p,I,B⟩:=wk;obtain⟨rfl,_⟩:=h6;exact p0 p p' _ _ i x _ _ I B P6 ed X (λR s'=>#[p,I,s' _ _ B]) (λ_ _ h=>h) Z
   |_=>exact fk.elim
  |wr t u T U=>
   cases wh with
   |wr b i=>obtain⟨p,I,B⟩:=wk;exact skip p _ _ I B P6 Z
   |_=>exact fk.elim
  |cl x f' q' ts=>
   cases wh with
   |cl f2 i1 i=>obtain⟨p,c2,g2,e2,I,B,h2,h3⟩:=wk;obtain⟨rfl,_⟩:=h6;exact p0 p p' _ _ i x _ _ I B P6 ed X (λR s'=>#[p,c2,g2,e2,I,s' _ _ B,s' _ _ h2,s' _ _ h3]) (λ_ _ h=>h) Z
   |_=>exact fk.elim
  |st x t T |gv t T=>cases wh<;>exact fk.elim
noncomputable abbrev gQ:Stmt:=bL 25
noncomputable abbrev iU:Stmt:=bL 26
noncomputable def D8(k:aJ):DD->Tr
 | .st _ (.rd _ _ T)=>aG [ba "read",aF (T.ev k)]
 | .st _ (.wr _ _ T U)=>aG [ba "write",aF (T.ev k),aF (U.ev k)]
 | .st _ (.cl _ f _ t)=>aG [ba "call",ba f,aG (t.map λc=>aF (c.2.ev k))]
 | .ask _ T=>aG [ba "ask",aF (if T.ev k=0 then 0 else 1)]
 |_=>.nil
inductive fq(g:Addr)(h:List V)(H:Hp)(Q:VK)(a:XK):Prop
 |mk(v:V)(n:Nat)(b:Addr)(d:Df)(j:List Str)(c:Ct)(f:List Int)(e:DD)(_:h=[v,.int (n:Int),.ref b])(_:lJ H g d j v)(_:(bM g d)[n]?=some c)(_:H b=some (.tup (f.map V.int)))(_:f.length=(canon c.M).length)(_:∀i∈f,eK i)(_:e.dd=c.d)(_:uK H j e)(_:∀(u:V) (H':Hp),aM H' (D8 (aR (canon c.M) f) e) u []->ae H H'->Q u H')
inductive f8(f:List V)(H:Hp)(Q:VK)(b:XK):Prop
 |mk(a d:Addr)(e:List (Addr×Tm))(g:List Str)(k:aJ)(_:f=[.ref a,.ref d])(_:H a=some (.tup (e.map λc=>V.ref c.1)))(_:e.length<=6)(_:∀c∈e,bj H c.2 c.1/\df g c.2)(_:H d=some (.dK k))(_:GT k)(_:∀(r:Addr) (H':Hp),H' r=some (.tup (e.map λc=>V.int (c.2.ev k)))->ae H H'->Q (.ref r) H')
theorem tF:aj ["terms","numbers"] ["terms","numbers"] (aa gQ):=bK
noncomputable def YD:Scope:=#[.function,[(".0",.local),("term",.local),("worth",.globalImplicit),("numbers",.free)],false,false,[]]
theorem vJ:(["term","numbers"]:List Str).Nodup:=by decide+kernel
theorem u5:bG ["terms","numbers"] (aa gQ) YD ["term","numbers"] 1 [1]:=oY
theorem Z2(F:aN K "worths" "worths" gQ f v)(C:Cl P w K mg base 7 U B z9z (cf K 6) "worth")(M:mg "tuple"=none):ah P w K mg base ay 8 f v ["terms","numbers"] f8:=by
 refine F.ok tF ?_ λG A o s H R Q E I h=>?_
 ·rintro _ _ _ _ ⟨a,D,t,g,k,rfl,_⟩
  rfl
 obtain⟨a,D,t,g,k,rfl,p,W,b,J,L,q⟩:=h
 refine#[_,(jg (jo (jD jI Z M Ib (ja (@zd _ _ _ _ _ _ _ (["term","numbers"]) (1) ([1]) _ _ _ _ Z (zI (pv 0)) u5 (λ_ _ _ _ _=>(jw (i:=0) vJ Z (Or.inl Z))) (λ_ _ _ _ _=>(@zA _)) (λ_ _ _ _ _=>(C.e I.m (ja (pv 0) (ja (pv 1) jb)))) (by intro _;rfl)) jb)))),?_]
 have N:=aE
 refine#[_,Z,a,Z,#[_,aw.of p],?_]
 refine qg (K:=K) (xs:=t.map λc=>V.ref c.1) (by rw[Gg];omega) (λi z d=>z=(t.take i).map (λc=>V.int (c.2.ev k))/\d=H) #[Z,Z] (λi z d h=>?_) (λi x z d r h=>?_) (λz d h l O=>?_)
 ·obtain⟨rfl,rfl⟩:=h
  exact#[aw.of p,by rw[Gg,GV];omega]
 ·obtain⟨rfl,rfl⟩:=h
  rw[Gz]at r
  obtain⟨y,u,rfl⟩:=Option.map_eq_some_iff.mp r
  have Y:=GP u
  refine#[_,Z,_,Z,y.1,D,y.2,g,k,Z,.inl (b y Y).1,(b y Y).2.2,(b y Y).2.1,J,L,?_,Z]
  rw[HV,u,GY]
  rfl
 ·obtain⟨rfl,rfl⟩:=h
  rw[Gg,Ho]
  exact#[l,_,Z,.inl #[aH.of jc,λT n=>q T _ jc ((je O).trans (je n))]]
theorem fh:aj ["part","n","held","numbers","deed","word"] z13z (aa iU):=bK
theorem Z3(F:aN K "deed_at" "deed_at" iU f fd)(cH:Cl P w K mg base 2 fH f0 z13z (ie nA) "held_at")(cC:Cl P w K mg base 1 fC f2 ["part","n"] (hX nA) "cut_at")(cW:Cl P w K mg base 7 fW f3 z9z (cf K 6) "worth")(cS:Cl P w K mg base 8 fS f4 ["terms","numbers"] f8 "worths"):ah P w K mg base ay 9 f fd z13z (fq nA):=by
 refine F.ok fh ?_ λc0 A o1 s H vs Q E L h=>?_
 ·rintro _ _ _ _ ⟨v,n,hv,d,Y,c,is,e,rfl,_⟩
  rfl
 obtain⟨v,n,hv,d,Y,c,is,e,rfl,hp,hc,hh,hl,h0,h1,h2,q⟩:=h
 refine#[_,(jd (jy 3 fh.nd (cH.e L.m (ja (pv 0) (ja (pv 1) (ja (pv 2) jb))))) (jd (jy 4 fh.nd (jr jM (cC.e L.m (ja (pv 0) (ja (pv 1) jb))) jf (λ_ _=>Z))) (jd (jy 5 fh.nd (jx (pv 4))) (jd (jv (j5 (pv 5)) (jg (jo (jh (ja (pv 5) (ja (kB (jz qi (cW.e L.m (ja (jx (pv 4)) (ja (pv 3) jb))) jf (aD _)) jf jf) jb))))) jp) (jd (jv (j5 (pv 5)) (jg (jo (jh (ja (pv 5) (ja (jx (pv 4)) (ja (cS.e L.m (ja (jx (pv 4)) (ja (pv 3) jb))) jb)))))) jp) (jd (jv (j5 (pv 5)) (jg (jo (jh (ja (pv 5) (ja (cW.e L.m (ja (jx (pv 4)) (ja (pv 3) jb))) jb))))) jp) (jg (jo (ju jZ (jh (ja (pv 5) jb)) (cS.e L.m (ja (jG kE (pv 4) (jE jf) jU) (ja (pv 3) jb)))))))))))),?_]
 have b0:=aE
 obtain⟨a,ca,p0,cs,rfl,ha,_,h7,h8⟩:=hp.parts
 refine ai λi b=>#[_,Z,_,Z,_,Z,.ref a,n,hv,d,Y,c,is,Z,hp,hc,hh,hl,λC n0=>b _ _ ?_]
 clear b
 have S:ae H (af H C (.dK (aR (canon c.M) is))):=je n0
 have O:af H C (.dK (aR (canon c.M) is)) C=some (.dK (aR (canon c.M) is)):=jc
 show eV _ _ _ _ (af H C (.dK (aR (canon c.M) is)))
 generalize af H C (.dK (aR (canon c.M) is))=H1 at S O
 have V:GT (aR (canon c.M) is):=qu h0
 generalize aR (canon c.M) is=k at O V q
 have dk:=h2.mono (ae.tm S)
 refine ai λi b=>#[_,Z,_,Z,.ref a,n,d,Y,c,Z,hp.mono (ae.tm S),hc,λka na wa dv w0 cu=>#[ka,_,_,_,Z,Z,aw.of cu.at',iz,b _ _ ?_]]
 clear b
 have D:=cu.deed
 rw[<- h1]at D
 cases e with
 |ask t T=>
  obtain⟨_,p,xs,rfl,g,_,_,y0,z0,rfl,⟨rfl,_⟩,_,_,y1,z1,rfl,⟨rfl,_⟩,e⟩:=D
  have e:z1=[]:=e
  subst e
  refine ai λi b=>(js g eG (b _ _ ?_))
  clear b
  refine ai λi b=>#[_,Z,Z,_,Z,cn P6 #[_,Z,js g iz #[_,Z,t,C,T,Y,k,Z,.inl dk.1,dk.2.2,dk.2.1,O,V,Z,_,Z,?_]]]
  by_cases z:T.ev k=0
  ·refine cn (by rw[z];decide+kernel) #[bN,λr G=>q _ _ (jC jc (jl Z jQ (jl Z #[?_,Z] jA))) (S.trans (je G))]
   rw[Gw z]
  ·refine aS (by rw[GH];intro e;injection e with e;exact z e) #[bN,λr G=>q _ _ (jC jc (jl Z jQ (jl Z #[?_,Z] jA))) (S.trans (je G))]
   rw[GG z]
 |st p l=>
  have ed:dv= .ref p:=D.1
  subst ed
  obtain⟨vs,g,I,B,h3⟩:=dk
  cases l with
  |rd x t T=>
   obtain⟨rfl,ht⟩:=I
   refine ai λi b=>(js g eG (b _ _ ?_))
   clear b
   refine ai λi b=>#[_,Z,Z,_,Z,aS P6 (b _ _ ?_)]
   clear b
   refine ai λi b=>#[_,Z,Z,_,Z,aS P6 (b _ _ ?_)]
   clear b
   refine ai λi b=>#[_,Z,Z,_,Z,cn P6 #[_,Z,_,Z,p,_,_,_,Z,Z,aw.of g,jH (j:=2) Z,_,Z,t,C,T,Y,k,Z,.inl ht,B.2.2,B.2.1,O,V,bN,λr G=>?_]]
   exact q _ _ (jC jc (jl Z jQ (jl Z jT jA))) (S.trans (je G))
  |wr t u T U=>
   obtain⟨rfl,ht,hu⟩:=I
   refine ai λi b=>(js g eG (b _ _ ?_))
   clear b
   refine ai λi b=>#[_,Z,Z,_,Z,aS P6 (b _ _ ?_)]
   clear b
   refine ai λi b=>#[_,Z,Z,_,Z,aS P6 (b _ _ ?_)]
   clear b
   refine ai λi b=>#[_,Z,Z,_,Z,aS P6 (b _ _ ?_)]
   clear b
   refine#[_,Z,iG,λr1 N=>#[_,Z,1,Z,p,_,Z,je N _ _ g,λr2 H2 J R=>#[_,Z,r2,C,[(t,T),(u,U)],Y,k,Z,J,(by show 2<=6;decide),?_,R _ _ (je N _ _ O),V,λr3 H3 h4 s3=>#[r1,r3,_,_,Z,Z,s3 _ _ (R _ _ jc),h4,gn,λr4 H4 h5 s4=>?_]]]]
   ·intro y W
    have X:=(je (o:=.tup [.str "write"]) N).trans R
    simp only[Iz,GU,Ma]at W
    rcases W with rfl |rfl
    ·exact#[ht.same X,B.1]
    ·exact#[hu.same X,B.2]
   ·exact q _ _ (jC h5 (jl Z jQ (jl Z jT (jl Z jT jA)))) (S.trans ((je N).trans (R.trans (s3.trans s4))))
  |cl x f' qa ts=>
   obtain⟨rfl,hq,h6⟩:=I
   refine ai λi b=>(js g eG (b _ _ ?_))
   clear b
   refine ai λi b=>#[_,Z,Z,_,Z,aS P6 (b _ _ ?_)]
   clear b
   have l6:ts.length<=6:=B.2.1
   refine ai λi b=>#[_,Z,Z,_,Z,cn P6 #[_,Z,_,Z,p,_,_,_,Z,Z,aw.of g,jH (j:=2) Z,_,Z,p,_,_,_,Z,Z,aw.of g,jH (j:=3) Z,_,Z,qa,C,ts,Y,k,Z,hq,l6,λy W=>#[h6 y W,B.2.2 y W],O,V,λr2 H2 J R=>#[gn,λr G=>?_]]]
   refine q _ _ (jC jc (jl Z jQ (jl Z jQ (jl Z (jC (ao J G) ?_) jA)))) (S.trans (R.trans (je G)))
   have:=JM (H:=af H2 r (.tup [.str "call",.str f',.ref r2])) (is:=ts.map λc=>c.2.ev k)
   rw[ID,ID]at this
   exact this
  |st x t T |gv t T=>cases h3
noncomputable abbrev iZ:Stmt:=bL 17
noncomputable abbrev mO:Stmt:=bL 18
noncomputable abbrev iV:Stmt:=bL 19
noncomputable abbrev sP:Stmt:=bE (bL 20) 0
noncomputable abbrev mY:Stmt:=bE (bL 20) 1
noncomputable abbrev sQ:Stmt:=bE (bL 20) 2
noncomputable abbrev i7:Stmt:=bL 22
def BN(H:Hp)(x:V)(g:Str):Prop:=∃p r,x= .ref p/\H p=some (.tup (.str g::r))
inductive ij(c:List V)(H:Hp)(Q:VK)(b:XK):Prop
 |mk(a:Addr)(f:Str)(d:List V)(i:Nat)(v:V)(_:c=[.ref a,.str f])(_:H a=some (.tup d))(_:d[i]?=some v)(_:BN H v f)(_:∀j x,j < i->d[j]?=some x->∃g,BN H x g/\g≠f)(_:Q v H)
inductive gU(e:List V)(H:Hp)(Q:VK)(b:XK):Prop
 |mk(a g:Addr)(f:Str)(h k:List V)(i:Nat)(v:V)(p c:Addr)(r d:List V)(_:e=[.ref a,.str f,.ref g])(_:H a=some (.tup h))(_:h[i]?=some v)(_:v= .ref p)(_:H p=some (.tup (.str f:: .ref c::r)))(_:H c=some (.tup d))(_:H g=some (.tup k))(_:k.length=d.length)(_:∀j x,j < i->h[j]?=some x->∃g,BN H x g/\g≠f)(_:Q v H)
noncomputable def cy(e:List (Str×V))(c l p:Addr)(m:Int)(t:Nat):List (Str×V):=List.cons (("cells":Str),V.ref c) (List.cons (("most":Str),V.int m) (List.cons (("left":Str),V.ref l) (List.cons (("turns":Str),V.int (t:Int)) (List.cons (("parts":Str),V.ref p) e))))
structure Tl(ex:List (Str×V)):Prop where
 l:ex.length<=10
 t:ex.lookup ("take_turn":Str)=none
 n:ex.lookup ("number_in":Str)=none
 c:ex.lookup ("chain_of":Str)=none
 w:ex.lookup ("what_of":Str)=none
theorem Tl.nil:Tl []:=#[Gp _,Z,Z,Z,Z]
structure Rn(H:Hp)(C r dx:Addr)(ex:List (Str×V))(cA lA pA:Addr)(m:Int)(t:Nat)(L Cs:aJ):Prop where
 ins:H r=some (.ins C dx (cy ex cA lA pA m t))
 lf:H lA=some (.dK L)
 ce:H cA=some (.dK Cs)
 iL:GT L
 iC:GT Cs
 cl:cA≠lA
 tl:Tl ex
structure RK(K:Frag)(C:Addr):Prop where
 cl:ou K C
 n1:aV K C "cells"
 n2:aV K C "most"
 n3:aV K C "left"
 n4:aV K C "turns"
 n5:aV K C "parts"
inductive em(C:Addr)(i:List V)(H:Hp)(Q:VK)(a:XK):Prop
 |mk(r e:Addr)(f:List (Str×V))(d g h:Addr)(m c:Int)(t:Nat)(L b:aJ)(_:i=[.ref r,.int c])(_:Rn H C r e f d g h m t L b)(_:Q (.int (look L (.inl c) (look b (.inl c) 0))) H)
inductive ip(C:Addr)(e:List V)(H:Hp)(Q:VK)(a:XK):Prop
 |mk(r c:Addr)(d:List (Str×V))(b:Addr)(m:Int)(_:e=[.ref r,.ref b,.int m])(_:H r=some (.ins C c []))(_:∀lA,H lA=none->Q .non (af (af H lA (.dK [])) r (.ins C c [("cells",.ref b),("most",.int m),("left",.ref lA),("turns",.int 0)])))
structure XM(K:Frag)(mg:Str->Option Value)(x:Str)(L:Addr):Prop where
 ex:excIn K L oA "ValueError.__new__"=true
 kp:keepIn K (.ref L)=true
 xc:oR K L
 ty:typeIn K (.ref L)=some (.type "type")
 m:mg x=some (.ref L)
def NX(o:HO):Prop:=∀a,o≠ .ext a
def Kp(H h:Hp):Prop:=∀b o,NX o->H b=some o->h b=some o
theorem Kp.of_same(s:ae H h):Kp H h:=λb o _ e=>s _ _ e
theorem Kp.trans(a:Kp H h)(b:Kp h d):Kp H d:=λc o n e=>b c o n (a c o n e)
def nJ(E:XK):XK:=λC d H=>∀x T t c,C= .ref c->H x=some (gK c d T x)->H T=some (gg T)->H t=none->E (.ref c) d (af (af H t (gg t)) x (gK c d t x))
theorem zG{P:Program}{w:World}{K:Frag}{mg:Str->Option Value}{base:Heap}:dj (dP P w) (eY (dP P w) P w K mg base N q s f g A o a H E) (nJ E):=
 wm λx C d T t i b c e h=>h x T t C Z b c e
theorem JN{H h:Hp}(e:h b=some o)(n:NX o)(a:h x=some (gK C d T x))(c:h t=none):af (af h t (gg t)) x (gK C d t x) b=some o:=by
 have N:b≠x:=λz=>by
  rw[z,a]at e
  injection e with e
  exact n _ e.symm
 rw[ji N,ji (jk e c)]
 exact e
def Fl(E:XK)(L:Addr)(R:Hp->Prop):Prop:=∀(_:Unit) H,R H->E (.ref L) none H
inductive d9(C L:Addr)(f:List V)(H:Hp)(Q:VK)(E:XK):Prop
 |mk(r b:Addr)(c:List (Str×V))(a d e:Addr)(m:Int)(t:Nat)(_:f=[.ref r])(_:H r=some (.ins C b (cy c a d e m t)))(_:Tl c)(_:(t:Int) < m->Q .non (af H r (.ins C b (cy c a d e m (t+1)))))(_:m<=(t:Int)->Fl E L (Kp H))
inductive cX(D:Addr)(a:List V)(H:Hp)(Q:VK)(E:XK):Prop
 |mk(d:Int)(_:a=[.int d])(_:d < 15->Q (.int (d+1)) H)(_:15<=d->Fl E D (Kp H))
theorem Xs{H:Hp}(a:H x=none)(N:af H x (xF L none x) T=none):ae H (af (af (af H x (xF L none x)) T (gg T)) x (gK L d T x)):=by
 intro b o e
 have n:b≠x:=jk e a
 rw[ji n,ji (λz=>by rw[<- z,ji n,e]at N;cases N),ji n]
 exact e
theorem lR:aj ["ones","f","one"] ["ones","f"] (aa iZ):=bK
theorem Z4(F:aN K "named" "named" iZ f D):ah P w K mg base ay 1 f D ["ones","f"] ij:=by
 refine F.ok lR ?_ λG A o s H W Q E X h=>?_
 ·rintro _ _ _ _ ⟨a,f,xs,i,v,rfl,_⟩
  rfl
 obtain⟨a,f,xs,i,v,rfl,t,u,L,d,q⟩:=h
 refine#[_,(jd (kr He Z (zI (pv 0)) (jw (i:=2) lR.nd Z (Or.inl Z)) (jg (jv (jz qi (jx (pv 2)) (pv 1) (aD _)) (jg (jo (pv 2))) jp))) (@QE _ _)),?_]
 have M:i < xs.length:=(List.getElem?_eq_some_iff.mp u).1
 refine ai λY f1=>eO λJ j=>#[_,Z,a,Z,#[_,aw.of t],j _ _ ?_]
 clear j
 refine qQ (K:=K) (xs:=xs) (λk c e=>(∃O,c=[some (.ref a),some (.str f),O])/\e=H/\k<=i) #[#[_,Z],Z,Gp _] (λk c e _ h=>by rw[h.2.1];exact aw.of t) ?_ (λc e h=>?_)
 ·intro l R k x c H2 m N I b h
  obtain⟨⟨O,rfl⟩,rfl,y⟩:=h
  refine b ?_
  clear b
  by_cases S:k=i
  ·subst S
   rw[u]at m
   cases m
   obtain⟨p,r,rfl,n⟩:=id L
   show gD _ _ _ l _ _
   refine uF λT B C=>(js n eG #[_,Z,Z,_,Z,?_])
   rw[G8 (Z:V.str f=V.str f)]
   refine B _ ?_
   show gE _ l _ _
   unfold gE
   rw[R]
   exact#[_,Z,q]
  ·obtain⟨g,⟨p,r,rfl,n⟩,U⟩:=d k x P0 m
   show gD _ _ _ l _ _
   refine uF λT B C=>(js n eG #[_,Z,Z,_,Z,?_])
   rw[GH (λz=>U (by injection z))]
   exact C _ (N _ _ #[#[_,Z],Z,P0])
 ·obtain⟨_,_,y⟩:=h
  exact absurd y P0
theorem tq:aj ["parts","f"] ["parts","f"] (aa i7):=bK
theorem Z5(F:aN K "part_of" "part_of" i7 f c)(C:Cl P w K mg base 1 r d ["ones","f"] ij "named"):ah P w K mg base ay 2 f c ["parts","f"] ij:=by
 refine F.ok tq ?_ λg A o s H V Q E j h=>?_
 ·rintro _ _ _ _ ⟨a,f,x,i,v,rfl,_⟩
  rfl
 obtain⟨a,f,x,i,v,rfl,l,n,p,b,q⟩:=h
 refine#[_,(jg (jo (C.e j.m (ja (pv 0) (ja (pv 1) jb))))),?_]
 exact#[_,Z,_,Z,a,f,x,i,v,Z,l,n,p,b,q]
theorem nV:aj ["ones","f","args","one"] ["ones","f","args"] (aa mO):=bK
theorem rE(F:aN K "begun" "begun" mO f j)(C:Cl P w K mg base 1 N l ["ones","f"] ij "named")(M:mg "len"=none):ah P w K mg base ay 2 f j ["ones","f","args"] gU:=by
 refine F.ok nV ?_ λn A o s H V Q E t h=>?_
 ·rintro _ _ _ _ ⟨a,g,f,x,y,i,v,p,c,r,u,rfl,_⟩
  rfl
 obtain⟨a,g,f,x,y,i,v,p,c,r,u,rfl,z,B,rfl,d,D,G,I,J,q⟩:=h
 refine#[_,(jd (jy 3 nV.nd (C.e t.m (ja (pv 0) (ja (pv 1) jb)))) (jd (jv (jz rW (jN jK Z M HJ (ja (pv 2) jb)) (jN jK Z M HJ (ja (jx (pv 3)) jb)) (aD _)) (@QE _ _) jp) (jg (jo (pv 3))))),?_]
 refine ai λL b=>#[_,Z,_,Z,a,f,x,i,.ref p,Z,z,B,#[p,_,Z,d],J,b _ _ ?_]
 clear b
 refine ai λL b=>#[_,Z,g,_,Z,.inr (aw.of G),js d iz #[c,_,Z,.inr (aw.of D),Z,_,Z,aS (by rw[I];simp) (b _ _ #[_,Z,q])]]
theorem sV:aj ["deep"] ["deep"] (aa iV):=bK
theorem Z6(F:aN K "deeper" "deeper" iV f a)(M:mg "DEEPEST"=some (.int 15 t))(X:XM K mg "TooDeep" D):ah P w K mg base (dP P w) 1 f a ["deep"] (cX D):=by
 refine F.ok1 sV ?_ λC A o s H V Q E g h=>?_
 ·rintro _ _ _ _ ⟨d,rfl,_⟩
  rfl
 obtain⟨d,rfl,q,e⟩:=h
 refine#[_,(jd (jv (jz rV (pv 0) (qF (v:=.int 15) Z M #[t,Z]) (aD _)) (jg (@Xg _ _ _ _ _ Z Qn (@Qk _ _ _ _ _ X.ex X.kp Z X.m PZ))) jp) (jg (jo (ju jY (pv 0) jf)))),?_]
 refine ai λi b=>#[_,Z,_,_,Z,Z,_,Z,?_]
 by_cases c:(15:Int)<=d
 ·refine cn (G8 c) λx n=>?_
  exact#[x,D,none,Z,jc,X.xc,X.ty,λT N=>e c () _ (Kp.of_same (Xs n N))]
 ·exact aS (GH c) (b _ _ #[_,Z,_,_,Z,Z,q P0])
theorem Bn:aj z22z z22z (aa sP):=bK
theorem Za(F:aN K "__init__" "Turns.__init__" sP f v)(c:RK K C):ah P w K mg base ay 1 f v z22z (ip C):=by
 refine F.ok Bn ?_ λx A o s H V Q E G h=>?_
 ·rintro _ _ _ _ ⟨r,D,y,z,m,rfl,_⟩
  rfl
 obtain⟨r,D,y,z,m,rfl,g,q⟩:=h
 refine#[_,(jd (@zW _ _ _ _ _ _ _ _ (pv 0) (pv 1) Z) (jd (@zW _ _ _ _ _ _ _ _ (pv 0) (pv 2) Z) (jd (@zW _ _ _ _ _ _ _ _ (pv 0) Ke Z) (jg (@zW _ _ _ _ _ _ _ _ (pv 0) jf Z))))),?_]
 refine ai λj a=>#[_,Z,_,Z,r,C,D,_,Z,g,c.cl,c.n1,PZ,a _ _ ?_]
 clear a
 refine ai λj a=>#[_,Z,_,Z,r,C,D,_,Z,jc,c.cl,c.n2,(by show 1 < 1000;decide),a _ _ ?_]
 clear a
 refine ai λj a=>λl n=>#[_,Z,r,C,D,_,Z,ao jc n,c.cl,c.n3,(by show 2 < 1000;decide),a _ _ ?_]
 clear a
 refine#[_,Z,r,C,D,_,Z,jc,c.cl,c.n4,(by show 3 < 1000;decide),?_]
 have N:l≠r:=λe=>by rw[e,jc]at n;cases n
 have B:H l=none:=by rw[ji N,ji N]at n;exact n
 have e:∀p t u O:HO,af (af (af (af (af H r p) r t) l (.dK [])) r u) r O=af (af H l (.dK [])) r O:=λp t u O=>by
  funext b
  by_cases d:b=r
  ·rw[d,jc,jc]
  ·rw[ji d,ji d,ji d]
   by_cases i:b=l
   ·rw[i,jc,jc]
   ·rw[ji i,ji d,ji d,ji i]
 rw[e]
 exact q l B
theorem wT:aj ["self"] ["self"] (aa mY):=bK
theorem Xt(F:aN K "take_turn" "Turns.take_turn" mY f i)(b:RK K C)(X:XM K mg "TooLong" L):ah P w K mg base (dP P w) 1 f i ["self"] (d9 C L):=by
 refine F.ok1 wT ?_ λj A o s H V Q E B h=>?_
 ·rintro _ _ _ _ ⟨r,d,g,n,p,u,m,t,rfl,_⟩
  rfl
 obtain⟨r,d,g,n,p,u,m,t,rfl,a,v,q,e⟩:=h
 refine#[_,(jd (jv (jz rV (kM (pv 0) Z) (kM (pv 0) Z) (aD _)) (jg (@Xg _ _ _ _ _ Z Qn (@Qk _ _ _ _ _ X.ex X.kp Z X.m PZ))) jp) (jg (@Zu _ _ _ _ _ _ _ _ _ _ (pv 0) jf yS))),?_]
 refine ai λD y=>#[_,Z,r,C,d,_,_,Z,a,b.cl,b.n4,Z,_,Z,r,C,d,_,_,Z,a,b.cl,b.n2,Z,_,_,Z,Z,_,Z,?_]
 by_cases c:m<=(t:Int)
 ·refine cn (G8 c) λx N=>?_
  exact#[x,L,none,Z,jc,X.xc,X.ty,λT z=>e c () _ (Kp.of_same (Xs N z))]
 ·exact aS (GH c) (y _ _ #[_,Z,r,C,d,_,_,Z,a,b.cl,b.n4,Z,_,_,Z,Z,d,_,a,(by have:=v.l;show g.length+1+1+1+1+1 < 1000;omega),q P0])
theorem Bo:aj ["self","cell"] ["self","cell"] (aa sQ):=bK
theorem Zb(F:aN K "number_in" "Turns.number_in" sQ f p)(b:RK K C):ah P w K mg base ay 1 f p ["self","cell"] (em C):=by
 refine F.ok Bo ?_ λu A o s H V Q E g h=>?_
 ·rintro _ _ _ _ ⟨r,d,x,i,l,y,m,c,t,L,j,rfl,_⟩
  rfl
 obtain⟨r,d,x,i,l,y,m,c,t,L,j,rfl,a,q⟩:=h
 refine#[_,(jg (jo (kB (QA (@AN _ _ _ _ _ (zc g) (pv 1) (kM (pv 0) Z))) (wn (zc g) (kM (pv 0) Z) (pv 1) (λ_ _=>Z)) (@Kf _ _ _ _ _ _ _ _ _ (zc g) (kM (pv 0) Z) (pv 1) jf #[P7,P7,P7,P7])))),?_]
 refine#[_,Z,_,Z,r,C,d,_,_,Z,a.ins,b.cl,b.n3,Z,l,_,Z,dH.k (k:=.inl c) a.lf,_,Z,?_]
 cases e:bg L (.inl c) with
 |some v=>
  refine cn Z #[_,Z,r,C,d,_,_,Z,a.ins,b.cl,b.n3,Z,_,Z,l,v,Z,by rw[<- e];exact dH.k (k:=.inl c) a.lf,?_]
  rw[ZX a.iL e (look j (.inl c) 0)]
  exact q
 |none=>
  refine aS Z #[_,Z,r,C,d,_,_,Z,a.ins,b.cl,b.n1,Z,i,Z,.inl #[_,.inl a.ce],_,Z,_,dH.k (k:=.inl c) a.ce,?_]
  rw[Kg a.iC]
  rw[Qv e]at q
  exact q
noncomputable abbrev sD:Stmt:=bE (bL 37) 0
noncomputable abbrev wF:Stmt:=bE (bL 37) 1
noncomputable abbrev wG:Stmt:=bE (bL 37) 2
noncomputable abbrev Bf:Stmt:=bL 38
inductive Sk where
 |nil |st (n:Int) (hs:List Int) (w r:Sk) |ask (b:Int) |rd (c i:Int) |wr (c i:Int) |cl (f:Str) (is:List Int) (s:Sk) (a:Int)
noncomputable def Sk.dep:Sk->Nat
 | .st _ _ w r=>max w.dep r.dep
 | .cl _ _ s _=>s.dep+1
 |_=>0
noncomputable def Sk.size:Sk->Nat
 | .st _ _ w r=>w.size+r.size+1
 | .cl _ _ s _=>s.size
 |_=>0
def Sk.ok:Bool->Sk->Prop
 |true,.nil=>True
 |true,.st _ _ w r=>w.ok false/\r.ok true
 |false,.cl _ _ s _=>s.ok true
 |false,.ask _=>True
 |false,.rd _ _=>True
 |false,.wr _ _=>True
 |_,_=>False
def eB(H:Hp):Sk->V->List V->Prop
 | .nil,_,x=>x=[]
 | .st n d w r,_,x=>∃p h u y,x= .ref p::y/\H p=some (.tup [.int n,.ref h,u])/\H h=some (.tup (d.map V.int))/\eB H w u []/\eB H r .non y
 | .ask b,u,_=>∃p,u= .ref p/\H p=some (.tup [.str "ask",.int b])
 | .rd c i,u,_=>∃p,u= .ref p/\H p=some (.tup [.str "read",.int c,.int i])
 | .wr c i,u,_=>∃p,u= .ref p/\H p=some (.tup [.str "write",.int c,.int i])
 | .cl f I s a,u,_=>∃p c g e S,u= .ref p/\H p=some (.tup [.str "call",.ref c])/\H c=some (.tup [.str f,.ref g,.ref e,.int a])/\H g=some (.tup (I.map V.int))/\H e=some (.tup S)/\eB H s .non S
theorem eB.mono(k:al H i):∀{s:Sk} {u:V} {x:List V},eB H s u x->eB i s u x
 | .nil,_,_,h=>h
 | .st _ _ _ _,_,_,z=>by obtain⟨p,h,u,y,e,a,b,d,f⟩:=z;exact #[p,h,u,y,e,k _ _ a,k _ _ b,eB.mono k d,eB.mono k f]
 | .ask _,_,_,z=>by obtain⟨p,e,h⟩:=z;exact #[p,e,k _ _ h]
 | .rd _ _,_,_,z=>by obtain⟨p,e,h⟩:=z;exact #[p,e,k _ _ h]
 | .wr _ _,_,_,z=>by obtain⟨p,e,h⟩:=z;exact #[p,e,k _ _ h]
 | .cl _ _ _ _,_,_,z=>by obtain⟨p,c,g,e,S,E,a,b,d,f,j⟩:=z;exact #[p,c,g,e,S,E,k _ _ a,k _ _ b,k _ _ d,k _ _ f,eB.mono k j]
noncomputable def Sk.put(n:Int)(h:List Int)(W:Sk):Sk->Sk
 | .st a b c r=>.st a b c (Sk.put n h W r)
 |_=>.st n h W .nil
theorem sj{H:Hp}{n:Int}{a:List Int}{w:Sk}{p h:Addr}{u:V}(b:H p=some (.tup [.int n,.ref h,u]))(c:H h=some (.tup (a.map V.int)))(d:eB H w u []):∀{s:Sk} {x:List V},s.ok true->eB H s .non x->eB H (Sk.put n a w s) .non (x++[.ref p])
 | .nil,_,_,e=>by have e:_=[]:=e;rw[e];exact#[p,h,u,[],Z,b,c,d,Z]
 | .st _ _ _ r,_,o,z=>by obtain⟨f,g,U,y,e,i,j,k,l⟩:=z;rw[e];exact#[f,g,U,y++[.ref p],Z,i,j,k,sj b c d o.2 l]
theorem QT{w:Sk}(h:w.ok false):∀{s:Sk},s.ok true->(Sk.put n H w s).ok true
 | .nil,_=>#[h,trivial]
 | .st _ _ _ _,o=>#[o.1,QT h o.2]
theorem Kh{n:Int}{hs:List Int}{w:Sk}:∀{s:Sk},s.ok true->(Sk.put n hs w s).size=s.size+(w.size+1)
 | .nil,_=>by show w.size+0+1=0+(w.size+1);omega
 | .st _ _ c r,o=>by have:=Kh (n:=n) (hs:=hs) (w:=w) (s:=r) o.2;show c.size+(Sk.put n hs w r).size+1=c.size+r.size+1+(w.size+1);omega
theorem Zc{n:Int}{hs:List Int}{w:Sk}{j:Nat}(H:w.dep<=j):∀{s:Sk},s.ok true->s.dep<=j->(Sk.put n hs w s).dep<=j
 | .nil,_,_=>by show max w.dep 0<=j;omega
 | .st _ _ c r,o,h=>by have h:max c.dep r.dep<=j:=h;have:=Zc (n:=n) (hs:=hs) H (s:=r) o.2 P0;show max c.dep (Sk.put n hs w r).dep<=j;omega
theorem X1:∀{s:Sk} {x:List V},s.ok true->eB H s .non x->x.length<=s.size
 | .nil,_,_,e=>by have e:_=[]:=e;rw[e];exact Gh 0
 | .st _ _ w r,_,o,z=>by obtain⟨_,_,_,y,e,_,_,_,h⟩:=z;have:=X1 o.2 h;rw[e];show y.length+1<=w.size+r.size+1;omega
def eu(H:Hp)(f:Str)(i:List Int)(s:Sk)(a:Int)(u:V):Prop:=∃c g e S,u= .ref c/\H c=some (.tup [.str f,.ref g,.ref e,.int a])/\H g=some (.tup (i.map V.int))/\H e=some (.tup S)/\eB H s .non S
noncomputable def Sk.wh:Sk->Wh
 | .ask b=>.ask b
 | .rd c i=>.rd c i
 | .wr c i=>.wr c i
 | .cl f I _ a=>.cl f I a
 |_=>.ask 0
theorem EY{s:Sk}(o:s.ok false)(h:eB H s u []):yx H u s.wh:=by
 cases s with
 |nil |st=>exact o.elim
 |ask b |rd c i |wr c i=>exact h
 |cl f I s a=>obtain⟨p,c,g,e,S,E,d,j,k,_⟩:=h;exact#[p,c,g,.ref e,E,d,j,k]
inductive Gd where
 |give (a:Int) |go (n:Nat) (hs:List Int)
noncomputable def dU(N:Nat->List Str)(k:aJ):Gl->Gd
 | .give _ T=>.give (T.ev k)
 | .nought=>.give 0
 | .go n=>.go n ((N n).map λx=>look k (.inr x) 0)
noncomputable def Fq:Gd->Tr
 | .give a=>aG [ba "give",aF a]
 | .go n h=>aG [ba "go",aF (n:Int),aG (h.map aF)]
theorem rf(N:Nat->List Str)(k:aJ)(g:Gl):oE N k g=Fq (dU N k g):=by
 cases g with
 |give t T |nought=>rfl
 |go n=>show _=aG [_,_,aG (((N n).map λx=>look k (.inr x) 0).map aF)];rw[ID];rfl
structure yq where
 nm:List Str
 e:DD
 ws:List WD
structure dq where
 f:Str
 ps:List Str
 way:WD
 cs:List yq
structure BW(H:Hp)(ys:List Str)(nA:Addr)(d:Df)(c:Ct)(cd:yq):Prop where
 nm:cd.nm=canon c.M
 ed:cd.e.dd=c.d
 dv:uK H ys cd.e
 cs:cd.e.Cs d.b.calls
 len:cd.ws.length=c.ws.length
 ws:∀(j:Nat) (w:Wy) (wd:WD),c.ws[j]?=some w->cd.ws[j]?=some wd->wd.wy nA=w/\uE H ys d.b.cuts d.b.size wd
structure uR(H:Hp)(nA:Addr)(d:Df)(ys:List Str)(pd:dq):Prop where
 f:pd.f=d.f
 ps:H d.pa=some (.tup (pd.ps.map V.str))
 wy:pd.way.wy nA=(gI nA d).1.w
 wv:uE H ys d.b.cuts d.b.size pd.way
 len:pd.cs.length=(bM nA d).length
 cs:∀(n:Nat) (c:Ct) (cd:yq),(bM nA d)[n]?=some c->pd.cs[n]?=some cd->BW H ys nA d c cd
theorem BW.mono(k:al H f)(h:BW H y n d c C):BW f y n d c C:=#[h.nm,h.ed,h.dv.mono k,h.cs,h.len,λj w W a b=>let #[e,v]:=h.ws j w W a b;#[e,v.mono k]]
theorem uR.mono(k:al H e)(h:uR H N d y p):uR e N d y p:=#[h.f,k _ _ h.ps,h.wy,h.wv.mono k,h.len,λn c C a b=>(h.cs n c C a b).mono k]
theorem uW{c d:Type}{R:c->d->Prop}:∀(l:List c),(∀a∈l,∃b,R a b)->∃m:List d,m.length=l.length/\∀(i:Nat) (a:c) (b:d),l[i]?=some a->m[i]?=some b->R a b
 | [],_=>#[[],Z,λi a b h=>by simp at h]
 |a::l,h=>by
  obtain⟨b,g⟩:=h a GF
  obtain⟨m,e,j⟩:=uW l λx k=>h x (GJ _ k)
  refine#[b::m,by rw[GX,GX,e],λi x y H f=>?_]
  cases i with
  |zero=>cases H;cases f;exact g
  |succ i=>exact j i x y (by simpa using H) (by simpa using f)
noncomputable def lN(p:dq)(n:Nat):List Str:=match p.cs[n]? with
 |some c=>c.nm
 |none=>[]
theorem uR.nms(h:uR H N d y p):dE N d=lN p:=by
 funext n
 unfold dE lN
 by_cases a:n < p.cs.length
 ·have b:n < (bM N d).length:=by rw[<- h.len];exact a
  rw[Gc a,Gc b]
  exact(h.cs n _ _ (Gc b) (Gc a)).nm.symm
 ·rw[HF (LJ a),HF (by rw[<- h.len];exact LJ a)]
inductive OW where
 |ok (w:Sk) (L:aJ) (t:Nat) |long |deep
inductive OC where
 |ok (s:Sk) (a:Int) (L:aJ) (t:Nat) |long |deep
noncomputable def OC.cons(n:Int)(h:List Int)(w:Sk):OC->OC
 | .ok s a L t=>.ok (.st n h w s) a L t
 | .long=>.long
 | .deep=>.deep
noncomputable def Sk.app:Sk->Sk->Sk
 | .st n h w r,s=>.st n h w (r.app s)
 |_,s=>s
noncomputable def OC.pre(S:Sk):OC->OC
 | .ok s a L t=>.ok (S.app s) a L t
 | .long=>.long
 | .deep=>.deep
theorem Ki:∀{s:Sk},s.ok true->s.app .nil=s
 | .nil,_=>rfl
 | .st n h w r,o=>by show Sk.st n h w (r.app .nil)=_;rw[Ki o.2]
theorem QU{w:Sk}:∀{s:Sk},s.ok true->(Sk.put n h w s).app q=s.app (.st n h w q)
 | .nil,_=>rfl
 | .st a b c r,o=>by show Sk.st a b c ((Sk.put n h w r).app q)=Sk.st a b c (r.app (.st n h w q));rw[QU o.2]
theorem sh{w s:Sk}(o:OC)(h:s.ok true):(o.cons n H w).pre s=o.pre (Sk.put n H w s):=by
 cases o with
 |ok q a L t=>show OC.ok (s.app (.st n H w q)) a L t= .ok ((Sk.put n H w s).app q) a L t;rw[QU h]
 |long |deep=>rfl
abbrev eW:=Str->List Int->aJ->Nat->OC
noncomputable def OC.cl(f:Str)(i:List Int):OC->OW
 | .ok s a L t=>.ok (.cl f i s a) L t
 | .long=>.long
 | .deep=>.deep
noncomputable def dQ(call:eW)(C:aJ)(k L:aJ)(t:Nat)(e:DD):OW:=if t < 60 then match e with
 | .ask _ T=>.ok (.ask (if T.ev k=0 then 0 else 1)) L (t+1)
 | .st _ (.rd _ _ T)=>.ok (.rd (T.ev k) (look L (.inl (T.ev k)) (look C (.inl (T.ev k)) 0))) L (t+1)
 | .st _ (.wr _ _ T U)=>.ok (.wr (T.ev k) (U.ev k)) (aY L (.inl (T.ev k)) (.int (U.ev k))) (t+1)
 | .st _ (.cl _ f _ a)=>(call f (a.map λc=>c.2.ev k) L (t+1)).cl f (a.map λc=>c.2.ev k)
 |_=>.long
 else .long
theorem JO{call:eW}(h:¬t < 60):dQ call C k L t e= .long:=by unfold dQ;rw[GG h]
theorem Jf{call:eW}(h:t < 60):dQ call C k L t (.ask p T)= .ok (.ask (if T.ev k=0 then 0 else 1)) L (t+1):=by unfold dQ;rw[Gw h]
theorem K6{call:eW}(h:t < 60):dQ call C k L t (.st p (.rd x a T))= .ok (.rd (T.ev k) (look L (.inl (T.ev k)) (look C (.inl (T.ev k)) 0))) L (t+1):=by unfold dQ;rw[Gw h]
theorem K7{call:eW}(h:t < 60):dQ call C k L t (.st p (.wr a b T U))= .ok (.wr (T.ev k) (U.ev k)) (aY L (.inl (T.ev k)) (.int (U.ev k))) (t+1):=by unfold dQ;rw[Gw h]
theorem qD{call:eW}(h:t < 60):dQ call C k L t (.st p (.cl x f q T))=(call f (T.map λc=>c.2.ev k) L (t+1)).cl f (T.map λc=>c.2.ev k):=by unfold dQ;rw[Gw h]
noncomputable def oJ(p:dq)(c:yq)(h:List Int)(w:Wh):Gd:=match c.ws[w.side]? with
 |some W=>dU (lN p) (bZ W.sets (nD c.e w (aR c.nm h))) W.goal
 |none=>.give 0
noncomputable def dM(call:eW)(C:aJ)(p:dq):Nat->Gd->aJ->Nat->OC
 |0,_,_,_=>.long
 |_+1,.give a,L,t=>.ok .nil a L t
 |m+1,.go n h,L,t=>match p.cs[n]? with
  |none=>.long
  |some c=>match dQ call C (aR c.nm h) L t c.e with
   | .ok w l T=>(dM call C p m (oJ p c h w.wh) l T).cons (n:Int) h w
   | .long=>.long
   | .deep=>.deep
noncomputable def dC:List dq->Str->Option dq
 | [],_=>none
 |p::r,f=>if p.f=f then some p else dC r f
theorem Zd:∀{b:List dq} {i:Nat} {a:dq},b[i]?=some a->(∀(j:Nat) (p:dq),j < i->b[j]?=some p->p.f≠a.f)->dC b a.f=some a
 | [],i,a,h,_=>by simp at h
 |p::r,0,a,h,_=>by cases h;show(if p.f=p.f then some p else _)=_;rw[Gw Z]
 |p::r,i+1,a,h,k=>by
  show(if p.f=a.f then some p else dC r a.f)=_
  rw[GG (k 0 p (Nat.succ_pos _) Z)]
  exact Zd (i:=i) (by simpa using h) λj q H c=>k (j+1) q (Nat.succ_lt_succ H) (by simpa using c)
noncomputable def a8(p:List dq)(C:aJ):Nat->eW
 |0=>λ_ _ _ _=>.deep
 |j+1=>λf i L t=>match dC p f with
  |none=>.long
  |some a=>dM (a8 p C j) C a 62 (dU (lN a) (bZ a.way.sets (aR a.ps i)) a.way.goal) L t
structure Ps(H:Hp)(nA pA:Addr)(ds:List Df)(ns:List Nat)(xs:List V)(pds:List dq):Prop where
 at':H pA=some (.tup xs)
 tr:aM H (aI (ds.map (eI nA))) .non xs
 dv:∃zs,cg H ds zs
 ok:oN ds ns
 pa:lI H ds ns
 dl:pds.length=ds.length
 pr:∀(i:Nat) (d:Df) (pd:dq),ds[i]?=some d->pds[i]?=some pd->∃ys,(d.b.Ok ys/\ys.length<=20)/\uR H nA d ys pd
theorem Ps.mono(h:Ps H n c D N x p)(k:al H e):Ps e n c D N x p:=#[k _ _ h.at',h.tr.mono k,let #[f,z]:=h.dv;#[f,z.mono k],h.ok,h.pa.mono k,h.dl,λi d g a b=>let #[Y,y,r]:=h.pr i d g a b;#[Y,y,r.mono k]]
theorem Ze(h:aM H (eI n d) v []):BN H v d.f:=by
 obtain⟨_,a,x,rfl,b,_,_,Y,y,rfl,⟨rfl,_⟩,_⟩:=h
 exact#[a,_,Z,b]
theorem px:∀{D:List Df} {z:List V},cg H D z->∀{i:Nat} {d:Df},D[i]?=some d->∃B,dn H d.b B
 |_::_,_,q,0,d,a=>by obtain⟨u,r,e,⟨B,_,_,_,h⟩,c⟩:=q;cases a;exact#[B,h]
 |_::_,_,#[u,r,e,_,c],i+1,d,a=>px c (by simpa using a)
section
variable {H:Hp}{nA pA:Addr}{ds:List Df}{ns:List Nat}{xs:List V}{pds:List dq}
theorem Ps.part(h:Ps H nA pA ds ns xs pds){i:Nat}{d:Df}{v:V}(b:ds[i]?=some d)(q:xs[i]?=some v):∃y c,lJ H nA d y v/\pds[i]?=some c/\uR H nA d y c/\dC pds d.f=some c:=by
 obtain⟨T,n,t⟩:=qr h.tr i v q
 rw[Gz,b]at n
 cases n
 obtain⟨z,r⟩:=h.dv
 obtain⟨_,_,s⟩:=(h.ok.1 d (GP b)).1
 have u:i < ds.length:=(List.getElem?_eq_some_iff.mp b).1
 have g:pds[i]?=some (pds[i]'(by rw[h.dl];exact u)):=Gc _
 obtain⟨y,⟨O,Y⟩,k⟩:=h.pr i d _ b g
 refine#[y,_,#[t,px r b,O,Y,s],g,k,?_]
 rw[<- k.f]
 refine Zd g λj p A l e=>?_
 have a:j < ds.length:=by omega
 obtain⟨_,_,m⟩:=h.pr j _ p (Gc a) l
 rw[m.f,k.f]at e
 have x:(ds.map Df.f)[j]?=some (ds[j]).f:=by rw[Gz,Gc a];rfl
 have o:(ds.map Df.f)[i]?=some d.f:=by rw[Gz,b];rfl
 rw[<- e]at o
 have:=(NZ (by rw[Gg];exact a) h.ok.2.1).mp (x.trans o.symm)
 omega
theorem Ps.cs(h:Ps H nA pA ds ns xs pds){i:Nat}{d:Df}(a:ds[i]?=some d):∀f∈d.b.calls,f∈(ds.map Df.f).zip ns:=zr (h.ok.1 d (GP a)).2
theorem Ps.at(h:Ps H nA pA ds ns xs pds){i:Nat}{d:Df}(b:ds[i]?=some d):∃v,xs[i]?=some v/\aM H (eI nA d) v []/\BN H v d.f/\∀j x,j < i->xs[j]?=some x->∃g,BN H x g/\g≠d.f:=by
 have L:=kW h.tr
 rw[Gg]at L
 have r:i < ds.length:=(List.getElem?_eq_some_iff.mp b).1
 have t:∀(j:Nat) (x:V),xs[j]?=some x->∃c,ds[j]?=some c/\aM H (eI nA c) x []:=λj x k=>by
  obtain⟨s,m,t⟩:=qr h.tr j x k
  rw[Gz]at m
  obtain⟨c,a,rfl⟩:=Option.map_eq_some_iff.mp m
  exact#[c,a,t]
 have n:xs[i]?=some (xs[i]'P0):=Gc P0
 obtain⟨c,a,T⟩:=t _ _ n
 rw[b]at a
 cases a
 refine#[_,n,T,Ze T,λj x u k=>?_]
 obtain⟨c,a,q⟩:=t j x k
 refine#[c.f,Ze q,λe=>?_]
 have o:(ds.map Df.f)[j]?=some c.f:=by rw[Gz,a];rfl
 have p:(ds.map Df.f)[i]?=some d.f:=by rw[Gz,b];rfl
 rw[<- e]at p
 have l:j < (ds.map Df.f).length:=(List.getElem?_eq_some_iff.mp o).1
 have:=(NZ l h.ok.2.1).mp (o.trans p.symm)
 omega
theorem Ps.find(h:Ps H nA pA ds ns xs pds)(a:(f,n)∈(ds.map Df.f).zip ns):∃(i:Nat) (d:Df),ds[i]?=some d/\ns[i]?=some n/\d.f=f:=by
 obtain⟨i,b,e⟩:=List.mem_iff_getElem.mp a
 have E:((ds.map Df.f).zip ns)[i]?=some (f,n):=by rw[<- e];exact Gc b
 rw[M6]at E
 rw[Gz]at E
 obtain⟨d,c,g⟩:=Option.map_eq_some_iff.mp E.1
 exact#[i,d,c,E.2,g]
end
theorem Rn.tm(h:Rn H C r d E c l p m t L f)(k:aL r l H a):al H a:=λb x e=>k b _ (jP e h.ins (by intro z;cases z)) (jP e h.lf (by intro z;cases z)) e
theorem Rn.same(h:Rn H C r d e c l p m t L a)(s:ae H b):Rn b C r d e c l p m t L a:=#[s _ _ h.ins,s _ _ h.lf,s _ _ h.ce,h.iL,h.iC,h.cl,h.tl]
theorem Rn.rl(h:Rn H C r d e c l p m t L a):r≠l/\r≠c:=#[jP h.ins h.lf (by intro z;cases z),jP h.ins h.ce (by intro z;cases z)]
def BM(r l:Addr)(H h:Hp):Prop:=∀b o,b≠r->b≠l->NX o->H b=some o->h b=some o
theorem Fl.next(h:Fl E L (BM r l H)):Fl (nJ E) L (BM r l H):=λd i k x T t c e a j f=>by
 cases e
 exact h d _ λb o N g n e=>JN (H:=H) (k b o N g n e) n a f
theorem Fl.nextK(h:Fl E L (Kp H)):Fl (nJ E) L (Kp H):=λd g k x T t c e a i f=>by
 cases e
 exact h d _ λb o n e=>JN (H:=H) (k b o n e) n a f
theorem Fl.mono{R S:Hp->Prop}(h:Fl E L R)(k:∀H,S H->R H):Fl E L S:=λd H s=>h d H (k H s)
inductive gw(C:Addr)(e:List V)(H:Hp)(Q:VK)(a:XK):Prop
 |mk(r c d b:Addr)(m:Int)(_:e=[.ref r,.ref d,.ref b,.int m])(_:H r=some (.ins C c []))(_:∀lA,H lA=none->Q .non (af (af H lA (.dK [])) r (.ins C c (cy [] b lA d m 0))))
def mK(A B:Prop)(E:XK)(T t:Addr)(R:Hp->Prop):Prop:=(A->Fl E T R)/\(B->Fl E t R)
theorem mK.mono{R S:Hp->Prop}(h:mK A B E T t R)(k:∀H,S H->R H):mK A B E T t S:=#[λa=>(h.1 a).mono k,λb=>(h.2 b).mono k]
theorem mK.next(h:mK A B E T t (BM r l H)):mK A B (nJ E) T t (BM r l H):=#[λa=>(h.1 a).next,λb=>(h.2 b).next]
theorem mK.imp{R:Hp->Prop}(h:mK A B E T t R)(a:c->A)(b:d->B):mK c d E T t R:=#[λx=>h.1 (a x),λx=>h.2 (b x)]
inductive dD(C g f q:Addr)(j:Nat)(x:List V)(H:Hp)(Q:VK)(E:XK):Prop
 |mk(r m:Addr)(n:List (Str×V))(k p w h:Addr)(b t i:Nat)(L e:aJ)(v:V)(d:Df)(l:List Df)(s:List Nat)(y:List V)(c:List dq)(o:List Int)(_:x=[.ref r,v,.ref h,.int (b:Int)])(_:b+j=16)(_:1<=j)(_:Rn H C r m n k p w 60 t L e)(_:L.length<=t)(_:t<=60)(_:Ps H q w l s y c)(_:l[i]?=some d)(_:s[i]?=some o.length)(_:y[i]?=some v)(_:H h=some (.tup (o.map V.int)))(_:∀z∈o,eK z)(_:∀(u:V) (sk:Sk) (a:Int) (L':aJ) (H':Hp),a8 c e j d.f o L t= .ok sk a L' (t+sk.size)->eu H' d.f o sk a u->sk.ok true->sk.dep+1<=j->eK a->Rn H' C r m n k p w 60 (t+sk.size) L' e->L'.length<=t+sk.size->t+sk.size<=60->aL r p H H'->Q u H')(_:mK (a8 c e j d.f o L t= .long) (a8 c e j d.f o L t= .deep) E g f (BM r p H))
inductive gB(C f d n:Addr)(j:Nat)(q:List V)(H:Hp)(Q:VK)(E:XK):Prop
 |mk(r i:Addr)(l:List (Str×V))(g m p:Addr)(a t:Nat)(L c k:aJ)(u:V)(e:DD)(x:List Str)(h:List Df)(o:List Nat)(s:List V)(b:List dq)(_:q=[.ref r,u,.int (a:Int)])(_:a+j=15)(_:Rn H C r i l g m p 60 t L c)(_:L.length<=t)(_:t<=60)(_:Ps H n p h o s b)(_:aM H (D8 k e) u [])(_:uK H x e)(_:GT k)(_:e.Cs ((h.map Df.f).zip o))(_:∀(w:Sk) (v:V) (L':aJ) (H':Hp),dQ (a8 b c j) c k L t e= .ok w L' (t+1+w.size)->eB H' w v []->w.ok false->BY e w.wh->w.dep<=j->Rn H' C r i l g m p 60 (t+1+w.size) L' c->L'.length<=t+1+w.size->t+1+w.size<=60->aL r m H H'->Q v H')(_:mK (dQ (a8 b c j) c k L t e= .long) (dQ (a8 b c j) c k L t e= .deep) E f d (BM r m H))
theorem Bl:aj z6z z6z (aa sD):=bK
theorem Zf(F:aN K "__init__" "BookRun.__init__" sD f t)(j:RK K C)(GT:ah P w K mg base ay 1 u c z22z (ip C))(B:au K c z22z [])(M:mg "Turns"=some (.ref T))(v:oM K T "__init__" u):ah P w K mg base ay 2 f t z6z (gw C):=by
 refine F.ok Bl ?_ λx A o s H V Q E y h=>?_
 ·rintro _ _ _ _ ⟨r,d,z,k,m,rfl,_⟩
  rfl
 obtain⟨r,d,z,k,m,rfl,g,q⟩:=h
 refine#[_,(jd (jO (@YV _ _ _ _ _ _ _ _ _ _ _ _ _ _ _ _ _ _ _ _ Z M v GT y.m B .nil a6 (ja (pv 0) (ja (pv 2) (ja (pv 3) jb))) PZ P7 P7 P7)) (jg (@zW _ _ _ _ _ _ _ _ (pv 0) (pv 1) Z))),?_]
 refine ai λD n=>#[_,Z,_,Z,_,Z,r,d,[],k,m,Z,g,λL N=>n _ _ ?_]
 clear n
 refine#[_,Z,_,Z,r,C,d,_,Z,jc,j.cl,j.n5,(by show 4 < 1000;decide),?_]
 have e:∀(i:Hp) (p O:HO),af (af i r p) r O=af i r O:=λi p O=>by
  funext b
  by_cases a:b=r
  ·rw[a,jc,jc]
  ·rw[ji a,ji a,ji a]
 rw[e]
 exact q L N
theorem JP(h:aM H (aG t) u []):∃a x,u= .ref a/\H a=some (.tup x)/\aM H (aI t) .non x:=let #[_,a,x,e,b,c]:=h;#[a,x,e,b,c]
theorem zM(h:aM H (aI (t::T)) .non x):∃y Y,x=y::Y/\aM H t y []/\aM H (aI T) .non Y:=let #[_,_,y,Y,e,a,b]:=h;#[y,Y,e,a,b]
theorem Zg(h:aM H (ba x) y []):y= .str x:=h.1
theorem JQ(h:aM H (aF n) y []):y= .int n:=h.1
theorem Kj:∀{I:List Int} {v:List V},aM H (aI (I.map aF)) .non v->v=I.map V.int
 | [],v,h=>h
 |i::I,v,h=>by obtain⟨y,Y,rfl,a,b⟩:=zM h;rw[JQ a,Kj b];rfl
theorem QV{H:Hp}{w:Str}{t:List Tr}{u:V}(h:aM H (aG (ba w::t)) u []):∃a x,u= .ref a/\H a=some (.tup (.str w::x))/\aM H (aI t) .non x:=by
 obtain⟨a,x,rfl,b,h⟩:=JP h
 obtain⟨y,Y,rfl,c,d⟩:=zM h
 rw[Zg c]at b
 exact#[a,Y,Z,b,d]
theorem QI{H:Hp}{w:Str}{i:Int}{u:V}(h:aM H (aG [ba w,aF i]) u []):∃a,u= .ref a/\H a=some (.tup [.str w,.int i]):=by
 obtain⟨a,x,rfl,b,h⟩:=QV h
 obtain⟨y,Y,rfl,c,d⟩:=zM h
 have e:Y=[]:=d
 rw[JQ c,e]at b
 exact#[a,Z,b]
theorem uq{H:Hp}{w:Str}{i:Int}{t:Tr}{u:V}(h:aM H (aG [ba w,aF i,t]) u []):∃a y,u= .ref a/\H a=some (.tup [.str w,.int i,y])/\aM H t y []:=by
 obtain⟨a,x,rfl,b,h⟩:=QV h
 obtain⟨y,Y,rfl,c,d⟩:=zM h
 obtain⟨z,f,rfl,g,j⟩:=zM d
 have e:f=[]:=j
 rw[JQ c,e]at b
 exact#[a,z,Z,b,g]
theorem Dw:aj z10z z10z (aa wG):=bK
theorem rF(F:aN K "what_of" "BookRun.what_of" wG f fd)(ck:RK K C)(GT:ah P w K mg base (dP P w) 1 fT f0 ["self"] (d9 C TL))(bT:au K f0 ["self"] [])(m0:a5 K C "take_turn" fT)(GI:ah P w K mg base ay 1 fI f2 ["self","cell"] (em C))(bI:au K f2 ["self","cell"] [])(m1:a5 K C "number_in" fI)(GD:ah P w K mg base (dP P w) 1 fD f3 ["deep"] (cX TD))(bD:au K f3 ["deep"] [])(kD:keepIn K (.ref fD)=true)(mD:mg "deeper"=some (.ref fD))(cP:Cl P w K mg base 2 fP f6 ["parts","f"] ij "part_of")(GC:ah P w K mg base (dP P w) (2*j+12) fC f4 z14z (dD C TL TD nA j))(bC:au K f4 z14z [])(m2:a5 K C "chain_of" fC):ah P w K mg base (dP P w) (2*j+13) f fd z10z (gB C TL TD nA j):=by
 refine F.ok1 Dw ?_ λc5 A o2 s H vs Q E hr h=>?_
 ·rintro _ _ _ _ ⟨r,I,X,Y,M,S,N,t,L,Cs,k,u,e,ys,ds,ns,xs,p1,rfl,_⟩
  rfl
 obtain⟨r,I,X,Y,M,S,N,t,L,Cs,k,u,e,ys,ds,ns,xs,p1,rfl,h4,D,h5,ht,hP,J,h0,hk,h1,q,t0⟩:=h
 refine#[_,(jd (jO (Xc (pv 0) ck.cl m0 GT hr.m bT .nil zG)) (jd (jv (j5 (jx (pv 1))) (jg (jo (jh (ja jm (ja (jx (pv 1)) (ja (j4 (pv 0) ck.cl m1 GI hr.m bI .nil a6 (ja (jx (pv 1)) jb)) jb)))))) jp) (jd (jv (j5 (jx (pv 1))) (jg (jo (jh (ja jm (ja (j4 (pv 0) ck.cl m2 GC hr.m bC .nil zG (ja (cP.e hr.m (ja (kM (pv 0) Z) (ja (jx (pv 1)) jb))) (ja (jx (pv 1)) (ja (kC GD hr.m Z mD kD bD .nil zG (ja (pv 2) jb)) jb)))) jb))))) jp) (jd (jv (j5 (jx (pv 1))) (jg (zK (zc hr) (kM (pv 0) Z) (jx (pv 1)) (jx (pv 1)) Z)) jp) (jg (jo (pv 1))))))),?_]
 have b0:=aE
 refine ai λF1 B=>#[_,Z,r,I,_,Z,D.ins,D.tl.t,r,I,X,Y,M,S,60,t,Z,D.ins,D.tl,λlt=>B _ _ ?_,λge=>((t0.1 (JO P0)).mono λH' kk=>λb o _ _ nx e=>kk b o nx e).nextK]
 clear B
 have t1:al H (af H r (.ins C I (cy X Y M S 60 (t+1)))):=λb xs e=>by rw[ji (jP e D.ins (by intro z;cases z))];exact e
 have R:Rn (af H r (.ins C I (cy X Y M S 60 (t+1)))) C r I X Y M S 60 (t+1) L Cs:=#[jc,by rw[ji D.rl.1.symm];exact D.lf,by rw[ji D.rl.2.symm];exact D.ce,D.iL,D.iC,D.cl,D.tl]
 have k1:aL r M H (af H r (.ins C I (cy X Y M S 60 (t+1)))):=λb o n1 n2 e=>by rw[ji n1];exact e
 generalize af H r (.ins C I (cy X Y M S 60 (t+1)))=H1 at t1 R k1
 have J:=J.mono t1
 have lt':t+1<=60:=by omega
 have f5:∀(w:Sk) (xs:List V) (W:Hp) (v:Addr),W v=none->eB (af W v (.tup xs)) w (.ref v) []->w.ok false->dQ (a8 p1 Cs j) Cs k L t e= .ok w L (t+1)->BY e w.wh->w.size=0->w.dep<=j->H1=W->Q (.ref v) (af W v (.tup xs)):=λw xs W v nv hw ok eq ft sz dp e2=>by
  subst e2
  exact q w _ L _ (by rw[sz];exact eq) hw ok ft dp (by rw[sz];exact R.same (je nv)) P0 P0 (k1.trans (aL.of_same (je nv)))
 cases e with
 |ask ta T=>
  obtain⟨p,rfl,G⟩:=QI J
  refine ai λF1 B=>(js G Z #[Z,_,Z,aS P6 (B _ _ ?_)])
  clear B
  refine ai λF1 B=>(js G Z #[Z,_,Z,aS P6 (B _ _ ?_)])
  clear B
  refine ai λF1 B=>(js G Z #[Z,_,Z,aS P6 (B _ _ ?_)])
  clear B
  refine#[_,Z,q (.ask (if T.ev k=0 then 0 else 1)) _ L _ (Jf P0) #[p,Z,G] trivial ?_ (Gp _) R (by show L.length<=t+1+0;omega) lt' k1]
  show(if T.ev k=0 then (0:Int) else 1)=0∨(if T.ev k=0 then (0:Int) else 1)=1
  split
  ·exact .inl Z
  ·exact .inr Z
 |st p0 l=>
  obtain⟨vs,_,h6,o1,c0⟩:=h0
  cases l with
  |gv ta T |st x ta T=>cases c0
  |rd x ta T=>
   obtain⟨p,rfl,G⟩:=QI J
   refine ai λF1 B=>(js G Z #[Z,_,Z,cn P6 (js G Z #[_,Z,r,I,_,Z,R.ins,R.tl.n,js G Z #[r,I,X,Y,M,S,60,_,_,_,_,Z,R,gn,λv nv=>?_]])])
   exact f5 (.rd (T.ev k) (look L (.inl (T.ev k)) (look Cs (.inl (T.ev k)) 0))) _ _ v nv #[v,Z,jc] trivial (K6 P0) (JL R.iL (JL R.iC qM)) Z (Gp _) Z
  |wr ta ub T U=>
   obtain⟨p,y,rfl,G,hy⟩:=uq J
   rw[JQ hy]at G
   refine ai λF1 B=>(js G Z #[Z,_,Z,aS P6 (B _ _ ?_)])
   clear B
   refine ai λF1 B=>(js G Z #[Z,_,Z,aS P6 (B _ _ ?_)])
   clear B
   refine ai λF1 B=>(js G Z #[Z,_,Z,cn P6 (js G Z #[_,Z,r,C,I,_,_,Z,R.ins,ck.cl,ck.n3,Z,js G Z #[M,_,Z,iP.k (k:=.inl (T.ev k)) R.lf P0,B _ _ ?_]])])
   clear B
   have pl:=kO (kvs:=L) (k:=.inl (T.ev k)) (v:=.int (U.ev k))
   have t3:al H1 (af H1 M (.dK (aY L (.inl (T.ev k)) (.int (U.ev k))))):=λb xs e=>by rw[ji (jP e R.lf (by intro z;cases z))];exact e
   refine#[_,Z,q (.wr (T.ev k) (U.ev k)) _ (aY L (.inl (T.ev k)) (.int (U.ev k))) _ (K7 P0) #[p,Z,t3 _ _ G] trivial trivial (Gp _) #[by rw[ji D.rl.1];exact R.ins,jc,by rw[ji D.cl];exact R.ce,R.iL.put _ (qC hk o1.2.1),R.iC,R.cl,R.tl] (by show _<=t+1+0;omega) lt' λb o n1 n2 e=>?_]
   rw[ji n2]
   exact k1 b o n1 n2 e
  |cl x f q' ts=>
   obtain⟨p,y3,rfl,G,hy⟩:=QV J
   obtain⟨y1,y5,rfl,e1,hy⟩:=zM hy
   obtain⟨y2,y0,rfl,e2,hy⟩:=zM hy
   have e3:y0=[]:=hy
   subst e3
   rw[Zg e1]at G
   obtain⟨ag,a0,rfl,ha,O⟩:=JP e2
   have O:aM H1 (aI ((ts.map λc=>c.2.ev k).map aF)) .non a0:=by rw[ID];exact O
   rw[Kj O]at ha
   obtain⟨i,d,hd,hn,rfl⟩:=hP.find h1
   have P1:=hP.mono t1
   obtain⟨v,hv,_,h2,h3⟩:=P1.at hd
   refine ai λF1 B=>(js G Z #[Z,_,Z,aS P6 (B _ _ ?_)])
   clear B
   refine ai λF1 B=>(js G Z #[Z,_,Z,cn P6 ?_])
   clear B
   refine#[_,Z,r,I,_,Z,R.ins,R.tl.c,_,Z,r,C,I,_,_,Z,R.ins,ck.cl,ck.n5,Z,js G Z #[S,d.f,xs,i,v,Z,P1.at',hv,h2,h3,js G Z #[_,Z,(N:Int),Z,λdl=>?_,λdg=>((t0.2 (by have z:j=0:=P0;rw[qD P0,z];rfl)).mono λW kk=>λb o n1 n2 nx e=>kk b o nx (k1 b o n1 n2 e)).nextK]]]
   refine#[r,I,X,Y,M,S,ag,N+1,t+1,i,L,Cs,v,d,ds,ns,xs,p1,ts.map λc=>c.2.ev k,Z,P0,P0,R,P0,lt',P1,hd,by rw[Gg];exact hn,hv,ha,λz hz=>?_,λu sk a L' W eq hc ok dp ia R2 l2 t2 k2=>?_,mK.next ((t0.imp (λz=>by rw[qD P0,z];rfl) (λz=>by rw[qD P0,z];rfl)).mono λW kk=>λb o n1 n2 nx e=>kk b o n1 n2 nx (k1 b o n1 n2 e))]
   ·obtain⟨c,hc,rfl⟩:=List.mem_map.mp hz
    exact qC hk (o1.2.2 c hc).1
   ·obtain⟨c,g,ee,ss,rfl,c1,c2,c3,c4⟩:=hc
    refine#[bN,λv2 nv=>?_]
    have s2:ae W (af W v2 (.tup [.str "call",.ref c])):=je nv
    refine q (.cl d.f (ts.map λc=>c.2.ev k) sk a) _ L' _ (by rw[qD P0,eq];rfl) #[v2,c,g,ee,ss,Z,jc,s2 _ _ c1,s2 _ _ c2,s2 _ _ c3,c4.mono (ae.tm s2)] ok ia (by show sk.dep+1<=j;omega) (R2.same s2) l2 t2 ((k1.trans k2).trans (aL.of_same s2))
theorem yA:dA (s++[x]) (-1)=some x:=by
 have l:(s++[x]).length=s.length+1:=by rw[Gi];rfl
 unfold dA mN
 rw[l,GG P0,Gw P0]
 have e:(-1+((s.length+1:Nat):Int)).toNat=s.length:=by omega
 show(s++[x])[(-1+((s.length+1:Nat):Int)).toNat]?=_
 rw[e]
 simp
inductive B0(H:Hp)(nA:Addr)(d:Df)(u:V):Gd->Prop
 |give (p:Addr) (a:Int) (e:u= .ref p) (h:H p=some (.tup [.str "give",.int a])) (i:eK a):B0 H nA d u (.give a)
 |go (p hv:Addr) (n:Nat) (c:Ct) (is:List Int) (e:u= .ref p) (h:H p=some (.tup [.str "go",.int (n:Int),.ref hv])) (h2:H hv=some (.tup (is.map V.int))) (hc:(bM nA d)[n]?=some c) (hl:is.length=(canon c.M).length) (hi:∀i∈is,eK i):B0 H nA d u (.go n is)
theorem QJ{H:Hp}{nA:Addr}{d:Df}(h:aM f (oE (dE nA d) k g) u [])(j:GT k)(l:BZ H Y d.b.cuts g):B0 f nA d u (dU (dE nA d) k g):=by
 cases g with
 |give t T=>obtain⟨p,e,h⟩:=QI h;exact .give p _ e h (qC j l.2.1)
 |nought=>obtain⟨p,e,h⟩:=QI h;exact .give p 0 e h qM
 |go n=>
  obtain⟨p,y,e,h,q⟩:=uq h
  obtain⟨a,X,rfl,m,c⟩:=JP q
  have r:n < (bM nA d).length:=by rw[Y6];exact l
  have o:(bM nA d)[n]?=some (bM nA d)[n]:=Gc r
  have c:aM f (aI (((dE nA d n).map λx=>look k (.inr x) 0).map aF)) .non X:=by rw[ID];exact c
  rw[Kj c]at m
  refine .go p a n _ _ e h m o (by rw[Gg,rq o]) λi s=>?_
  obtain⟨x,_,rfl⟩:=List.mem_map.mp s
  exact JL j qM
inductive CI(a:eW)(M:dq)(h:OC)(C r o:Addr)(E:List (Str×V))(n G K l O I:Addr)(b t j:Nat)(i:aJ)(v:V)(d:Df)(H:Hp)(F:Nat)(Q:_L.St)(k:Hp):Prop
 |mk(J:Option V)(u:V)(g:Gd)(m:Nat)(N:Sk)(P:List V)(L:aJ)(p:Q=[some (.ref r),some v,some (.ref l),some (.int (b:Int)),some (.ref O),some u,J])(q:k O=some (.lst P))(s:eB k N .non P)(w:N.ok true)(x:N.dep+1<=j)(y:B0 k I d u g)(z:Rn k C r o E n G K 60 (t+N.size) L i)(A:L.length<=t+N.size)(B:t+N.size<=60)(D:aL r G H k)(c:F+t+N.size=61)(e:(dM a i M m g L (t+N.size)).pre N=h)(f:62<=m+(t+N.size))
theorem lP:aj ["self","part","args","deep","steps","goal","what"] z14z (aa wF):=bK
theorem Aj(F:aN K "chain_of" "BookRun.chain_of" wF f fd)(ck:RK K C)(cF:Cl P w K mg base 9 fF f2 ["part","args"] (fu nA) "first_of")(cD:Cl P w K mg base 9 fD f3 z13z (fq nA) "deed_at")(cO:Cl P w K mg base 9 fO f4 ["part","step"] (tN nA) "onward")(GW:ah P w K mg base (dP P w) (2*j+13) fW f0 z10z (gB C TL TD nA j))(bW:au K f0 z10z [])(m0:a5 K C "what_of" fW)(m1:mg "tuple"=none):ah P w K mg base (dP P w) (2*j+14) f fd z14z (dD C TL TD nA (j+1)):=by
 refine F.ok1 lP ?_ λc3 A o2 s H vs Q E hr h=>?_
 ·rintro _ _ _ _ ⟨r,dx,ex,cA,lA,pA,ag,U,t,i,L,y,v,d,ds,ns,xs,x,is,rfl,_⟩
  rfl
 obtain⟨r,dx,ex,cA,lA,pA,ag,U,t,i,L,y,v,d,ds,ns,xs,x,is,rfl,b5,_,hR,a0,ht,hP,hd,hn,hv,ha,h3,q,t4⟩:=h
 refine#[_,(jd (jy 4 lP.nd (jF jb)) (jd (jy 5 lP.nd (cF.e hr.m (ja (pv 1) (ja (pv 2) jb)))) (jd (Kb PassesOwn.leaving (j5 (jx (pv 5))) (jd (jy 6 lP.nd (j4 (pv 0) ck.cl m0 GW hr.m bW .nil zG (ja (cD.e hr.m (ja (pv 1) (ja (jx (pv 5)) (ja (jx (pv 5)) jb)))) (ja (pv 3) jb)))) (jd (jO (kn PySem.F.plainAttrs_list PySem.F.slot_list_append PySem.F.type_list_append jR (pv 4) (ja (jh (ja (jx (pv 5)) (ja (jx (pv 5)) (ja (pv 6) jb)))) jb))) (jg (jy 5 lP.nd (cO.e hr.m (ja (pv 1) (ja (jr jq (pv 4) (rY XV jf) (λ_ _=>Z)) jb)))))))) (jg (jo (jh (ja (jx (pv 1)) (ja (pv 2) (ja (jD jI Z m1 boot_tuple (ja (pv 4) jb)) (ja (jx (pv 5)) jb)))))))))),?_]
 have b8:=aE
 obtain⟨ys,g,h1,b9,pr,a1⟩:=hP.part hd hv
 obtain⟨ps,h4,a2,a3⟩:=hP.pa.2 i d _ hd hn
 have e3:ps=g.ps:=by
  have z:=h4.symm.trans pr.ps
  injection z with z
  injection z with z
  exact(List.map_inj_right λa b e=>by injection e).mp z
 subst e3
 have e0:a8 x y (j+1) d.f is L t=dM (a8 x y j) y g 62 (dU (lN g) (bZ g.way.sets (aR g.ps is)) g.way.goal) L t:=by
  show(match dC x d.f with |none=>OC.long |some g=>dM (a8 x y j) y g 62 (dU (lN g) (bZ g.way.sets (aR g.ps is)) g.way.goal) L t)=_
  rw[a1]
 generalize a8 x y (j+1) d.f is L t=X at q t4 e0
 refine ai λF1 J=>#[iF,λS Y=>J _ _ ?_]
 clear J
 have s1:ae H (af H S (.lst [])):=je Y
 have l1:af H S (.lst []) S=some (.lst []):=jc
 generalize af H S (.lst [])=H1 at s1 l1 ⊢
 have e4:=pr.wy
 have h2:=pr.wv
 refine ai λF1 J=>#[_,Z,_,Z,v,ag,d,ys,g.ps,is,g.way,Z,h1.mono (ae.tm s1),s1 _ _ h4,P0,s1 _ _ ha,a2.symm,h3,e4,h2.mono (ae.tm s1),λu H2 hu s2=>J _ _ ?_]
 clear J
 have S2:=s1.trans s2
 have gz:GT (aR g.ps is):=qu h3
 have g0:=QJ (H:=H) hu (zL h2.sets gz) h2.goal
 rw[pr.nms]at g0
 have s0:S≠r:=Ne.symm (jk hR.ins Y)
 have s3:S≠lA:=Ne.symm (jk hR.lf Y)
 have s9:cA≠S:=jk hR.ce Y
 refine ai λF1 J=>?_
 refine ny (CI (a8 x y j) g X C r dx ex cA lA pA ag S nA U t (j+1) y v d H) (61 - t) #[none,u,_,62,.nil,[],L,Z,s2 _ _ l1,Z,trivial,by show 0+1<=j+1;omega,g0,hR.same S2,a0,ht,aL.of_same S2,by show 61 - t+t+0=61;omega,by rw[e0];show OC.pre .nil (dM (a8 x y j) y g 62 _ L t)=_;cases dM (a8 x y j) y g 62 (dU (lN g) (bZ g.way.sets (aR g.ps is)) g.way.goal) L t<;>rfl,by show 62<=62+(t+0);omega] ?_
 intro kk σ H3 E' rt fE F kT cF.k Gq kq hW
 obtain⟨o6,u,gd,m,N,R,L1,rfl,w1,w2,w3,w4,w5,w6,w7,w8,w9,b',W,c4⟩:=hW
 obtain⟨m,rfl⟩:∃m',m=m'+1:=#[m - 1,P0]
 have t0:=hR.tm w9
 have P3:=hP.mono t0
 cases w5 with
 |give p a e h5 ia=>
  subst e
  refine kq (js h5 Z #[Z,_,Z,?_])
  rw[show decide (V.str (Str.ofString "give")=V.str (Str.ofString "go"))=false by decide+kernel]
  refine cF.k _ (J _ _ ?_)
  obtain⟨pa,ca,wv,cs,e,h7,_⟩:=(h1.mono t0).parts
  subst e
  refine(js h7 Z #[_,Z,_,Z,S,R,Z,.inl #[aH.of w1,λl2 n0=>?_]])
  have s4:ae H3 (af H3 l2 (.tup R)):=je n0
  refine(js (s4 _ _ h5) Z #[oK,λv2 nv=>?_])
  have s5:=s4.trans (je (o:=.tup [.str d.f,.ref ag,.ref l2,.int a]) nv)
  have S5:aL r lA H (af (af H3 l2 (.tup R)) v2 (.tup [.str d.f,.ref ag,.ref l2,.int a])):=w9.trans (aL.of_same s5)
  have W:OC.ok (N.app .nil) a L1 (t+N.size)=X:=W
  rw[Ki w3]at W
  exact q _ N a L1 _ W.symm #[v2,ag,l2,R,Z,jc,hR.tm S5 _ _ ha,ao jc nv,w2.mono (ae.tm s5)] w3 w4 ia (w6.same s5) w7 w8 S5
 |go p D n c hs e h5 h6 hc hl hi=>
  subst e
  refine kq (js h5 Z #[Z,_,Z,?_])
  rw[show decide (V.str (Str.ofString "go")=V.str (Str.ofString "go"))=true by decide+kernel]
  refine kT _ ?_
  clear kT cF.k J
  have P1:=h1.mono t0
  obtain⟨pa,ca,wv,cs,e9,h7,_,_,a4⟩:=P1.parts
  obtain⟨ka,na,wa,dv,c5,_,c1⟩:=P1.cut a4 hc
  have a':n < g.cs.length:=by rw[pr.len];exact(List.getElem?_eq_some_iff.mp hc).1
  obtain⟨cd,h8⟩:∃cd,g.cs[n]?=some cd:=#[_,List.getElem?_eq_getElem a']
  have cr:=(pr.cs n c cd hc h8).mono t0
  obtain⟨c2,e,c0⟩:=cd
  obtain⟨e1,ed,d0,e5,l0,b0⟩:=cr
  have e1:c2=canon c.M:=e1
  subst e1
  have W:OC.pre N (match g.cs[n]? with
   |none=>OC.long
   |some c=>match dQ (a8 x y j) y (aR c.nm hs) L1 (t+N.size) c.e with
    | .ok w L1 t1=>(dM (a8 x y j) y g m (oJ g c hs w.wh) L1 t1).cons (n:Int) hs w
    | .long=>.long
    | .deep=>.deep)=X:=W
  rw[h8]at W
  have W:OC.pre N (match dQ (a8 x y j) y (aR (canon c.M) hs) L1 (t+N.size) e with
    | .ok w L1 t1=>(dM (a8 x y j) y g m (oJ g #[canon c.M,e,c0] hs w.wh) L1 t1).cons (n:Int) hs w
    | .long=>.long
    | .deep=>.deep)=X:=W
  have gk:GT (aR (canon c.M) hs):=qu hi
  refine ai λF1 J=>#[_,Z,r,dx,_,Z,w6.ins,w6.tl.w,_,Z,js h5 Z (js h5 Z #[v,n,D,d,ys,c,hs,e,Z,P1,hc,h6,hl,hi,ed,d0,λud H4 b1 s4=>?_])]
  have t':=t0.trans (ae.tm s4)
  refine#[_,Z,r,dx,ex,cA,lA,pA,U,t+N.size,L1,y,aR (canon c.M) hs,ud,e,ys,ds,ns,xs,x,Z,P0,w6.same s4,w7,w8,hP.mono t',b1,d0.mono (ae.tm s4),gk,?_,λw uw L' H5 e7 hw o1 ft d1 R5 l5 t5 k5=>J _ _ ?_,?_]
  ·cases e with
   |ask=>trivial
   |st p0 l=>cases l<;>first |trivial |exact hP.cs hd _ e5
  ·clear J
   have K5:aL r lA H3 H5:=(aL.of_same s4).trans k5
   have t7:al H3 H5:=w6.tm K5
   have g5:=t7 _ _ h5
   have w0:H5 S=some (.lst R):=K5 _ _ s0 s3 w1
   have l3:=X1 w3 w2
   refine ai λF1 J=>#[_,Z,.inl #[Z,_,aH.of w0],js g5 Z (js g5 Z #[_,Z,gn,λO n3=>?_])]
   have s6:ae H5 (af H5 O (.tup [.int (n:Int),.ref D,uw])):=je n3
   have e6:af H5 O (.tup [.int (n:Int),.ref D,uw]) O=some (.tup [.int (n:Int),.ref D,uw]):=jc
   refine#[S,_,_,Z,Z,s6 _ _ w0,P0,J _ _ ?_]
   clear J
   generalize af H5 O (.tup [.int (n:Int),.ref D,uw])=H6 at s6 e6
   have b7:aB S H6 (af H6 S (.lst (R++[.ref O]))):=λb o nb e=>by rw[ji nb];exact e
   have t3:al H6 (af H6 S (.lst (R++[.ref O]))):=λb xs e=>b7 _ _ (jP e (s6 _ _ w0) (by intro z;cases z)) e
   have w':af H6 S (.lst (R++[.ref O])) S=some (.lst (R++[.ref O])):=jc
   generalize af H6 S (.lst (R++[.ref O]))=H7 at b7 t3 w'
   have t2:al H5 H7:=λb xs e=>t3 _ _ (s6 _ _ e)
   have B:al H3 H7:=t7.trans t2
   have G:w.wh.side < c.ws.length:=by
    rw[c1.v.len,<- ed]
    cases e with
    |ask ta T=>show _ < 2;unfold Wh.side;split<;>(try split)<;>omega
    |st p0 l=>
     show _ < 1
     cases w<;>first |exact Nat.one_pos |exact o1.elim | (cases l<;>exact ft.elim)
   obtain⟨I,h0⟩:∃I,c0[w.wh.side]?=some I:=#[_,List.getElem?_eq_getElem (by rw[l0];exact G)]
   obtain⟨e2,h'⟩:=b0 _ _ I (List.getElem?_eq_getElem G) h0
   have sv:lK H7 nA d ys v O n D uw c hs w.wh e I:=#[P1.mono B,t3 _ _ e6,hc,B _ _ h6,hl,hi,(EY o1 hw).mono t2,ed,d0.mono B,ft,by rw[e2];exact List.getElem?_eq_getElem G,h'.mono B]
   have b2:dA (R++[V.ref O]) (-1)=some (.ref O):=yA
   refine#[_,Z,_,Z,_,Z,S,_,_,_,Z,Z,aH.of w',b2,v,uw,O,D,n,d,ys,c,hs,w.wh,e,I,Z,sv,λu2 H8 b3 s8=>?_]
   have t8:=ae.tm s8
   have b4:=B.trans t8
   have g1:=QJ (H:=H7) b3 (zL sv.wdv.sets (X0 ft gk)) sv.wdv.goal
   have e8:oJ g #[canon c.M,e,c0] hs w.wh=dU (lN g) (bZ I.sets (nD e w.wh (aR (canon c.M) hs))) I.goal:=by
    show(match c0[w.wh.side]? with |some wd=>dU (lN g) (bZ wd.sets (nD e w.wh (aR (canon c.M) hs))) wd.goal |none=>Gd.give 0)=_
    rw[h0]
   rw[pr.nms,<- e8]at g1
   rw[e7]at W
   have W:OC.pre N ((dM (a8 x y j) y g m (oJ g #[canon c.M,e,c0] hs w.wh) L' (t+N.size+1+w.size)).cons (n:Int) hs w)=X:=W
   rw[sh _ w3]at W
   have s7:=Kh (n:=(n:Int)) (hs:=hs) (w:=w) w3
   have R7:Rn H7 C r dx ex cA lA pA 60 (t+N.size+1+w.size) L' y:=#[b7 _ _ (Ne.symm s0) (s6 _ _ R5.ins),b7 _ _ (Ne.symm s3) (s6 _ _ R5.lf),b7 _ _ s9 (s6 _ _ R5.ce),R5.iL,R5.iC,R5.cl,R5.tl]
   have ez:t+N.size+1+w.size=t+(Sk.put (n:Int) hs w N).size:=by rw[s7];omega
   rw[ez]at R7 l5 t5 W
   refine fE (kk - (w.size+1)) _ _ P0 #[_,u2,_,m,Sk.put (n:Int) hs w N,R++[.ref O],L',Z,s8 _ _ w',(sj (t3 _ _ e6) (B _ _ h6) (hw.mono t2) w3 (w2.mono B)).mono t8,QT o1 w3,?_,g1,R7.same s8,l5,t5,?_,by rw[s7];omega,W,P0]
   ·have:=Zc (n:=(n:Int)) (hs:=hs) (w:=w) (j:=j) d1 w3 P0
    omega
   ·intro b o n1 n2 e
    exact s8 _ _ (b7 _ _ (jk e Y) (s6 _ _ (K5 _ _ n1 n2 (w9 _ _ n1 n2 e))))
  ·exact mK.next ((t4.imp (λz=>by rw[z]at W;exact W.symm) (λz=>by rw[z]at W;exact W.symm)).mono λH5 kk=>λb o n1 n2 nx e=>kk b o n1 n2 nx (s4 _ _ (w9 _ _ n1 n2 e)))
inductive oh(f e l:Addr)(o:List V)(H:Hp)(Q:VK)(E:XK):Prop
 |mk(n g h:Addr)(i:Nat)(c:aJ)(d:Df)(j:List Df)(m:List Nat)(p:List V)(b:List dq)(k:List Int)(_:o=[.ref n,.str d.f,.ref g,.ref h,.int 60])(_:Ps H l n j m p b)(_:j[i]?=some d)(_:m[i]?=some k.length)(_:H g=some (.tup (k.map V.int)))(_:∀z∈k,eK z)(_:H h=some (.dK c))(_:GT c)(_:∀(u:V) (sk:Sk) (a:Int) (L':aJ) (H':Hp),a8 b c 16 d.f k [] 0= .ok sk a L' sk.size->eu H' d.f k sk a u->sk.ok true->sk.dep<=15->sk.size<=60->ae H H'->Q u H')(_:mK (a8 b c 16 d.f k [] 0= .long) (a8 b c 16 d.f k [] 0= .deep) E f e (Kp H))
theorem wj(h:aM H (eI n d) v []):∃p r,v= .ref p/\H p=some (.tup (.str d.f:: .ref d.pa::r)):=by
 obtain⟨_,a,x,rfl,b,_,_,c,y,rfl,⟨rfl,_⟩,_,_,e,Y,rfl,⟨rfl,_⟩,_⟩:=h
 exact#[a,_,Z,b]
theorem Ac:ah P w K mg base (dP P w) k f c z14z (dD C T b N 0):=by
 have n:∀{V H Q E},¬dD C T b N 0 V H Q E:=by
  rintro V H Q E ⟨r,e,g,j,l,m,q,D,t,i,L,u,v,d,x,y,X,p,I,_,_,z,_⟩
  omega
 exact#[λV H Q E h=>(n h).elim,λA o s H a U V Q E B F G J h=>(n h).elim]
theorem yB(d:RK K C)(F:aN K "chain_of" "BookRun.chain_of" wF k f)(B:au K f z14z [])(m:a5 K C "chain_of" k)(l:aN K "what_of" "BookRun.what_of" wG D e)(o:au K e z10z [])(M:a5 K C "what_of" D)(p:Cl P w K mg base 9 Q E ["part","args"] (fu n) "first_of")(q:Cl P w K mg base 9 U H z13z (fq n) "deed_at")(r:Cl P w K mg base 9 Y I ["part","step"] (tN n) "onward")(GT:ah P w K mg base (dP P w) 1 J g ["self"] (d9 C T))(s:au K g ["self"] [])(a:a5 K C "take_turn" J)(G:ah P w K mg base ay 1 L h ["self","cell"] (em C))(t:au K h ["self","cell"] [])(b:a5 K C "number_in" L)(u:ah P w K mg base (dP P w) 1 v i ["deep"] (cX N))(x:au K i ["deep"] [])(y:keepIn K (.ref v)=true)(z:mg "deeper"=some (.ref v))(A:Cl P w K mg base 2 fP O ["parts","f"] ij "part_of")(c:mg "tuple"=none):∀j,ah P w K mg base (dP P w) (2*j+12) k f z14z (dD C T N n j)
 |0=>Ac
 |j+1=>Aj F d p q r (rF l d GT s a G t b u x y z A (yB d F B m l o M p q r GT s a G t b u x y z A c j) B m) o M c
theorem yg:aj ["parts","f","args","cells","most","part"] z26z (aa Bf):=bK
theorem Au(F:aN K "run" "run" Bf f fd)(ck:RK K C)(mk:Mk K C fI)(GI:ah P w K mg base ay 2 fI y z6z (gw C))(bI:au K y z6z [])(mC:mg "BookRun"=some (.ref C))(cB:Cl P w K mg base 2 fB f0 ["ones","f","args"] gU "begun")(GA:ah P w K mg base (dP P w) 44 fA B z14z (dD C TL TD nA 16))(bA:au K B z14z [])(M:a5 K C "chain_of" fA):ah P w K mg base (dP P w) 45 f fd z26z (oh TL TD nA):=by
 refine F.ok1 yg ?_ λc0 A O s H vs Q E G h=>?_
 ·rintro _ _ _ _ ⟨g,I,j,i,J,d,ds,ns,X,k,is,rfl,_⟩
  rfl
 obtain⟨g,I,j,i,J,d,ds,ns,X,k,is,rfl,x,L,hn,ha,R,t,T,q,U⟩:=h
 refine#[_,(jd (jy 5 yg.nd (cB.e G.m (ja (pv 0) (ja (pv 1) (ja (pv 2) jb))))) (jg (jo (j4 (QN mk GI G.m Z mC bI .nil a6 (ja (pv 0) (ja (pv 3) (ja (pv 4) jb)))) ck.cl M GA G.m bA .nil zG (ja (pv 5) (ja (pv 2) (ja jf jb))))))),?_]
 obtain⟨v,hv,tv,h0,V⟩:=x.at L
 obtain⟨p,pr,rfl,hp⟩:=wj tv
 obtain⟨ps,W,h1,_⟩:=x.pa.2 i d _ L hn
 refine ai λF1 f1=>#[_,Z,_,Z,_,Z,g,I,d.f,X,_,i,.ref p,p,d.pa,pr,_,Z,x.at',hv,Z,hp,W,ha,by rw[Gg,Gg];omega,V,f1 _ _ ?_]
 clear f1
 refine#[_,Z,_,Z,_,Z,λr D N nd ne=>?_]
 have s0:ae H (af (af H D (.own r)) r (.ins C D [])):=λc o e=>by rw[ji (jk e N),ji (jk e nd)];exact e
 refine#[r,D,g,j,60,Z,jc,λl Y=>#[Z,?_]]
 have n0:l≠r:=λe=>by rw[e,jc]at Y;cases Y
 have n:H l=none:=by
  cases z:H l with
  |none=>rfl
  |some o=>have:=s0 _ _ z;rw[Y]at this;cases this
 have S:ae H (af (af (af (af H D (.own r)) r (.ins C D [])) l (.dK [])) r (.ins C D (cy [] j l g 60 0))):=λc o e=>by rw[ji (jk e N),ji (jk e n)];exact s0 _ _ e
 have R1:Rn (af (af (af (af H D (.own r)) r (.ins C D [])) l (.dK [])) r (.ins C D (cy [] j l g 60 0))) C r D [] j l g 60 0 [] J:=#[jc,by rw[ji n0];exact jc,S _ _ t,GT.nil,T,jk t n,Tl.nil]
 generalize af (af (af (af H D (.own r)) r (.ins C D [])) l (.dK [])) r (.ins C D (cy [] j l g 60 0))=H1 at S R1
 have t0:=ae.tm S
 refine#[r,D,_,Z,R1.ins,Z,_,Z,_,Z,r,D,[],j,l,g,I,0,0,i,[],J,.ref p,d,ds,ns,X,k,is,Z,Z,PZ,R1,Gh _,PZ,x.mono t0,L,hn,hv,S _ _ ha,R,λu sk a L' H2 eq hc ok dp ia R2 l2 t2 k2=>?_,mK.next (U.mono λH' kk=>λb o nx e=>kk b o (jk e N) (jk e n) nx (S _ _ e))]
 exact q u sk a L' H2 (by rw[LU]at eq;exact eq) hc ok P0 P0 λc o e=>k2 c o (jk e N) (jk e n) (S _ _ e)
noncomputable def mx:Sk->Tr
 | .nil=>.nil
 | .st n h w r=>.cons (aG [aF n,aG (h.map aF),mx w]) (mx r)
 | .ask b=>aG [ba "ask",aF b]
 | .rd c i=>aG [ba "read",aF c,aF i]
 | .wr c i=>aG [ba "write",aF c,aF i]
 | .cl f I s a=>aG [ba "call",aG [ba f,aG (I.map aF),.tp (mx s),aF a]]
theorem YI:∀{b:Bool} {s:Sk},s.ok b->(mx s).isL=b
 |true,.nil,_=>rfl
 |true,.st _ _ _ _,_=>rfl
 |false,.cl _ _ _ _,_=>rfl
 |false,.ask _,_=>rfl
 |false,.rd _ _,_=>rfl
 |false,.wr _ _,_=>rfl
theorem qv{H:Hp}{a:List Int}(e:H h=some (.tup (a.map V.int))):aM H (aG (a.map aF)) (.ref h) []:=jC e JM
theorem YJ:∀{b:Bool} {s:Sk} {u:V} {X:List V},s.ok b->eB H s u X->(b=false->X=[])->(b=true->u= .non)->aM H (mx s) u X
 |true,.nil,_,_,_,h,_,_=>h
 |true,.st n t w r,_,_,o,q,_,z=>by
  obtain⟨p,h,u,y,e,d,j,k,l⟩:=q
  rw[e,z Z]
  exact#[Z,YI o.2,_,_,Z,jC d (jl Z jT (jl Z (qv j) (jl (YI o.1) (YJ o.1 k (λ_=>Z) (λx=>nomatch x)) jA))),YJ o.2 l (λx=>nomatch x) (λ_=>Z)]
 |false,.ask b,_,_,_,q,z,_=>by obtain⟨p,e,h⟩:=q;rw[e,z Z];exact jC h (jl Z jQ (jl Z jT jA))
 |false,.rd c i,_,_,_,q,z,_=>by obtain⟨p,e,h⟩:=q;rw[e,z Z];exact jC h (jl Z jQ (jl Z jT (jl Z jT jA)))
 |false,.wr c i,_,_,_,q,z,_=>by obtain⟨p,e,h⟩:=q;rw[e,z Z];exact jC h (jl Z jQ (jl Z jT (jl Z jT jA)))
 |false,.cl f I s a,_,_,o,q,z,_=>by
  obtain⟨p,c,g,e,S,E,d,j,k,l,m⟩:=q
  rw[E,z Z]
  exact jC d (jl Z jQ (jl Z (jC j (jl Z jQ (jl Z (qv k) (jl Z #[YI o,e,S,Z,l,YJ (b:=true) o m (λx=>nomatch x) (λ_=>Z)] (jl Z jT jA))))) jA))
theorem qc:∀i:List Int,(aI (i.map aF)).dep=0
 | []=>rfl
 |_::i=>by show max 0 (aI (i.map aF)).dep=0;rw[qc i];rfl
theorem QK:∀{b:Bool} {s:Sk},s.ok b->(mx s).dep<=4*s.dep+(if b=true then 2 else 1)
 |true,.nil,_=>Gp _
 |true,.st n H w r,o=>by
  have h:=QK (b:=false) (s:=w) o.1
  have c:=QK (b:=true) (s:=r) o.2
  have d:=qc H
  have h:(mx w).dep<=4*w.dep+1:=h
  have c:(mx r).dep<=4*r.dep+2:=c
  show max (max 0 (max ((aI (H.map aF)).dep+1) (max (mx w).dep 0))+1) (mx r).dep<=4*max w.dep r.dep+2
  omega
 |false,.ask _,_=>Gh 1
 |false,.rd _ _,_=>Gh 1
 |false,.wr _ _,_=>Gh 1
 |false,.cl f i s a,o=>by
  have h:=QK (b:=true) (s:=s) o
  have d:=qc i
  have h:(mx s).dep<=4*s.dep+2:=h
  show max 0 (max (max 0 (max ((aI (i.map aF)).dep+1) (max ((mx s).dep+1) (max 0 0)))+1) 0)+1<=4*(s.dep+1)+1
  omega
noncomputable def BP(f:Str)(i:List Int)(s:Sk)(a:Int):Tr:=aI [ba f,aG (i.map aF),.tp (mx s),aF a]
theorem K8(h:eu H f i s a u)(o:s.ok true):aM H (.tp (BP f i s a)) u []:=by
 obtain⟨c,g,e,S,rfl,d,j,k,l⟩:=h
 exact jC d (jl Z jQ (jl Z (qv j) (jl Z #[YI o,e,S,Z,k,YJ (b:=true) o l (λx=>nomatch x) (λ_=>Z)] (jl Z jT jA))))
theorem X2{s:Sk}(o:s.ok true)(d:s.dep<=15):(BP f i s a).dep < 100:=by
 have h:=QK (b:=true) (s:=s) o
 have H:=qc i
 have h:(mx s).dep<=4*s.dep+2:=h
 show max 0 (max ((aI (i.map aF)).dep+1) (max ((mx s).dep+1) (max 0 0))) < 100
 omega
theorem AQ{p:List Str}{v:V}(h:lJ H N d y v)(g:H d.pa=some (.tup (p.map V.str))):∃q,uR H N d y q:=by
 obtain⟨W,E,i⟩:=h.way
 obtain⟨a,J,L,O,rfl,Q,m,r,j⟩:=h.parts
 obtain⟨C,s,t⟩:=uW (R:=λc u=>BW H y N d c u) (bM N d) λc k=>by
  obtain⟨n,x,z⟩:=List.mem_iff_getElem.mp k
  obtain⟨S,T,U,X,A,_,o⟩:=h.cut j (n:=n) (c:=c) (by rw[<- z];exact Gc x)
  obtain⟨e,B,D,F⟩:=Cz o.v.deed
  obtain⟨G,I,l⟩:=uW (R:=λ(w:Wy) (W:WD)=>W.wy N=w/\uE H y d.b.cuts d.b.size W) c.ws λw m=>o.v.ways w m
  exact#[#[canon c.M,e,G],Z,B,D,F,I,l]
 exact#[#[d.f,p,W,C],Z,g,E,i,s,t]
theorem Dm{H:Hp}{D:List Df}(a:H l=some (.tup x))(T:aM H (aI (D.map (eI n))) .non x)(g:∃z,cg H D z)(o:oN D N)(j:lI H D N):∃p,Ps H n l D N x p:=by
 have L:=kW T
 rw[Gg]at L
 obtain⟨p,m,q⟩:=uW (R:=λd c=>∃y,(d.b.Ok y/\y.length<=20)/\uR H n d y c) D λd e=>by
  obtain⟨i,r,E⟩:=List.mem_iff_getElem.mp e
  have h:D[i]?=some d:=by rw[<- E];exact Gc r
  have s:x[i]?=some (x[i]'P0):=Gc _
  obtain⟨t,k,u⟩:=qr T i _ s
  rw[Gz,h]at k
  cases k
  obtain⟨z,A⟩:=g
  obtain⟨⟨y,Y,o⟩,_,S⟩:=(o.1 d e).1
  obtain⟨C,f,_⟩:=j.v d e
  obtain⟨c,B⟩:=AQ (v:=x[i]'P0) #[u,px A h,o,Y,S] f
  exact#[c,y,#[o,Y],B]
 exact#[p,a,T,g,o,j,m,q]
theorem Xu{call:eW}(h:dM call C p m (.give b) L t= .ok r a l T):r= .nil/\a=b/\l=L:=by
 cases m with
 |zero=>cases h
 |succ m=>cases h;exact#[Z,Z,Z]
theorem pR{call:eW}(h:dM call C p m (.go n H) L t= .ok d a g i):∃c w l T r M,p.cs[n]?=some c/\dQ call C (aR c.nm H) L t c.e= .ok w l T/\d= .st (n:Int) H w r/\dM call C p M (oJ p c H w.wh) l T= .ok r a g i:=by
 cases m with
 |zero=>cases h
 |succ m=>
  unfold dM at h
  cases e:p.cs[n]? with
  |none=>rw[e]at h;cases h
  |some c=>
   rw[e]at h
   dsimp only at h
   cases E:dQ call C (aR c.nm H) L t c.e with
   |long |deep=>rw[E]at h;cases h
   |ok w l T=>
    rw[E]at h
    dsimp only at h
    cases f:dM call C p m (oJ p c H w.wh) l T with
    |long |deep=>rw[f]at h;cases h
    |ok r b _L j=>rw[f]at h;cases h;exact#[c,w,l,T,r,m,Z,E,Z,f]
theorem pq{call:eW}{w:Sk}(h:dQ call C k L t e= .ok w l T):t < 60:=by
 by_cases z:t < 60
 ·exact z
 ·rw[JO z]at h;cases h
noncomputable abbrev wP:Stmt:=bL 7
noncomputable abbrev wQ:Stmt:=bL 8
theorem wz(a:aJ)(k:bh)(v:V):(aY a k v).length<=a.length+1:=kO
noncomputable def Sk.flat:Sk->List Sk
 | .st _ _ w r=>w::(w.flat++r.flat)
 | .cl _ _ s _=>s.flat
 |_=>[]
noncomputable def Sk.tops:Sk->List Sk
 | .st _ _ w r=>w::r.tops
 |_=>[]
noncomputable def nE(W:List Sk):List Sk:=(W.map λw=>w::w.flat).flatten
theorem qh:∀{s:Sk},s.ok true->s.flat=nE s.tops
 | .nil,_=>rfl
 | .st _ _ w r,o=>by show w::(w.flat++r.flat)=w::w.flat++nE r.tops;rw[qh o.2];rfl
theorem zu:∀{b:Bool} {s:Sk},s.ok b->s.flat.length=s.size
 |true,.nil,_=>rfl
 |true,.st _ _ w r,o=>by
  have h:=zu (b:=false) (s:=w) o.1
  have H:=zu (b:=true) (s:=r) o.2
  show(w.flat++r.flat).length+1=w.size+r.size+1
  rw[Gi,h,H]
 |false,.cl _ _ s _,o=>zu (b:=true) (s:=s) o
 |false,.ask _,_=>rfl
 |false,.rd _ _,_=>rfl
 |false,.wr _ _,_=>rfl
theorem JR(a b:List Sk):nE (a++b)=nE a++nE b:=by unfold nE;rw[GY,List.flatten_append]
theorem X3(W:List Sk)(i:Nat):(nE (W.take i)).length<=(nE W).length:=by
 have:=HL List.length (JR (W.take i) (W.drop i))
 rw[Md,Gi]at this
 omega
theorem tL:∀{s:Sk} {S:List V},s.ok true->eB H s .non S->∀{i:Nat} {x:V},S[i]?=some x->∃w p h n u,s.tops[i]?=some w/\w.ok false/\w.dep<=s.dep/\w.size+1<=s.size/\x= .ref p/\H p=some (.tup [.int n,.ref h,u])/\eB H w u []
 | .nil,_,_,e,i,x,a=>by have e:_=[]:=e;rw[e]at a;simp at a
 | .st n f w r,_,o,q,0,x,a=>by
  obtain⟨p,h,u,y,e,b,g,c,d⟩:=q
  rw[e]at a
  cases a
  exact#[w,p,h,n,u,Z,o.1,Mc _ _,by show w.size+1<=w.size+r.size+1;omega,Z,b,c]
 | .st n f w r,_,o,q,i+1,x,a=>by
  obtain⟨p,h,u,y,e,b,g,c,d⟩:=q
  rw[e]at a
  obtain⟨W,j,k,N,U,t,T,l,v,m⟩:=tL o.2 d (i:=i) (x:=x) (by simpa using a)
  exact#[W,j,k,N,U,t,T,Gr l (LK _ _),by show W.size+1<=w.size+r.size+1;omega,m]
theorem Kk:∀{s:Sk} {S:List V},s.ok true->eB H s .non S->S.length=s.tops.length
 | .nil,_,_,e=>by have e:_=[]:=e;rw[e];rfl
 | .st n b w r,_,o,z=>by obtain⟨p,h,u,y,e,c,d,f,a⟩:=z;rw[e];exact HL (·+1) (Kk o.2 a)
abbrev RT:=Hp->V->Sk->Prop
def lG(R:RT)(H:Hp):List Sk->List V->Prop
 | [],v=>v=[]
 |w::W,v=>∃x r,v=x::r/\R H x w/\lG R H W r
def Ck(R:RT):Prop:=∀(H h:Hp) (x:V) (w:Sk),al H h->R H x w->R h x w
theorem lG.mono{R:RT}(a:Ck R)(k:al H b):∀{W:List Sk} {v:List V},lG R H W v->lG R b W v
 | [],_,h=>h
 |_::_,_,z=>by obtain⟨x,r,e,c,d⟩:=z;exact #[x,r,e,a _ _ _ _ k c,lG.mono a k d]
theorem lG.app{R:RT}(a:lG R H b y):∀{W:List Sk} {v:List V},lG R H W v->lG R H (W++b) (v++y)
 | [],_,h=>by have e:_=[]:=h;rw[e];exact a
 |_::_,_,z=>by obtain⟨x,r,e,c,d⟩:=z;exact #[x,r++y,by rw[e];rfl,c,lG.app a d]
theorem lG.len{R:RT}:∀{W:List Sk} {v:List V},lG R H W v->v.length=W.length
 | [],_,h=>by have e:_=[]:=h;rw[e];rfl
 |_::_,_,z=>by obtain⟨x,r,e,b,a⟩:=z;rw[e];exact HL (·+1) (lG.len a)
def RW:RT:=λH x w=>∃q p u,x= .ref q/\H q=some (.tup [p,u])/\eB H w u []
theorem vG:Ck RW:=λ_ _ _ _ k #[q,p,u,e,h,H]=>#[q,p,u,e,k _ _ h,H.mono k]
inductive mf(n:Nat)(d:List V)(H:Hp)(Q:VK)(a:XK):Prop
 |mk(b:Addr)(c:List V)(w:Sk)(u:V)(_:d=[.ref b,u])(_:H b=some (.tup c))(_:c.length+n<=100)(_:eB H w u [])(_:w.ok false)(_:w.dep < n)(_:w.size<=1000)(_:∀(r:Addr) (xs:List V) (H':Hp),H r=none->H' r=some (.lst xs)->lG RW H' (w::w.flat) xs->ae H H'->Q (.ref r) H')
inductive iw(n:Nat)(g:List V)(H:Hp)(Q:VK)(b:XK):Prop
 |mk(d:Addr)(e:List V)(f:Str)(c:List Int)(s:Sk)(a:Int)(u:V)(_:g=[.ref d,u])(_:H d=some (.tup e))(_:e.length+n+1<=100)(_:eu H f c s a u)(_:s.ok true)(_:s.dep < n)(_:s.size<=1000)(_:∀(r:Addr) (xs:List V) (H':Hp),H r=none->H' r=some (.lst xs)->lG RW H' s.flat xs->ae H H'->Q (.ref r) H')
noncomputable def uA:List Sk->aJ->aJ
 | [],k=>k
 | .wr c i::r,k=>uA r (aY k (.inl c) (.int i))
 |_::r,k=>uA r k
theorem Zh:∀(a b:List Sk) (k:aJ),uA (a++b) k=uA b (uA a k)
 | [],_,_=>rfl
 |w::a,b,k=>by cases w<;>exact Zh a b _
inductive Fn(h j:Addr)(u:V)(s:Sk)(H:Hp)(i:Nat)(l:_L.St)(a:Hp):Prop
 |mk(f g:Option V)(k:List V)(b:l=[some (.ref h),some u,some (.ref j),f,g])(c:a j=some (.lst k))(d:lG RW a (nE (s.tops.take i)) k)(e:ae H a)
theorem yi:aj ["path","what","within"] z8z (aa wP):=bK
theorem rR{n:Nat}(F:aN K "whats_at" "whats_at" wP f Y)(cI:Cl P w K mg base (2*n+2) fI f0 ["path","chain"] (iw n) "whats_in"):ah P w K mg base ay (2*n+3) f Y z8z (mf (n+1)):=by
 refine F.ok yi ?_ λc0 A O s H vs Q E hr h=>?_
 ·rintro _ _ _ _ ⟨j,R,w,u,rfl,_⟩
  rfl
 obtain⟨j,R,w,u,rfl,hp,h0,B,k,U,hz,q⟩:=h
 refine#[_,(jd (jy 2 yi.nd (kB (j5 (jx (pv 1))) (cI.e hr.m (ja (pv 0) (ja (jx (pv 1)) jb))) (jF jb))) (jg (jo (ju zX (jF (ja (jh (ja (pv 0) (ja (pv 1) jb))) jb)) (pv 2))))),?_]
 have b0:=aE
 have fl:=zu k
 refine ai λF1 C=>?_
 suffices W:∀(l:Addr) (x:List V) (d:Hp),d l=some (.lst x)->lG RW d w.flat x->ae H d->F1 [some (.ref j),some u,some (.ref l)] d by
  clear C
  cases w with
  |nil |st=>exact k.elim
  |ask b |rd c i |wr c i=>obtain⟨p,rfl,v⟩:=B;exact(js v Z #[Z,_,Z,aS P6 #[iF,λl X=>W l [] _ jc Z (je X)]])
  |cl f is s a=>
   obtain⟨p,c,g,e,ss,rfl,v,h2,h3,h4,h5⟩:=B
   have U:s.dep+1 < n+1:=U
   exact(js v Z #[Z,_,Z,cn P6 #[_,Z,js v Z #[j,R,f,is,s,a,.ref c,Z,hp,P0,#[c,g,e,ss,Z,h2,h3,h4,h5],k,P0,hz,λl x d X D y S=>W l x d D y S]]])
 intro l x d D y S
 refine C _ _ ?_
 clear C
 have lx:=y.len
 refine#[_,Z,_,Z,bN,λt G=>#[iG,λL N=>#[_,Z,L,l,_,_,Z,Z,jc,ao (ao D G) N,by show 1+x.length<=_;omega,λr I=>?_]]]
 have J:ae d (af (af (af d t (.tup [.ref j,u])) L (.lst [.ref t])) r (.lst ([.ref t]++x))):=((je G).trans (je N)).trans (je I)
 have ht:af (af (af d t (.tup [.ref j,u])) L (.lst [.ref t])) r (.lst ([.ref t]++x)) t=some (.tup [.ref j,u]):=ao (ao jc N) I
 have M:H r=none:=by
  cases z:H r with
  |none=>rfl
  |some o=>have:=((je (o:=.lst [.ref t]) N) _ _ ((je (o:=.tup [.ref j,u]) G) _ _ (S _ _ z)));rw[I]at this;cases this
 exact q r _ _ M jc #[.ref t,x,Z,#[t,.ref j,u,Z,ht,B.mono (ae.tm (S.trans J))],y.mono vG (ae.tm J)] (S.trans J)
theorem nY:aj ["path","chain","told","number","step"] ["path","chain"] (aa wQ):=bK
theorem Az(F:aN K "whats_in" "whats_in" wQ f fd)(cA:Cl P w K mg base (2*n+1) fA f2 z8z (mf n) "whats_at")(O:mg "enumerate"=none):ah P w K mg base ay (2*n+2) f fd ["path","chain"] (iw n):=by
 refine F.ok nY ?_ λc0 A R s H vs Q E U h=>?_
 ·rintro _ _ _ _ ⟨V,ps,f,is,s,a,u,rfl,_⟩
  rfl
 obtain⟨V,ps,f,is,s,a,u,rfl,hp,h5,hc,d,hd,hz,q⟩:=h
 refine#[_,(jd (jy 2 nY.nd (jF jb)) (jd (kr He Z (se Z O (ja (jx (pv 1)) jb)) (zV (n:=2) Z (jB (jw (i:=3) nY.nd Z (Or.inl Z)) (jB (jw (i:=4) nY.nd Z (Or.inl Z)) kN))) (jg (jO (kn Gx IU IS Ji (pv 2) (ja (cA.e U.m (ja (ju jZ (pv 0) (jh (ja (pv 3) jb))) (ja (jx (pv 4)) jb))) jb))))) (jg (jo (pv 2))))),?_]
 have b0:=aE
 obtain⟨c,g,e,ss,rfl,h1,h2,h3,h4⟩:=hc
 have fl:=zu d
 have lt:=Kk d h4
 refine ai λF1 l=>#[iF,λT N=>l _ _ ?_]
 clear l
 have Y:ae H (af H T (.lst [])):=je N
 refine ai λF1 l=>eO λJ j=>(js (Y _ _ h1) Z #[e,Z,#[_,aw.of (Y _ _ h3)],j _ _ ?_])
 clear j
 refine Yt (K:=K) (xs:=ss) (Fn V T (.ref c) s H) #[none,none,[],Z,jc,Z,Y] (λi σ Hx _ h=>?_) ?_ (λσ Hx h=>l _ _ ?_)
 ·obtain⟨_,_,_,_,_,_,v⟩:=h
  exact aw.of (v _ _ h3)
 ·intro E hE i x y σ L hx np f0 Gq k h
  clear l
  obtain⟨o3,o4,xs,rfl,M,W,v⟩:=h
  have B:ae L (af L y (.tup [.int i,x])):=je np
  have e8:af L y (.tup [.int i,x]) y=some (.tup [.int i,x]):=jc
  refine k ?_
  clear k
  generalize af L y (.tup [.int i,x])=H8 at B e8 ⊢
  have S8:=v.trans B
  obtain⟨w,p,hh,n1,u,ht,o1,d0,s2,rfl,h0,hw⟩:=tL d (h4.mono (ae.tm S8)) hx
  refine#[y,_,Z,aw.of e8,Z,_,_,Z,_,_,Z,Z,?_]
  refine#[_,Z,.inl #[Z,_,aH.of (B _ _ M)],_,Z,_,Z,iG,λt nt=>#[V,t,_,_,Z,Z,ao (S8 _ _ hp) nt,jc,by show _+1<=_;omega,λr9 H9 e9 s9=>?_]]
  have S9:=(je (o:=.tup [.int i]) nt).trans s9
  refine(js (S9 _ _ h0) Z #[r9,_,w,u,Z,e9,by rw[Gi];show _+1+_<=_;omega,hw.mono (ae.tm S9),o1,P0,P0,λr X C nr U D s0=>?_])
  have S:=S9.trans s0
  have G:=S _ _ (B _ _ M)
  have lx:=W.len
  have l0:=D.len
  have bl:=X3 s.tops (i+1)
  have et:s.tops.take (i+1)=s.tops.take i++[w]:=by rw[HV,ht];rfl
  have eb:nE [w]=w::w.flat:=by show(w::w.flat)++[]=_;rw[LZ]
  rw[<- qh d,fl]at bl
  rw[et,JR,eb]at bl
  rw[Gi]at bl
  have I:al C (af C T (.lst (xs++X))):=λb ys e=>by rw[ji (jP e G (by intro z;cases z))];exact e
  refine#[T,r,_,_,Z,Z,G,U,P0,f0 _ _ #[_,_,xs++X,Z,jc,?_,λb o e=>?_]]
  ·rw[et,JR,eb]
   exact(D.mono vG I).app ((W.mono vG (ae.tm (B.trans S))).mono vG I)
  ·rw[ji (jk e N)]
   exact S _ _ (S8 _ _ e)
 ·obtain⟨o3,o4,xs,rfl,M,W,v⟩:=h
  rw[lt,Ho,<- qh d]at W
  exact#[_,Z,q T xs Hx N M W v]
theorem Ae:ah P w K mg base ay k f c ["path","chain"] (iw 0):=by
 have n:∀v H Q E,¬iw 0 v H Q E:=λv H Q E h=>by
  obtain⟨p,d,f,i,s,a,u,_,_,_,_,_,z,_⟩:=h
  omega
 exact#[λv H Q E h=>absurd h (n v H Q E),λA o s H b U v Q E _ _ _ _ h=>absurd h (n v H Q E)]
theorem DZ(F:aN K "whats_at" "whats_at" wP g a)(B:au K a z8z [])(M:mg "whats_at"=some (.ref g))(b:aN K "whats_in" "whats_in" wQ c f)(d:au K f ["path","chain"] [])(e:mg "whats_in"=some (.ref c))(m:mg "enumerate"=none):∀n,ah P w K mg base ay (2*n+2) c f ["path","chain"] (iw n)
 |0=>Ae
 |n+1=>by
  have h:=DZ F B M b d e m n
  have H:=rR F #[h,d,b.kp,e]
  exact Az b #[H,B,F.kp,M] m
theorem Xv(a:aJ)(k j:bh)(i z:Int):look (aY a k (.int i)) j z=if j=k then i else look a j z:=by
 unfold look
 rw[Kd]
 by_cases e:j=k
 ·rw[Gw e,Gw e]
 ·rw[GG e,GG e]
noncomputable def iD(C:aJ):List Sk->aJ->Bool
 | [],_=>true
 | .wr c i::r,k=>iD C r (aY k (.inl c) (.int i))
 | .rd c i::r,k=>decide (look k (.inl c) (look C (.inl c) 0)=i)&&iD C r k
 |_::r,k=>iD C r k
theorem QL:∀(a b:List Sk) (k:aJ),iD C (a++b) k=(iD C a k&&iD C b (uA a k))
 | [],_,_=>rfl
 |w::a,b,k=>by
  cases w with
  |rd c i=>show(decide _&&iD C (a++b) k)=(decide _&&iD C a k&&iD C b (uA a k));rw[QL a b k,Bool.and_assoc]
  |_=>exact QL a b _
end _K
namespace _K
open PySem PySem.Spec PyProof.Rows _L
variable {P:Program}{w:World}{K:Frag}{mg:Str->Option Value}{base:Heap}
noncomputable def y8:V->Bool
 | .int _=>true
 | .str _=>true
 |_=>false
noncomputable def _root_._L.Tr.In:Tr->Prop
 | .lf v=>y8 v=true
 | .tp l=>l.In
 | .nil=>True
 | .cons h t=>h.In/\t.In
noncomputable def _root_._L.Tr.items:Tr->List Tr
 | .cons h t=>h::t.items
 |_=>[]
theorem QM{H:Hp}:∀{t u:Tr} {x:V} {xs:List V},aM H t x xs->aM H u x xs->t.isL=u.isL->t.In->u.In->t=u
 | .lf v,.lf w,_,_,h,k,_,_,_=>by rw[<- h.1,<- k.1]
 | .lf v,.tp m,_,_,h,k,_,i,_=>by
  obtain⟨_,a,_,e,_⟩:=k
  have E:=h.1
  rw[e]at E
  rw[<- E]at i
  cases i
 | .tp l,.lf v,_,_,k,h,_,_,i=>by
  obtain⟨_,a,_,e,_⟩:=k
  have E:=h.1
  rw[e]at E
  rw[<- E]at i
  cases i
 | .tp l,.tp m,_,_,h,k,_,i,j=>by
  obtain⟨o,a,xs,e,p,q⟩:=h
  obtain⟨r,b,Y,c,d,f⟩:=k
  rw[e]at c
  cases c
  rw[p]at d
  cases d
  rw[QM q f (o.trans r.symm) i j]
 | .nil,.nil,_,_,_,_,_,_,_=>rfl
 | .nil,.cons _ _,_,_,h,k,_,_,_=>by
  obtain⟨_,_,_,_,e,_⟩:=k
  have h:_=[]:=h
  rw[e]at h
  cases h
 | .cons _ _,.nil,_,_,k,h,_,_,_=>by
  obtain⟨_,_,_,_,e,_⟩:=k
  have h:_=[]:=h
  rw[e]at h
  cases h
 | .cons h t,.cons G T,_,_,k,s,_,i,j=>by
  obtain⟨A,B,y,Y,e,d,f⟩:=k
  obtain⟨C,D,I,F,c,g,n⟩:=s
  rw[e]at c
  cases c
  rw[QM d g (A.trans C.symm) i.1 j.1,QM f n (B.trans D.symm) i.2 j.2]
 | .lf _,.nil,_,_,_,_,z,_,_=>nomatch z
 | .lf _,.cons _ _,_,_,_,_,z,_,_=>nomatch z
 | .tp _,.nil,_,_,_,_,z,_,_=>nomatch z
 | .tp _,.cons _ _,_,_,_,_,z,_,_=>nomatch z
 | .nil,.lf _,_,_,_,_,z,_,_=>nomatch z
 | .nil,.tp _,_,_,_,_,z,_,_=>nomatch z
 | .cons _ _,.lf _,_,_,_,_,z,_,_=>nomatch z
 | .cons _ _,.tp _,_,_,_,_,z,_,_=>nomatch z
theorem Kl:∀{l:Tr} {X:List V},l.isL=true->l.In->aM H l .non X->X.length=l.items.length/\∀(j:Nat) (x:V),X[j]?=some x->∃t,l.items[j]?=some t/\t.isL=false/\t.In/\t.dep<=l.dep/\aM H t x []
 | .nil,X,_,_,h=>by have h:X=[]:=h;rw[h];exact#[Z,λj x z=>by simp at z]
 | .cons a t,X,_,i,h=>by
  obtain⟨A,c,y,Y,e,k,d⟩:=h
  subst e
  obtain⟨L,f⟩:=Kl c i.2 d
  refine#[HL (·+1) L,λj x b=>?_]
  cases j with
  |zero=>cases b;exact#[a,Z,A,i.1,Mc _ _,k]
  |succ j=>
   obtain⟨u,g,m,n,o,p⟩:=f j x (by simpa using b)
   exact#[u,by simpa [_L.Tr.items] using g,m,n,Gr o (LK _ _),p]
 | .lf _,_,z,_,_=>nomatch z
 | .tp _,_,z,_,_=>nomatch z
theorem Xw:∀{l m:Tr} {x y:List V},l.isL=true->m.isL=true->aM H l .non x->aM H m .non y->(l=m↔l.items=m.items)
 | .nil,.nil,_,_,_,_,_,_=>#[λ_=>Z,λ_=>Z]
 | .nil,.cons _ _,_,_,_,_,_,_=>#[λz=>(nomatch z),λz=>(nomatch z)]
 | .cons _ _,.nil,_,_,_,_,_,_=>#[λz=>(nomatch z),λz=>(nomatch z)]
 | .cons a t,.cons b u,_,_,_,_,h,k=>by
  obtain⟨_,A,_,_,_,_,d⟩:=h
  obtain⟨_,B,_,_,_,_,c⟩:=k
  have i:=Xw A B d c
  refine#[λz=>by cases z;rfl,λz=>?_]
  have z:a::t.items=b::u.items:=z
  injection z with e f
  rw[e,i.mpr f]
 | .lf _,_,_,_,z,_,_,_=>nomatch z
 | .tp _,_,_,_,z,_,_,_=>nomatch z
 | .nil,.lf _,_,_,_,z,_,_=>nomatch z
 | .nil,.tp _,_,_,_,z,_,_=>nomatch z
 | .cons _ _,.lf _,_,_,_,z,_,_=>nomatch z
 | .cons _ _,.tp _,_,_,_,z,_,_=>nomatch z
open Classical in
noncomputable def oq(t u:Tr):Bool:=decide (t=u)
open Classical in
theorem qE(h:t=u):oq t u=true:=by unfold oq;exact G8 h
open Classical in
theorem qj(h:t≠u):oq t u=false:=by unfold oq;exact GH h
noncomputable def nq(l m:Tr)(j:Nat):Bool:=match l.items[j]?,m.items[j]? with
 |some t,some u=>oq t u
 |_,_=>true
theorem uh{l m:Tr}(a:l.isL=true)(b:m.isL=true)(h:aM H l .non x)(k:aM H m .non y)(d:n=l.items.length)(E:N=m.items.length):((List.range (min n N)).all (nq l m)&&n==N)=oq l m:=by
 by_cases e:l=m
 ·subst e
  rw[qE Z,d,E,Lq,OK,LC]
  intro j _
  unfold nq
  cases l.items[j]? with
  |none=>rfl
  |some t=>exact qE Z
 ·rw[qj e]
  have f:l.items≠m.items:=λz=>e ((Xw a b h k).mpr z)
  by_cases g:n=N
  ·have z:(List.range (min n N)).all (nq l m)=false:=by
    rw[N8]
    intro z
    rw[LC]at z
    refine f (Oc P0 λj i o=>?_)
    have:=z j (List.mem_range.mpr P0)
    unfold nq at this
    rw[Gc i,Gc o]at this
    exact Classical.byContradiction λc=>by
     have C:=qj c
     dsimp only at this
     rw[C]at this
     cases this
   rw[z]
   rfl
  ·rw[show(n==N)=false from beq_eq_false_iff_ne.mpr g,Mj]
section
open PySem.SeqAt
variable {X:Cx}
theorem CW{w:V}(H:y8 v=true)(h:y8 w=true)(R:aC v a)(r:aC w b):EqAt A s a b (oq (.lf v) (.lf w)):=by
 cases v with
 |int i=>
  obtain⟨T,rfl⟩:=R
  cases w with
  |int j=>
   obtain⟨t,rfl⟩:=r
   have z:=EqAt.int_int (A:=A) (s:=s) i T j t
   by_cases e:i=j
   ·subst e;rw[Lq]at z;rw[qE Z];exact z
   ·rw[beq_eq_false_iff_ne.mpr e]at z;rw[qj (λc=>e (by injection c with c;injection c))];exact z
  |str y=>
   obtain⟨t,rfl⟩:=r
   rw[qj (λc=>by injection c with c;cases c)]
   exact EqAt.int_str _ _ _ _
  |_=>cases h
 |str i=>
  obtain⟨T,rfl⟩:=R
  cases w with
  |str j=>
   obtain⟨t,rfl⟩:=r
   have z:=OV (A:=A) (s:=s) i T j t
   by_cases e:i=j
   ·subst e;rw[Lq]at z;rw[qE Z];exact z
   ·rw[beq_eq_false_iff_ne.mpr e]at z;rw[qj (λc=>e (by injection c with c;injection c))];exact z
  |int y=>
   obtain⟨t,rfl⟩:=r
   rw[qj (λc=>by injection c with c;cases c)]
   exact EqAt.str_int _ _ _ _
  |_=>cases h
 |_=>cases H
theorem Dv(I:ap X p σ H s)(n:Nat)(G:∀(t:Tr) {A:Around},t.dep<=n->A.units+n < cLine->t.In->t.isL=false->∀{u:Tr} {x y:V},u.In->u.isL=false->aM H t x []->aM H u y []->∀a b,aC x a->aC y b->EqAt A s a b (oq t u)){l m:Tr}(hn:l.dep<=n)(hu:A.units+n+1 < cLine)(J:l.In)(L:m.In)(d:l.isL=true)(f:m.isL=true)(M:H g=some (.tup i))(N:H B=some (.tup o))(T:aM H l .non i)(q:aM H m .non o):RcAt A s (.ref g) (.ref B) (oq (.tp l) (.tp m)):=by
 obtain⟨v,r,O,_⟩:=I.tuple (aw.of (K:=X.K) M)
 obtain⟨C,R,Q,_⟩:=I.tuple (aw.of (K:=X.K) N)
 obtain⟨S,U⟩:=Kl d J T
 obtain⟨W,Y⟩:=Kl f L q
 have z:=RcAt.tuples (A:=A) (e:=nq l m) (show s.heap.IsTuple g v.toArray from O) (show s.heap.IsTuple B C.toArray from Q) P0 (λj h1 h2=>?_)
 ·rw[uh d f T q (by rw[Gj,<- r.length,S]) (by rw[Gj,<- R.length,W])]at z
  have E:oq (.tp l) (.tp m)=oq l m:=by
   by_cases c:l=m
   ·rw[qE c,qE (by rw[c])]
   ·rw[qj c,qj (λk=>c (by injection k))]
  rw[E]
  exact z
 ·have la:=r.length
  have lb:=R.length
  have D:j < i.length:=by simp at h1;omega
  have h:j < o.length:=by simp at h2;omega
  obtain⟨u1,q1,r1⟩:=r.get (Gc D)
  obtain⟨u2,q2,r2⟩:=R.get (Gc h)
  have e1:v.toArray[j]=u1:=by
   obtain⟨_,e⟩:=List.getElem?_eq_some_iff.mp q1
   simpa using e
  have E:C.toArray[j]=u2:=by
   obtain⟨_,e⟩:=List.getElem?_eq_some_iff.mp q2
   simpa using e
  rw[e1,E]
  obtain⟨F,g1,g2,g3,g4,g5⟩:=U j _ (Gc D)
  obtain⟨u',k1,k2,k3,k4,k5⟩:=Y j _ (Gc h)
  have et:nq l m j=oq F u':=by unfold nq;rw[g1,k1]
  rw[et]
  exact G F (A:=A.in1) P0 (by show A.units+1+n < cLine;omega) g3 g2 k3 k2 g5 k5 _ _ r1 r2
theorem ui(I:ap X z Y H s):∀(n:Nat) (t:Tr) {A:Around},t.dep<=n->A.units+n < cLine->t.In->t.isL=false->∀{u:Tr} {x y:V},u.In->u.isL=false->aM H t x []->aM H u y []->∀a b,aC x a->aC y b->EqAt A s a b (oq t u):=by
 intro n
 induction n with
 |zero=>
  intro t A k J i L u x y d g j h a b R r
  cases t with
  |tp l=>exact absurd k (by show ¬l.dep+1<=0;omega)
  |nil |cons _ _=>cases L
  |lf v=>
   obtain⟨rfl,_⟩:=j
   cases u with
   |nil |cons _ _=>cases g
   |lf w=>
    obtain⟨rfl,_⟩:=h
    exact CW i d R r
   |tp m=>
    obtain⟨_,B,M,rfl,o,_⟩:=h
    cases r
    obtain⟨W,N,C,_⟩:=I.tuple (aw.of (K:=X.K) o)
    rw[qj (λc=>by cases c)]
    cases x<;>first |cases i |skip
    ·obtain⟨T,rfl⟩:=R
     exact EqAt.int_tuple _ _ C P0
    ·obtain⟨T,rfl⟩:=R
     exact EqAt.str_tuple _ _ C P0
 |succ n D=>
  intro t A k J i L u x y d g j h a b R r
  cases t with
  |nil |cons _ _=>cases L
  |lf v=>exact D (.lf v) (Gp _) P0 i L d g j h a b R r
  |tp l=>
   obtain⟨E,p,O,rfl,q,F⟩:=j
   cases R
   obtain⟨ia,Q,G,_⟩:=I.tuple (aw.of (K:=X.K) q)
   cases u with
   |nil |cons _ _=>cases g
   |lf w=>
    obtain⟨rfl,_⟩:=h
    rw[qj (λc=>by cases c)]
    cases y<;>first |cases d |skip
    ·obtain⟨T,rfl⟩:=r
     exact OB _ _ G P0
    ·obtain⟨T,rfl⟩:=r
     exact EqAt.tuple_str _ _ G P0
   |tp m=>
    have f:=id h
    obtain⟨S,B,M,rfl,o,U⟩:=h
    cases r
    by_cases e:p=B
    ·subst e
     rw[qE (QM (H:=H) (t:=.tp l) (u:=.tp m) (x:=.ref p) (xs:=[]) #[E,p,O,Z,q,F] f Z i d)]
     exact PY _
    ·exact OX e (Dv I n D (by have:l.dep+1<=n+1:=k;omega) P0 i d E S q o F U)
inductive Dp(d:Nat)(x y:V)(H:Hp)(Q:VK):Prop
 |mk(l m:Tr)(_:l.dep < d)(_:l.In)(_:m.In)(_:aM H (.tp l) x [])(_:aM H (.tp m) y [])(_:Q (.bl (oq (.tp l) (.tp m))) H)
theorem AC{d:Nat}(c:X.A.units+d+1 < cLine):eN X (compareOp .Eq) (Dp d):=by
 intro p s n H x y v u Q I r R h
 obtain⟨l,m,o,i,e,⟨f,a,z,rfl,g,t⟩,⟨j,b,B,rfl,k,T⟩,q⟩:=h
 cases r
 cases R
 exact Dv I d (ui I d) P0 c i e f j g k t T X.prog X.w _ _ #[.bl _,H,I,Z,q]
end
end _K
namespace _K
open PySem PySem.Spec PyProof.Rows _L
variable {P:Program}{w:World}{K:Frag}{mg:Str->Option Value}{base:Heap}
noncomputable abbrev A6:Stmt:=bL 27
noncomputable abbrev A7:Stmt:=bL 32
theorem iA{w:V}:dA (v::u::w::y) 2=some w:=jH (j:=2) Z
theorem FD{w:V}:dA (v::u::w::z::y) 3=some z:=jH (j:=3) Z
noncomputable def CA:Sk->Tr
 | .rd c _=>aG [ba "read",aF c]
 | .cl f I _ _=>aG [ba "call",ba f,aG (I.map aF)]
 | .wr c i=>aG [ba "write",aF c,aF i]
 | .ask b=>aG [ba "ask",aF b]
 |_=>.nil
theorem yJ{call:eW}{w:Sk}(h:dQ call C k L t e= .ok w i j):CA w=D8 k e:=by
 have b:=pq h
 cases e with
 |ask d T=>rw[Jf b]at h;cases h;rfl
 |st p l=>
  cases l with
  |gv d T |st x d T=>unfold dQ at h;rw[Gw b]at h;cases h
  |rd x d T=>rw[K6 b]at h;cases h;rfl
  |wr d u T U=>rw[K7 b]at h;cases h;rfl
  |cl x f q g=>
   rw[qD b]at h
   cases e:call f (g.map λc=>c.2.ev k) L (t+1) with
   |long |deep=>rw[e]at h;cases h
   |ok s a _L m=>rw[e]at h;cases h;show aG [_,_,aG ((g.map λc=>c.2.ev k).map aF)]=_;rw[ID];rfl
inductive lV(b:List V)(H:Hp)(Q:VK)(a:XK):Prop
 |mk(u:V)(w:Sk)(_:b=[u])(_:eB H w u [])(_:w.ok false)(_:∀(v:V) (H':Hp),aM H' (CA w) v []->ae H H'->Q v H')
inductive lX(j:List V)(H:Hp)(Q:VK)(b:XK):Prop
 |mk(f:Str)(d:List Int)(s:Sk)(a:Int)(c g e:Addr)(i:List V)(k:Nat)(_:j=[.ref c,.int (k:Int)])(_:H c=some (.tup [.str f,.ref g,.ref e,.int a]))(_:H e=some (.tup i))(_:(∃(p h:Addr) (n:Int) (hs:List Int) (u:V),i[k]?=some (.ref p)/\H p=some (.tup [.int n,.ref h,u])/\H h=some (.tup (hs.map V.int))/\∀(v:V) (H':Hp),aM H' (aG [ba "go",aF n,aG (hs.map aF)]) v []->ae H H'->Q v H')∨(k=i.length/\∀(v:V) (H':Hp),aM H' (aG [ba "give",aF a]) v []->ae H H'->Q v H'))
theorem Dy:aj ["what"] ["what"] (aa A6):=bK
theorem Am(F:aN K "deed_in" "deed_in" A6 f B):ah P w K mg base ay 1 f B ["what"] lV:=by
 refine F.ok Dy ?_ λC A o s H V Q E l h=>?_
 ·rintro _ _ _ _ ⟨u,w,rfl,_⟩
  rfl
 obtain⟨u,w,rfl,m,t,q⟩:=h
 refine#[_,(jd (jv (j5 (jx (pv 0))) (jg (jo (jG kE (pv 0) jU (jE jf)))) jp) (jd (jv (j5 (jx (pv 0))) (jg (jo (ju jZ (jh (ja jm jb)) (jG kE (jx (pv 0)) jU (jE jf))))) jp) (jg (jo (pv 0))))),?_]
 cases w with
 |nil |st=>exact t.elim
 |ask b=>
  obtain⟨p,rfl,d⟩:=m
  refine ai λk i=>(js d Z #[Z,_,Z,aS P6 (i _ _ ?_)])
  clear i
  refine ai λk i=>(js d Z #[Z,_,Z,aS P6 (i _ _ ?_)])
  exact#[_,Z,q _ _ (jC d (jl Z jQ (jl Z jT jA))) (ae.refl _)]
 |wr b D=>
  obtain⟨p,rfl,d⟩:=m
  refine ai λk i=>(js d Z #[Z,_,Z,aS P6 (i _ _ ?_)])
  clear i
  refine ai λk i=>(js d Z #[Z,_,Z,aS P6 (i _ _ ?_)])
  exact#[_,Z,q _ _ (jC d (jl Z jQ (jl Z jT (jl Z jT jA)))) (ae.refl _)]
 |rd b D=>
  obtain⟨p,rfl,d⟩:=m
  refine ai λk i=>(js d Z #[Z,_,Z,cn P6 #[_,Z,_,Z,p,_,Z,d,λr y l S=>q _ _ ?_ S]])
  have l:y r=some (.tup [.str "read",.int b]):=l
  exact jC l (jl Z jQ (jl Z jT jA))
 |cl f R s a=>
  obtain⟨p,c,g,e,T,rfl,d,G,I,U,W⟩:=m
  refine ai λk i=>(js d Z #[Z,_,Z,aS P6 (i _ _ ?_)])
  clear i
  refine ai λk i=>(js d Z #[Z,_,Z,cn P6 #[iG,λJ n=>(js (ao d n) iz #[_,Z,c,_,Z,ao G n,λL y v S=>#[J,L,_,_,Z,Z,S _ _ jc,v,gn,λM N j z=>q _ _ ?_ (((je n).trans S).trans z)]])]])
  have j:N M=some (.tup [.str "call",.str f,.ref g]):=j
  exact jC j (jl Z jQ (jl Z jQ (jl Z (qv (z _ _ (S _ _ (ao I n)))) jA)))
theorem DA:aj ["chain","number"] ["chain","number"] (aa A7):=bK
theorem An(F:aN K "goal_at" "goal_at" A7 f x)(M:mg "len"=none):ah P w K mg base ay 1 f x ["chain","number"] lX:=by
 refine F.ok DA ?_ λC A o s H V Q E U h=>?_
 ·rintro _ _ _ _ ⟨f,I,s,a,c,g,e,y,k,rfl,_⟩
  rfl
 obtain⟨f,I,s,a,c,g,e,y,k,rfl,d,l,q⟩:=h
 refine#[_,(jd (jv (jz qi (pv 1) (jN jK Z M HJ (ja (jx (pv 0)) jb)) (aD _)) (jg (jo (jh (ja jm (ja (jx (pv 0)) jb))))) jp) (jg (jo (ju jZ (jh (ja jm jb)) (jG kE (jr jM (jx (pv 0)) (pv 1) (λ_ _=>Z)) jU (jE jf)))))),?_]
 have B:=aE
 refine ai λX m=>#[_,Z,js d iA #[e,_,Z,.inr (aw.of l),Z,_,Z,?_]]
 rcases q with ⟨p,h,n,Y,u,r,D,G,q⟩ | ⟨J,q⟩
 ·have L:=(List.getElem?_eq_some_iff.mp r).1
  refine aS (GH λz=>?_) (m _ _ ?_)
  ·injection z with z
   omega
  clear m
  refine#[iG,λt N=>(js (ao d N) iA #[_,Z,e,_,_,_,Z,Z,aw.of (ao l N),jH r,_,Z,p,_,Z,ao D N,λO H1 i S=>#[t,O,_,_,Z,Z,S _ _ jc,i,gn,λR T b v=>q _ _ ?_ (((je N).trans S).trans v)]])]
  have b:T R=some (.tup [.str "go",.int n,.ref h]):=b
  exact jC b (jl Z jQ (jl Z jT (jl Z (qv (v _ _ (S _ _ (ao G N)))) jA)))
 ·subst J
  refine cn (G8 Z) (js d FD #[bN,λt N=>q _ _ (jC jc (jl Z jQ (jl Z jT jA))) (je N)])
theorem QW{call:eW}(h:dM call C p (m+1) (.go n H) L t= .ok d a g i):∃c w l T r,p.cs[n]?=some c/\dQ call C (aR c.nm H) L t c.e= .ok w l T/\d= .st (n:Int) H w r/\dM call C p m (oJ p c H w.wh) l T= .ok r a g i:=by
 unfold dM at h
 cases e:p.cs[n]? with
 |none=>rw[e]at h;cases h
 |some c=>
  rw[e]at h
  dsimp only at h
  cases E:dQ call C (aR c.nm H) L t c.e with
  |long |deep=>rw[E]at h;cases h
  |ok w l T=>
   rw[E]at h
   dsimp only at h
   cases f:dM call C p m (oJ p c H w.wh) l T with
   |long |deep=>rw[f]at h;cases h
   |ok r b _L j=>rw[f]at h;cases h;exact#[c,w,l,T,r,Z,E,Z,f]
theorem CO{call:eW}{p:dq}{w:Sk}(H:p.cs[n]?=some c)(b:dQ call C (aR c.nm h) L t c.e= .ok w l T)(d:dM call C p m (oJ p c h w.wh) l T= .ok r a f g):dM call C p (m+1) (.go n h) L t= .ok (.st (n:Int) h w r) a f g:=by
 unfold dM
 rw[H]
 dsimp only
 rw[b]
 dsimp only
 rw[d]
 rfl
def uL(C:aJ)(call:eW):Prop:=∀f i L t s a l T,call f i L t= .ok s a l T->iD C s.flat L=true/\l=uA s.flat L
def yt(C:aJ)(call c:eW):Prop:=∀f i L t s a l T,call f i L t= .ok s a l T->iD C s.flat L=true->c f i L t= .ok s a l T
theorem Zi{call:eW}{w:Sk}(H:uL C call)(h:dQ call C k L t e= .ok w g j):iD C (w::w.flat) L=true/\g=uA (w::w.flat) L:=by
 have b:=pq h
 cases e with
 |ask d T=>rw[Jf b]at h;cases h;exact#[Z,Z]
 |st p l=>
  cases l with
  |gv d T |st x d T=>unfold dQ at h;rw[Gw b]at h;cases h
  |rd x d T=>rw[K6 b]at h;cases h;exact#[by show(decide _&&true)=true;rw[G8 Z];rfl,Z]
  |wr d u T U=>rw[K7 b]at h;cases h;exact#[Z,Z]
  |cl x f q i=>
   rw[qD b]at h
   cases e:call f (i.map λc=>c.2.ev k) L (t+1) with
   |long |deep=>rw[e]at h;cases h
   |ok s a _L m=>rw[e]at h;cases h;have z:=H _ _ _ _ _ _ _ _ e;exact z
theorem vh{call:eW}{w:Sk}(H:yt i call C)(h:dQ call j k L t e= .ok w m n)(g:iD i (w::w.flat) L=true):dQ C i k L t e= .ok w m n:=by
 have b:=pq h
 cases e with
 |ask d T=>rw[Jf b]at h ⊢;exact h
 |st p l=>
  cases l with
  |gv d T |st x d T=>unfold dQ at h;rw[Gw b]at h;cases h
  |rd x d T=>
   rw[K6 b]at h ⊢
   cases h
   have g:(decide (look L (.inl (T.ev k)) (look i (.inl (T.ev k)) 0)=look L (.inl (T.ev k)) (look j (.inl (T.ev k)) 0))&&true)=true:=g
   rw[OK]at g
   rw[HK g]
  |wr d u T U=>rw[K7 b]at h ⊢;exact h
  |cl x f q o=>
   rw[qD b]at h ⊢
   cases e:call f (o.map λc=>c.2.ev k) L (t+1) with
   |long |deep=>rw[e]at h;cases h
   |ok s a _L r=>
    rw[e]at h
    cases h
    rw[H _ _ _ _ _ _ _ _ e g]
    rfl
theorem Zj{call:eW}(H:uL C call):∀(m:Nat) {g:Gd} {L l:aJ} {t T:Nat} {R:Sk} {a:Int},dM call C p m g L t= .ok R a l T->iD C R.flat L=true/\l=uA R.flat L
 |0,_,_,_,_,_,_,_,h=>by cases h
 |m+1,.give b,L,l,t,T,R,a,h=>by cases h;exact#[Z,Z]
 |m+1,.go n j,L,l,t,T,R,a,h=>by
  obtain⟨k,w,o,q,r,_,c,rfl,d⟩:=QW h
  obtain⟨B,e⟩:=Zi H c
  obtain⟨f,i⟩:=Zj H m d
  show iD C ((w::w.flat)++r.flat) L=true/\l=uA ((w::w.flat)++r.flat) L
  rw[QL,Zh,B,<- e]
  exact#[f,i]
theorem Zk{call:eW}(H:uL f call)(d:yt C call c):∀(m:Nat) {g:Gd} {L l:aJ} {t T:Nat} {R:Sk} {a:Int},dM call f p m g L t= .ok R a l T->iD C R.flat L=true->dM c C p m g L t= .ok R a l T
 |0,_,_,_,_,_,_,_,h,_=>by cases h
 |m+1,.give b,L,l,t,T,R,a,h,_=>h
 |m+1,.go n o,L,l,t,T,R,a,h,k=>by
  obtain⟨q,w,s,u,r,i,e,rfl,j⟩:=QW h
  obtain⟨v,B⟩:=Zi H e
  have k:iD C ((w::w.flat)++r.flat) L=true:=k
  rw[QL,<- B,Hy]at k
  exact CO i (vh d e k.1) (Zk H d m j k.2)
theorem Km:∀j,uL C (a8 p C j)
 |0=>λ_ _ _ _ _ _ _ _ h=>by cases h
 |j+1=>λf i L t s a l T h=>by
  have h:(match dC p f with |none=>OC.long |some b=>dM (a8 p C j) C b 62 (dU (lN b) (bZ b.way.sets (aR b.ps i)) b.way.goal) L t)= .ok s a l T:=h
  cases e:dC p f with
  |none=>rw[e]at h;cases h
  |some b=>rw[e]at h;exact Zj (Km j) 62 h
theorem Xx:∀j,yt C (a8 p c j) (a8 p C j)
 |0=>λ_ _ _ _ _ _ _ _ h _=>by cases h
 |j+1=>λf i L t s a l T h k=>by
  have h:(match dC p f with |none=>OC.long |some b=>dM (a8 p c j) c b 62 (dU (lN b) (bZ b.way.sets (aR b.ps i)) b.way.goal) L t)= .ok s a l T:=h
  show(match dC p f with |none=>OC.long |some b=>dM (a8 p C j) C b 62 (dU (lN b) (bZ b.way.sets (aR b.ps i)) b.way.goal) L t)= .ok s a l T
  cases e:dC p f with
  |none=>rw[e]at h;cases h
  |some b=>rw[e]at h;exact Zk (Km j) (Xx j) 62 h k
noncomputable abbrev mP:Stmt:=bL 75
noncomputable abbrev mX:Stmt:=bL 81
inductive gV(b:List V)(H:Hp)(Q:VK)(a:XK):Prop
 |mk(p:Addr)(_:b=[.ref p])(_:aq H p)(_:∀(l:Addr) (C:aJ) (H':Hp),H l=none->H' l=some (.dK C)->GT C->C.length<=13->aq H' p->aB p H H'->Q (.ref l) H')
inductive CL(p l:Addr)(H:Hp)(i:Nat)(k:_L.St)(a:Hp):Prop
 |mk(h j:Option V)(C:aJ)(b:k=[some (.ref p),some (.ref l),h,j])(c:a l=some (.dK C))(d:GT C)(e:C.length<=i)(f:aq a p)(g:aB p H a)
theorem Af:NX (.lst x):=λa z=>by cases z
theorem Ag:NX (.tup x):=λa z=>by cases z
theorem Kp.tm(k:Kp H h):al H h:=λb x e=>k b _ Ag e
theorem Kp.seq{K:Frag}(e:Kp H b)(h:aH K H a x):aH K b a x:=by
 rcases h with (h | ⟨o,h⟩) |h
 ·exact .inl (.inl (e _ _ Af h))
 ·exact .inl (.inr #[o,e _ _ (by intro c z;cases z) h])
 ·exact .inr h
theorem AM{H:Hp}{D:List Df}{n:List Nat}(h:lI H D n){i:Nat}{d:Df}{p:List Str}(a:D[i]?=some d)(c:H d.pa=some (.tup (p.map V.str))):n[i]?=some p.length:=by
 have f:i < D.length:=(List.getElem?_eq_some_iff.mp a).1
 have b:n[i]?=some (n[i]'(by rw[<- h.1];exact f)):=Gc _
 obtain⟨g,e,l,_⟩:=h.2 i d _ a b
 rw[c]at e
 injection e with e
 injection e with e
 have:=HL List.length e
 rw[Gg,Gg]at this
 rw[b,<- l,this]
theorem C4:NX (.dK x):=λa z=>by cases z
structure BS(H:Hp)(nA pA ag cA:Addr)(i:Nat)(Cs:aJ)(d:Df)(ds:List Df)(ns:List Nat)(xs:List V)(pds:List dq)(is:List Int):Prop where
 ps:Ps H nA pA ds ns xs pds
 xl:xs.length<=1000
 hd:ds[i]?=some d
 hn:ns[i]?=some is.length
 ag:H ag=some (.tup (is.map V.int))
 hi:∀z∈is,eK z
 il:is.length<=100
 ce:H cA=some (.dK Cs)
 gc:GT Cs
theorem BS.kp(h:BS H n a A c i C d D N x p I)(k:Kp H b):BS b n a A c i C d D N x p I:=#[h.ps.mono k.tm,h.xl,h.hd,h.hn,k.tm _ _ h.ag,h.hi,h.il,k _ _ C4 h.ce,h.gc]
inductive ls(l:Addr)(o:List V)(H:Hp)(Q:VK)(b:XK):Prop
 |mk(n g h:Addr)(i:Nat)(f:aJ)(d:Df)(j:List Df)(m:List Nat)(p:List V)(e:List dq)(k:List Int)(_:o=[.ref n,.str d.f,.ref g,.ref h])(_:BS H l n g h i f d j m p e k)(_:∀(c:Addr) (sk:Sk) (a:Int) (L':aJ) (H':Hp),a8 e f 16 d.f k [] 0= .ok sk a L' sk.size->eu H' d.f k sk a (.ref c)->sk.ok true->sk.dep<=15->sk.size<=60->Kp H H'->Q (.ref c) H')(_:(∀sk a L' t',a8 e f 16 d.f k [] 0≠ .ok sk a L' t')->∀H',Kp H H'->Q .non H')
inductive lY(K:Frag)(d:List V)(H:Hp)(Q:VK)(b:XK):Prop
 |mk(a:Addr)(c:List Int)(_:d=[.ref a])(_:aH K H a (c.map V.int))(_:c.length<=63)(_:∀H',Q (.bl true) H')
theorem fg:aj ["_law_box_here","_law_cells_here","_law_k","_law_cell"] z2z (aa mP):=bK
theorem rG(F:aN K "_law_cells" "_law_cells" mP f fd)(r:Cl P w K mg base 1 fT f0 z0z aZ "_law_take")(cU:Cl P w K mg base 2 fU f2 z2z gJ "_law_number")(mr:mg "range"=none):ah P w K mg base ay 3 f fd z2z gV:=by
 refine F.ok fg ?_ λc0 A O s H vs Q E g h=>?_
 ·rintro _ _ _ _ ⟨p,rfl,_⟩
  rfl
 obtain⟨p,rfl,B,q⟩:=h
 refine#[_,(jd (jy 1 fg.nd Ke) (jd (kr He Z (km Z mr (ja (r.e g.m (ja (pv 0) (ja jf jb))) jb)) (jw (i:=2) fg.nd Z (Or.inl Z)) (jd (jy 3 fg.nd (r.e g.m (ja (pv 0) (ja jf jb)))) (jd (jv (za (r.e g.m (ja (pv 0) (ja jf jb)))) (jg (jy 3 fg.nd (ju kP (ju kP (ju J4 jf jf) jf) (r.e g.m (ja (pv 0) (ja jf jb)))))) jp) (jg (zK (zc g) (pv 1) (pv 3) (cU.e g.m (ja (pv 0) jb)) Z))))) (jg (jo (pv 1))))),?_]
 have b0:=aE
 have t0:=ug
 refine ai λt a=>λl N=>a _ _ ?_
 clear a
 have S:ae H (af H l (.dK [])):=je N
 have I:af H l (.dK []) l=some (.dK []):=jc
 generalize af H l (.dK [])=H1 at S I
 have L:l≠p:=B.ne N
 have B1:=B.same S
 refine ai λt a=>eO λJ j=>#[_,Z,p,14,Z,B1,PZ,PZ,λd H2 d0 d1 B2 M=>#[_,Z,P0,P0,j _ _ ?_]]
 clear j
 refine kJ (lo:=0) (CL p l H) #[none,none,[],Z,by rw[M l L];exact I,_K.GT.nil,Gh _,B2,(aB.of_same S).trans (aB.of_eq M)] ?_ (λσ H' h=>a _ _ ?_)
 ·clear a
  intro E0 _ i σ H3 hi fE Gq o h
  obtain⟨o2,o3,C,rfl,x,G,lC,y,D⟩:=h
  refine o ?_
  clear o
  show eV (dO _ _) _ E0 _ _
  refine ai λt a=>#[_,Z,p,14,Z,y,PZ,PZ,λc4 H4 d2 d3 B4 R=>a _ _ ?_]
  clear a
  refine ai λt a=>?_
  have c:∀(u:Int) (v:Hp),aq v p->(∀b,b≠p->v b=H3 b)->t [some (.ref p),some (.ref l),some (.int (0+(i:Int))),some (.int u)] v:=λu v BH T=>a _ _ (by
   refine#[_,Z,p,Z,BH,λm H7 m0 m1 B7 U=>?_]
   have h7:H7 l=some (.dK C):=by rw[U l L,T l L];exact x
   have pl:=wz C (.inl u) (.int m)
   exact#[_,Z,_,Z,l,_,Z,iP.k (k:=.inl u) h7 P0,fE _ _ #[_,_,_,Z,jc,G.put _ #[m0,m1],P0,B7.eq (ji (G7 L)),(D.trans ((aB.of_eq T).trans (aB.of_eq U))).upd_own N]])
  refine uF λG1 yT yF=>#[_,Z,p,8,Z,B4,PZ,PZ,λd5 H5 d4 d7 W X=>#[Z,_,Z,?_]]
  by_cases Y:d5=0
  ·rw[Y,G8 (Z:V.int 0=V.int 0)]
   refine yT _ #[_,_,Z,Z,#[PZ,PZ,PZ],_,_,Z,Z,_,Z,p,4,Z,W,PZ,PZ,λd6 H6 d8 d' B6 e6=>#[_,_,Z,Z,c _ H6 B6 λb n=>(e6 b n).trans ((X b n).trans (R b n))]]
  ·rw[GH (λz=>Y (by injection z))]
   exact yF _ (c _ H5 W λb n=>(X b n).trans (R b n))
 ·obtain⟨o2,o3,C,rfl,x,G,lC,y,D⟩:=h
  exact#[_,Z,q l C H' N x G P0 y D]
noncomputable abbrev sJ:Stmt:=bL 34
noncomputable abbrev Bh:Stmt:=bL 40
noncomputable abbrev wK:Stmt:=bL 9
theorem CP{A:Around}{k:Nat}(h:bH k A):A.units+10+1 < cLine:=by have:=h.un;omega
inductive ii(f:List V)(H:Hp)(Q:VK)(a:XK):Prop
 |mk(e p h:Addr)(d:List V)(k:Nat)(n:Int)(c:List Int)(u b:V)(_:f=[.ref e,.int (k:Int),b])(_:H e=some (.tup d))(_:d.length<=1000)(_:d[k]?=some (.ref p))(_:H p=some (.tup [.int n,.ref h,u]))(_:H h=some (.tup (c.map V.int)))(_:aM H (aG [aF n,aG (c.map aF)]) b [])(_:∀H',ae H H'->Q (.int (k:Int)) H')
theorem qN:∀i:List Int,(aI (i.map aF)).In
 | []=>trivial
 |_::i=>#[Z,qN i]
theorem pf(n:Int)(h:List Int):(aI [aF n,aG (h.map aF)]).In:=#[Z,qN h,trivial]
theorem u7(n:Int)(H:List Int):(aI [aF n,aG (H.map aF)]).dep < 10:=by
 have h:=qc H
 show max 0 (max ((aI (H.map aF)).dep+1) 0) < 10
 omega
theorem sY:aj ["steps","mark","cut","at"] ["steps","mark","cut"] (aa sJ):=bK
theorem vW{f:Addr}{r:FuncData}(F:aN K "like_from" "like_from" sJ f r)(M:mg "len"=none)(z:mg "range"=none):ah P w K mg base ay 1 f r ["steps","mark","cut"] ii:=by
 refine F.ok sY ?_ λC A o s H X Q E B h=>?_
 ·rintro _ _ _ _ ⟨e,p,h,D,k,n,b,u,c,rfl,_⟩
  rfl
 obtain⟨e,p,h,D,k,n,b,u,c,rfl,t,g,v,I,L,N,q⟩:=h
 refine#[_,(jd (kr PassesOwn.never Z (Zq Z z (ja (pv 1) (ja (jN jK Z M PySem.boot_len (ja (pv 0) jb)) jb))) (jw (i:=3) sY.nd Z (Or.inl Z)) (jg (jv (jz (AC (d:=10) (CP B)) (jG kE (jr jM (pv 0) (pv 3) (λ_ _=>Z)) jU (jE jf)) (pv 2) (aD _)) (jg (jo (pv 3))) jp))) (jg (jo (@zH _ _ _)))),?_]
 have R:=aE
 have T:=(List.getElem?_eq_some_iff.mp v).1
 refine ai λY f1=>eO λJ j=>#[_,Z,_,Z,e,_,Z,.inr (aw.of t),_,_,Z,#[P0,P0,P0,P0],j _ _ ?_]
 clear j
 refine kJ (λi l x=>(∃O,l=[some (.ref e),some (.int (k:Int)),some c,O])/\x=H/\i=0) #[#[_,Z],Z,Z] ?_ (λl x h=>?_)
 ·intro y U i l H2 hi fE G a h
  obtain⟨⟨O,rfl⟩,rfl,rfl⟩:=h
  refine a ?_
  clear a
  have V:(k:Int)+((0:Nat):Int)=(k:Int):=by omega
  rw[V]
  show gD _ _ _ y _ _
  refine uF λG1 W kF=>#[_,Z,_,Z,e,_,_,_,Z,Z,aw.of t,jH v,_,Z,p,_,Z,I,λq2 H1 m S=>#[_,Z,_,_,u7 n b,pf n b,pf n b,jC m (jl Z jT (jl Z (qv (S _ _ L)) jA)),N.mono (ae.tm S),_,Z,?_]]
  rw[qE Z]
  refine W _ ?_
  show gE _ y _ _
  unfold gE
  rw[U]
  exact#[_,Z,q _ S]
 ·obtain⟨_,_,hz⟩:=h
  omega
theorem DE:aj ["steps","at"] ["steps","at"] (aa Bh):=bK
noncomputable def Sk.isCl:Sk->Bool
 | .cl _ _ _ _=>true
 |_=>false
inductive me(g:List V)(H:Hp)(Q:VK)(b:XK):Prop
 |mk(e p h:Addr)(d:List V)(k:Nat)(n:Int)(u:V)(w:Sk)(_:g=[.ref e,.int (k:Int)])(_:H e=some (.tup d))(_:d[k]?=some (.ref p))(_:H p=some (.tup [.int n,.ref h,u]))(_:eB H w u [])(_:w.ok false)(_:∀f is s a c,w= .cl f is s a->eu H f is s a c->Q c H)(_:w.isCl=false->Q .non H)
theorem Ax{f:Addr}{r:FuncData}(F:aN K "chain_taken" "chain_taken" Bh f r):ah P w K mg base ay 1 f r ["steps","at"] me:=by
 refine F.ok DE ?_ λC A o s H V Q E M h=>?_
 ·rintro _ _ _ _ ⟨e,p,h,S,k,n,u,w,rfl,_⟩
  rfl
 obtain⟨e,p,h,S,k,n,u,w,rfl,d,i,j,v,l,q,N⟩:=h
 refine#[_,(jd (jv (PW.pt (Jm (QA (@AO _ _ _ _ _ (pv 1))) (q9 (jz rW (jx (jr jM (jr jM (pv 0) (pv 1) (λ_ _=>Z)) jf (λ_ _=>Z))) jm (aD _))))) (jg (jo (@zH _ _ _))) jp) (jg (jo (jx (jr jM (jr jM (pv 0) (pv 1) (λ_ _=>Z)) jf (λ_ _=>Z)))))),?_]
 have B:=aE
 cases w with
 |nil |st _ _ _ _=>exact l.elim
 |ask _ |rd _ _ |wr _ _=>
  obtain⟨b,rfl,G⟩:=v
  refine ai λx m=>#[_,Z,_,Z,aS (by rw[decide_eq_false (by intro z;cases z)]) #[_,Z,_,Z,e,_,_,_,Z,Z,aw.of d,jH i,p,_,_,_,Z,Z,aw.of j,iA,b,_,_,_,Z,Z,aw.of G,eG,Z,_,Z,cn P6 (N Z)]]
 |cl f I s a=>
  obtain⟨b,c,g,y,Y,rfl,G,D,g3,J,L⟩:=v
  refine ai λx m=>#[_,Z,_,Z,aS (by rw[decide_eq_false (by intro z;cases z)]) #[_,Z,_,Z,e,_,_,_,Z,Z,aw.of d,jH i,p,_,_,_,Z,Z,aw.of j,iA,b,_,_,_,Z,Z,aw.of G,eG,Z,_,Z,aS P6 (m _ _ ?_)]]
  clear m
  exact#[_,Z,_,Z,e,_,_,_,Z,Z,aw.of d,jH i,p,_,_,_,Z,Z,aw.of j,iA,b,_,_,_,Z,Z,aw.of G,iz,q f I s a _ Z #[c,g,y,Y,Z,D,g3,J,L]]
theorem DC:aj z8z z8z (aa wK):=bK
noncomputable def Z7:Scope:=#[.function,[(".0",.local),("one",.local),("done",.local)],false,false,[]]
theorem rn:(["one","done"]:List Str).Nodup:=by decide+kernel
theorem yE:bG z8z (aa wK) Z7 ["one","done"] 2 []:=oY
inductive ma(d:List V)(H:Hp)(Q:VK)(a:XK):Prop
 |mk(b:Addr)(c:List V)(w:Sk)(u:V)(_:d=[.ref b,u])(_:H b=some (.tup c))(_:c.length<=99)(_:eB H w u [])(_:w.ok false)(_:w.isCl=false)(_:∀(r:Addr) (x:V) (H':Hp),H r=none->H' r=some (.lst [x])->ae H H'->Q (.ref r) H')
theorem vo:∀{w:Sk},w.ok false->w.isCl=false->w.flat=[]/\w.dep=0/\w.size=0
 | .ask _,_,_=>#[Z,Z,Z]
 | .rd _ _,_,_=>#[Z,Z,Z]
 | .wr _ _,_,_=>#[Z,Z,Z]
 | .cl _ _ _ _,_,h=>nomatch h
 | .nil,h,_=>h.elim
 | .st _ _ _ _,h,_=>h.elim
theorem As{f:Addr}{k:FuncData}{D:Addr}{d:FuncData}(F:aN K "paths_at" "paths_at" wK f k)(G:Cl P w K mg base 3 D d z8z (mf 1) "whats_at"):ah P w K mg base ay 4 f k z8z ma:=by
 refine F.ok DC ?_ λI A O s H vs Q E J h=>?_
 ·rintro _ _ _ _ ⟨t,v,w,u,rfl,_⟩
  rfl
 obtain⟨t,v,w,u,rfl,g,L,M,b,j,q⟩:=h
 refine#[_,(jg (jo (@zd _ _ _ _ _ _ _ (["one","done"]) (2) ([]) _ _ _ _ Z (qH (G.e J.m (ja (pv 0) (ja (pv 1) jb)))) yE (λ_ _ _ _ _=>Y1 (K:=K) (n:=2) Z Z (jB (jw (i:=0) rn Z (Or.inl Z)) (jB (jw (i:=1) rn Z (Or.inl Z)) kN)) Z Z) (λ_ _ _ _ _=>(@zA _)) (λ_ _ _ _ _=>(pv 0)) (by intro _;rfl)))),?_]
 have R:=aE
 obtain⟨T,e2,e3⟩:=vo b j
 refine#[_,Z,_,Z,t,v,w,u,Z,g,P0,M,b,P0,P0,λr xs H' nr c B S=>?_]
 rw[T]at B
 obtain⟨x,Y,rfl,⟨U,p,V,rfl,W,g2⟩,a⟩:=B
 have a:Y=[]:=a
 subst a
 refine#[r,Z,#[_,aH.of c],XL (λ_=>p) (by show 1≤PySem.sizeLine;decide) (aH.of c) (λi x C=>?_) λl N=>q l p _ ?_ jc (S.trans (je N))]
 ·cases i with
  |zero=>cases C;exact#[U,p,V,Z,aw.of W,λQ X=>#[_,Z,X]]
  |succ i=>simp at C
 ·cases z:H l with
  |none=>rfl
  |some o=>rw[S _ _ z]at N;cases N
noncomputable abbrev sy:Stmt:=bE (bL 41) 0
noncomputable abbrev wD:Stmt:=bE (bL 41) 1
noncomputable abbrev wE:Stmt:=bE (bL 41) 2
noncomputable def cV(a:Addr):List (Str×V):=[("anew",.ref a)]
theorem uX(a:Addr):Tl (cV a):=#[Nat.le_of_ble_eq_true Z,Z,Z,Z,Z]
inductive le(C:Addr)(e:List V)(H:Hp)(Q:VK)(a:XK):Prop
 |mk(r c d b:Addr)(m:Int)(_:e=[.ref r,.ref d,.ref b,.int m])(_:H r=some (.ins C c []))(_:∀lA aA,H lA=none->H aA=none->lA≠aA->Q .non (af (af (af H lA (.dK [])) aA (.lst [])) r (.ins C c (cy (cV aA) b lA d m 0))))
theorem Bi:aj z6z z6z (aa sy):=bK
theorem vQ{f:Addr}{v:FuncData}{C R x:Addr}{c:FuncData}(F:aN K "__init__" "AgainRun.__init__" sy f v)(D:RK K C)(G:aV K C "anew")(I:ah P w K mg base ay 2 x c z6z (gw C))(J:au K c z6z [])(M:mg "BookRun"=some (.ref R))(L:oM K R "__init__" x):ah P w K mg base ay 3 f v z6z (le C):=by
 refine F.ok Bi ?_ λO A o s H V Q E S h=>?_
 ·rintro _ _ _ _ ⟨r,d,p,g,m,rfl,_⟩
  rfl
 obtain⟨r,d,p,g,m,rfl,i,q⟩:=h
 refine#[_,(jd (jO (@YV _ _ _ _ _ _ _ _ _ _ _ _ _ _ _ _ _ _ _ _ Z M L I S.m J .nil a6 (ja (pv 0) (ja (pv 1) (ja (pv 2) (ja (pv 3) jb)))) PZ P7 P7 P7)) (jg (@zW _ _ _ _ _ _ _ _ (pv 0) (jF jb) Z))),?_]
 refine ai λW B=>#[_,Z,_,Z,_,Z,_,Z,r,d,p,g,m,Z,i,λl N=>B _ _ ?_]
 clear B
 have T:l≠r:=(jk i N).symm
 refine#[iF,λa n=>#[_,Z,r,C,d,_,Z,ao jc n,D.cl,G,(by show 5 < 1000;decide),?_]]
 have t:a≠r:=λz=>by rw[z,jc]at n;cases n
 rw[ji t]at n
 have j:l≠a:=λz=>by rw[<- z,jc]at n;cases n
 rw[ji j.symm]at n
 have e:af (af (af (af H l (.dK [])) r (.ins C d (cy [] g l p m 0))) a (.lst [])) r (.ins C d (cy (cV a) g l p m 0))=af (af (af H l (.dK [])) a (.lst [])) r (.ins C d (cy (cV a) g l p m 0)):=by
  funext b
  by_cases k:b=r
  ·rw[k,jc,jc]
  ·rw[ji k,ji k]
   by_cases u:b=a
   ·rw[u,jc,jc]
   ·rw[ji u,ji k,ji u]
 exact e▸q l a N n j
def oj(s:Sp):Sp:=λv H Q _=>s v H Q λ_ _ _=>False
theorem Kn{P:Program}{w:World}{K:Frag}{mg:Str->Option Value}{base:Heap}{k:Nat}{f:Addr}{b:FuncData}{p:List Str}{S:Sp}(F:ah P w K mg base (dP P w) k f b p S):ah P w K mg base ay k f b p (oj S):=
 #[λv H Q E h=>F.len v H Q _ h,λA o s H a u v Q E c d g i j=>codeAny_mono (F.run A o s H a u v Q _ c d g i j) λr m h=>by
  cases r with
  |error e=>obtain⟨_,_,_,_,_,_,_,_,_,_,_,_,_,h⟩:=h;exact h.elim
  |ok l=>cases l<;>exact h]
def Ei(call:eW):Prop:=∀f i L t s a l T,call f i L t= .ok s a l T->T=t+s.size/\l.length<=L.length+s.size
theorem pw{call:eW}{C k L d:aJ}{t i:Nat}{e:DD}{w:Sk}(j:Ei call)(h:dQ call C k L t e= .ok w d i):i=t+1+w.size/\d.length<=L.length+1+w.size/\t < 60:=by
 by_cases H:t < 60
 ·cases e with
  |ask p T=>rw[Jf H]at h;cases h;exact#[Z,Nat.le_add_right _ _,H]
  |st p l=>
   cases l with
   |rd x a T=>rw[K6 H]at h;cases h;exact#[Z,Nat.le_add_right _ _,H]
   |wr a b T U=>rw[K7 H]at h;cases h;exact#[Z,kO,H]
   |cl x f q m=>
    rw[qD H]at h
    cases g:call f (m.map λc=>c.2.ev k) L (t+1) with
    |ok s a n o=>
     rw[g]at h
     cases h
     obtain⟨E,r⟩:=j _ _ _ _ _ _ _ _ g
     refine#[E,?_,H]
     show d.length<=L.length+1+s.size
     omega
    |long |deep=>rw[g]at h;cases h
   |st x a T |gv a T=>unfold dQ at h;rw[if_pos H]at h;cases h
 ·rw[JO H]at h;cases h
theorem pT{call:eW}{C:aJ}{p:dq}(H:Ei call):∀(m:Nat) {g:Gd} {L l:aJ} {t T:Nat} {R:Sk} {a:Int},dM call C p m g L t= .ok R a l T->T=t+R.size/\l.length<=L.length+R.size
 |0,_,_,_,_,_,_,_,h=>by cases h
 |m+1,.give b,_,_,_,_,_,_,h=>by cases h;exact#[Z,Nat.le_refl _]
 |m+1,.go n f,L,l,t,T,R,a,h=>by
  obtain⟨i,w,j,k,r,_,c,e,d⟩:=QW h
  subst e
  obtain⟨E,o,_⟩:=pw H c
  obtain⟨q,s⟩:=pT H m d
  refine#[?_,?_]
  ·show T=t+(w.size+r.size+1)
   omega
  ·show l.length<=L.length+(w.size+r.size+1)
   omega
theorem Zl{p:List dq}{C:aJ}:∀j,Ei (a8 p C j)
 |0=>λf i L t s a l T h=>by cases h
 |j+1=>λf i L t s a l T h=>by
  have h:(match dC p f with |none=>OC.long |some b=>dM (a8 p C j) C b 62 (dU (lN b) (bZ b.way.sets (aR b.ps i)) b.way.goal) L t)= .ok s a l T:=h
  cases H:dC p f with
  |none=>rw[H]at h;cases h
  |some b=>rw[H]at h;exact pT (Zl j) 62 h
theorem Z8{call:eW}{C k L m:aJ}{t n:Nat}{e:DD}{f:Str}{i:List Int}{s:Sk}{a:Int}(h:dQ call C k L t e= .ok (.cl f i s a) m n):∃p x q d,e= .st p (.cl x f q d)/\i=(d.map λc=>c.2.ev k)/\call f i L (t+1)= .ok s a m n:=by
 by_cases H:t < 60
 ·cases e with
  |ask p T=>rw[Jf H]at h;cases h
  |st p l=>
   cases l with
   |rd x a T=>rw[K6 H]at h;cases h
   |wr a b T U=>rw[K7 H]at h;cases h
   |cl x g q d=>
    rw[qD H]at h
    cases j:call g (d.map λc=>c.2.ev k) L (t+1) with
    |ok S A o r=>
     rw[j]at h
     cases h
     exact#[p,x,q,d,Z,Z,j]
    |long |deep=>rw[j]at h;cases h
   |st x a T |gv a T=>unfold dQ at h;rw[if_pos H]at h;cases h
 ·rw[JO H]at h;cases h
theorem eu.mono'{H b:Hp}{f:Str}{i:List Int}{s:Sk}{a:Int}{u:V}(h:eu H f i s a u)(k:al H b):eu b f i s a u:=let #[c,g,e,S,E,d,j,l,m]:=h;#[c,g,e,S,E,k _ _ d,k _ _ j,k _ _ l,m.mono k]
inductive Br(C u:Addr)(j:Nat)(D:List V)(H:Hp)(Q:VK)(d:XK):Prop
 |mk(r p m n q z h:Addr)(A:List V)(b t:Nat)(L l i k:aJ)(y B:V)(w:Sk)(e:DD)(F:List Str)(o:List Df)(x:List Nat)(E:List V)(g:List dq)(_:D=[.ref r,.ref h,y,B,.int (b:Int)])(_:b+j=15)(_:Rn H C r p (cV m) n q z 60 t L i)(_:H m=some (.lst []))(_:L.length<=t)(_:Ps H u z o x E g)(_:H h=some (.tup A))(_:A.length+j<=60)(_:aM H (D8 k e) B [])(_:uK H F e)(_:GT k)(_:e.Cs ((o.map Df.f).zip x))(_:dQ (a8 g i j) i k L t e= .ok w l (t+1+w.size))(_:w.ok false)(_:t+1+w.size<=60)(_:(w.isCl=false/\y= .non)∨∃(f:Str) (is:List Int) (s:Sk) (a:Int) (c:Addr),w= .cl f is s a/\y= .ref c/\eu H f is s a (.ref c))(_:∀(v:V) (H':Hp),eB H' w v []->BY e w.wh->Rn H' C r p (cV m) n q z 60 (t+1+w.size) l i->H' m=some (.lst [])->aL r q H H'->Q v H')
inductive lT(C s:Addr)(j:Nat)(A:List V)(H:Hp)(Q:VK)(e:XK):Prop
 |mk(r o l m q w g c:Addr)(x:List V)(b t i:Nat)(L k h:aJ)(y:Sk)(a:Int)(d:Df)(n:List Df)(u:List Nat)(B:List V)(f:List dq)(p:List Int)(_:A=[.ref r,.ref g,.ref c,.int (b:Int)])(_:b+j=16)(_:1<=j)(_:Rn H C r o (cV l) m q w 60 t L h)(_:H l=some (.lst []))(_:L.length<=t)(_:Ps H s w n u B f)(_:H g=some (.tup x))(_:x.length+j<=60)(_:n[i]?=some d)(_:u[i]?=some p.length)(_:∀z∈p,eK z)(_:eu H d.f p y a (.ref c))(_:y.ok true)(_:a8 f h j d.f p L t= .ok y a k (t+y.size))(_:t+y.size<=60)(_:∀(v:V) (H':Hp),eu H' d.f p y a v->eK a->Rn H' C r o (cV l) m q w 60 (t+y.size) k h->H' l=some (.lst [])->aL r q H H'->Q v H')
theorem ye:aj ["self","path","old","deed","deep","what"] z23z (aa wE):=bK
theorem C6{f:Addr}{fd:FuncData}{j:Nat}{C TL TD nA fW fT fA fD fP:Addr}{U V W f0 f2:FuncData}(F:aN K "what_along" "AgainRun.what_along" wE f fd)(ck:RK K C)(n6:aV K C "anew")(GW:ah P w K mg base ay (2*j+13) fW U z10z (oj (gB C TL TD nA j)))(bW:au K U z10z [])(m0:a5 K C "what_of" fW)(GT:ah P w K mg base ay 1 fT V ["self"] (oj (d9 C TL)))(bT:au K V ["self"] [])(m1:a5 K C "take_turn" fT)(GA:ah P w K mg base ay (2*j+38) fA W z15z (lT C nA j))(bA:au K W z15z [])(m2:a5 K C "chain_along" fA)(cD:Cl P w K mg base 1 fD f0 ["deep"] (oj (cX TD)) "deeper")(cP:Cl P w K mg base 4 fP f2 z8z ma "paths_at"):ah P w K mg base ay (2*j+39) f fd z23z (Br C nA j):=by
 refine F.ok ye ?_ λc0 A o2 s H vs Q E X h=>?_
 ·rintro _ _ _ _ ⟨r,D,n,G,B,I,O,ps,u,t,L,L',Cs,k,ov,ud,w,e,ys,ds,ns,xs,R,rfl,_⟩
  rfl
 obtain⟨r,D,n,G,B,I,O,ps,u,t,L,L',Cs,k,ov,ud,w,e,ys,ds,ns,xs,R,rfl,h2,l,Y,h3,hP,M,h4,h5,h0,gk,h1,J,o1,ht,h6,q⟩:=h
 refine#[_,(jd (jv (jz QB (pv 2) (@zH _ _ _) (aD _)) (jd (jy 5 ye.nd (j4 (pv 0) ck.cl m0 GW X.m bW .nil a6 (ja (pv 3) (ja (pv 4) jb)))) (jd (jO (kn PySem.F.plainAttrs_list PySem.F.slot_list_extend PySem.F.type_list_extend Ji (kM (pv 0) Z) (ja (jG kh (cP.e X.m (ja (pv 1) (ja (pv 5) jb))) (jE jf) jU) jb))) (jg (jo (pv 5))))) jp) (jd (jO (Xc (pv 0) ck.cl m1 GT X.m bT .nil a6)) (jg (jo (jh (ja jm (ja (j4 (pv 0) ck.cl m2 GA X.m bA .nil a6 (ja (pv 1) (ja (pv 2) (ja (cD.e X.m (ja (pv 4) jb)) jb)))) jb))))))),?_]
 have b0:=aE
 rcases h6 with ⟨h7,rfl⟩ | ⟨f',is,s1,a,c,rfl,rfl,h8⟩
 ·refine ai λF1 y=>#[_,Z,Z,_,Z,cn (decide_eq_true Z) ?_]
  clear y
  refine ai λF1 y=>#[_,Z,r,D,_,Z,l.ins,l.tl.w,_,Z,_,Z,r,D,cV n,G,B,I,u,t,L,Cs,k,ud,e,ys,ds,ns,xs,R,Z,h2,l,h3,P0,hP,h5,h0,gk,h1,λw' v _L H2 e0 hw o4 ft d0 R2 l2 t2 k2=>y _ _ ?_,#[λz=>(by rw[J]at z;cases z),λz=>(by rw[J]at z;cases z)]]
  clear y
  rw[J]at e0
  injection e0 with e1 e2 _
  subst e1
  subst e2
  have a0:n≠r:=jP Y l.ins (by intro z;cases z)
  have a1:n≠B:=jP Y l.lf (by intro z;cases z)
  have A2:=k2 _ _ a0 a1 Y
  have t0:=l.tm k2
  refine ai λF1 y=>#[_,Z,r,C,D,_,_,Z,R2.ins,ck.cl,n6,Z,.inl #[Z,_,aH.of A2],_,Z,_,Z,O,ps,w,v,Z,t0 _ _ M,P0,hw,o1,h7,λrl x H3 nr h' s3=>#[_,Z,rl,[x],Z,aH.of h',λp np=>#[n,p,[],[],Z,Z,ao (s3 _ _ A2) np,jc,iF,y _ _ ?_]]]
  clear y
  have s4:ae H2 (af H3 p (.lst [])):=s3.trans (je np)
  have A4:af H3 p (.lst []) n=some (.lst []):=s4 _ _ A2
  have e5:af (af H3 p (.lst [])) n (.lst [])=af H3 p (.lst []):=by
   funext b
   by_cases hb:b=n
   ·rw[hb,jc,A4]
   ·rw[ji hb]
  show(gE _:TS) _ _ (af (af H3 p (.lst [])) n (.lst []))
  rw[e5]
  exact#[_,Z,q v _ (hw.mono (ae.tm s4)) ft (R2.same s4) A4 (k2.trans (aL.of_same s4))]
 ·obtain⟨p0,x,q',ts,rfl,e3,N⟩:=Z8 J
  obtain⟨i,d,hd,hn,rfl⟩:=hP.find h1
  obtain⟨_,_,_,o3,_⟩:=h0
  have lt:t < 60:=by omega
  have a2:t+1+s1.size<=60:=ht
  have j1:1<=j:=by
   cases j with
   |zero=>cases N
   |succ j=>omega
  refine ai λF1 y=>#[_,Z,Z,_,Z,aS (decide_eq_false (λz=>by cases z)) (y _ _ ?_)]
  clear y
  refine ai λF1 y=>#[_,Z,r,D,_,Z,l.ins,l.tl.t,r,D,cV n,G,B,I,60,t,Z,l.ins,l.tl,λlt=>y _ _ ?_,λge=>absurd ge P0]
  clear y
  have T:al H (af H r (.ins C D (cy (cV n) G B I 60 (t+1)))):=λb xs e=>by rw[ji (jP e l.ins (by intro z;cases z))];exact e
  have R1:Rn (af H r (.ins C D (cy (cV n) G B I 60 (t+1)))) C r D (cV n) G B I 60 (t+1) L Cs:=#[jc,by rw[ji l.rl.1.symm];exact l.lf,by rw[ji l.rl.2.symm];exact l.ce,l.iL,l.iC,l.cl,l.tl]
  have k1:aL r B H (af H r (.ins C D (cy (cV n) G B I 60 (t+1)))):=λb o n1 n2 e=>by rw[ji n1];exact e
  have A1:af H r (.ins C D (cy (cV n) G B I 60 (t+1))) n=some (.lst []):=by rw[ji (jP Y l.ins (by intro z;cases z))];exact Y
  generalize af H r (.ins C D (cy (cV n) G B I 60 (t+1)))=H1 at T R1 k1 A1
  refine#[_,Z,r,D,_,Z,R1.ins,Z,_,Z,_,Z,_,Z,(u:Int),Z,λdl=>?_,λdg=>absurd dg P0]
  refine#[r,D,n,G,B,I,O,c,ps,u+1,t+1,i,L,L',Cs,s1,a,d,ds,ns,xs,R,is,Z,P0,j1,R1,A1,P0,hP.mono T,T _ _ M,h4,hd,by rw[e3,List.length_map];exact hn,λz hz=>?_,eu.mono' h8 T,o1,N,a2,λv H2 a3 ia R2 A2 k2=>?_]
  ·rw[e3]at hz
   obtain⟨c,hc,rfl⟩:=List.mem_map.mp hz
   exact qC gk (o3.2.2 c hc).1
  ·obtain⟨c2,g,ee,ss,rfl,c1,c3,c4,c5⟩:=a3
   refine#[bN,λv2 nv=>?_]
   have S:ae H2 (af H2 v2 (.tup [.str "call",.ref c2])):=je nv
   exact q _ _ #[v2,c2,g,ee,ss,Z,jc,S _ _ c1,S _ _ c3,S _ _ c4,c5.mono (ae.tm S)] ia (R2.same S) (S _ _ A2) ((k1.trans k2).trans (aL.of_same S))
noncomputable def Sk.fnd:Sk->Int
 | .ask b=>b
 | .rd _ i=>i
 | .wr _ i=>i
 | .cl _ _ _ a=>a
 |_=>0
inductive h9(b:List V)(H:Hp)(Q:VK)(a:XK):Prop
 |mk(u:V)(w:Sk)(_:b=[u])(_:eB H w u [])(_:w.ok false)(_:Q (.int w.fnd) H)
theorem Qx:∀{s q:Sk},s.ok true->(s.app q).size=s.size+q.size
 | .nil,q,_=>(Nat.zero_add _).symm
 | .st n H w r,q,o=>by
  have h:=Qx (s:=r) (q:=q) o.2
  show w.size+(r.app q).size+1=w.size+r.size+1+q.size
  omega
theorem xT{call:eW}{C L d:aJ}{p:dq}{m t f:Nat}{g:Gd}{n:Int}{H:List Int}{a:Int}{w r:Sk}(h:dM call C p m g L t= .ok (.st n H w r) a d f):∃(N:Nat) (c:yq) (l:aJ) (T M:Nat),n=(N:Int)/\g= .go N H/\p.cs[N]?=some c/\dQ call C (aR c.nm H) L t c.e= .ok w l T/\dM call C p M (oJ p c H w.wh) l T= .ok r a d f:=by
 cases g with
 |give b=>obtain⟨e,_⟩:=Xu h;cases e
 |go N i=>
  obtain⟨c,W,l,T,R,M,j,k,e,o⟩:=pR h
  injection e with E q s u
  subst E
  subst q
  subst s
  subst u
  exact#[N,c,l,T,M,Z,Z,j,k,o]
theorem pS{call:eW}{C L l:aJ}{p:dq}{m t T:Nat}{g:Gd}{a:Int}(h:dM call C p m g L t= .ok .nil a l T):g= .give a/\l=L:=by
 cases g with
 |give b=>obtain⟨_,e,E⟩:=Xu h;exact#[by rw[e],E]
 |go n H=>obtain⟨_,_,_,_,_,_,_,_,e,_⟩:=pR h;cases e
inductive tO(g:List V)(H:Hp)(Q:VK)(b:XK):Prop
 |mk(e p h:Addr)(d:List V)(k:Nat)(n:Int)(u:V)(w:Sk)(_:g=[.ref e,.int (k:Int)])(_:H e=some (.tup d))(_:d[k]?=some (.ref p))(_:H p=some (.tup [.int n,.ref h,u]))(_:eB H w u [])(_:w.ok false)(_:∀ov,((w.isCl=false/\ov= .non)∨∃(f:Str) (is:List Int) (s:Sk) (a:Int) (c:Addr),w= .cl f is s a/\ov= .ref c/\eu H f is s a (.ref c))->Q ov H)
theorem FT{v:List V}{H:Hp}{Q:VK}{E:XK}(h:tO v H Q E):me v H Q E:=by
 obtain⟨e,p,d,S,k,n,u,w,i,j,l,m,o,r,q⟩:=h
 refine#[e,p,d,S,k,n,u,w,i,j,l,m,o,r,λf I s a c t b=>?_,λN=>q _ (.inl #[N,Z])]
 obtain⟨C,z⟩:=id b
 obtain⟨g,x,y,rfl,_⟩:=z
 exact q _ (.inr #[f,I,s,a,C,t,Z,b])
def Fc(H:Hp)(a:Int)(g:V):Sk->Prop
 | .st n h _ _=>aM H (aG [ba "go",aF n,aG (h.map aF)]) g []
 |_=>aM H (aG [ba "give",aF a]) g []
theorem pQ{H:Hp}{call:eW}{C L l:aJ}{p:dq}{m t T:Nat}{g:Gd}{a:Int}{G:V}{R:Sk}(h:Fc H a G R)(o:R.ok true)(b:dM call C p m g L t= .ok R a l T):aM H (Fq g) G []:=by
 cases R with
 |nil=>rw[(pS b).1];exact h
 |st n c w r=>
  obtain⟨N,_,_,_,_,e,E,_⟩:=xT b
  subst e
  rw[E]
  exact h
 |ask _ |rd _ _ |wr _ _ |cl _ _ _ _=>exact o.elim
theorem pO{H:Hp}{S:List V}{m:Nat}{R:Sk}{a:Int}{Q:VK}(d:eB H R .non (S.drop m))(o:R.ok true)(i:m<=S.length)(q:∀v b,Fc b a v R->ae H b->Q v b):(∃(p h:Addr) (n:Int) (c:List Int) (u:V),S[m]?=some (.ref p)/\H p=some (.tup [.int n,.ref h,u])/\H h=some (.tup (c.map V.int))/\∀(v:V) (b:Hp),aM b (aG [ba "go",aF n,aG (c.map aF)]) v []->ae H b->Q v b)∨(m=S.length/\∀(v:V) (b:Hp),aM b (aG [ba "give",aF a]) v []->ae H b->Q v b):=by
 cases R with
 |nil=>
  have e:S.drop m=[]:=d
  have e:=List.drop_eq_nil_iff.mp e
  exact .inr #[P0,λv b h s=>q v b h s]
 |st n c w r=>
  obtain⟨p,h,u,y,e,f,g,j,k⟩:=d
  exact .inl #[p,h,n,c,u,by rw[<- List.head?_drop,e];rfl,f,g,λv b t s=>q v b t s]
 |ask _ |rd _ _ |wr _ _ |cl _ _ _ _=>exact o.elim
inductive EZ(b:eW)(Z:dq)(U C r D A B S Y w c sl:Addr)(d:Df)(e t:Nat)(x z:aJ)(v:V)(ss:List V)(sk:Sk)(a:Int)(t':Nat)(H:Hp)(R:Nat)(σ:_L.St)(y:Hp):Prop
 |mk(W X q s u:Option V)(Q:V)(g:Gd)(m T:Nat)(f h:Sk)(p:List V)(L:aJ)(E:σ=[some (.ref r),some (.ref w),some (.ref c),some (.int (e:Int)),some v,some (.ref sl),some (.int (m:Int)),some Q,W,X,q,s,u])(F:y sl=some (.lst p))(G:eB y f .non p)(I:f.ok true)(J:eB y h .non (ss.drop m))(K:h.ok true)(M:m<=ss.length)(N:B0 y U d Q g)(O:dM b x Z T g L (t+f.size)= .ok h a z t')(P:Rn y C r D (cV A) B S Y 60 (t+f.size) L x)(i:y A=some (.lst []))(j:L.length<=t+f.size)(k:aL r S H y)(l:f.app h=sk)(n:R+m=ss.length+1)(o:p.length=m)
theorem Z9{f:Addr}{k:FuncData}(F:aN K "found_in" "found_in" fe f k):ah P w K mg base ay 1 f k ["what"] h9:=by
 refine F.ok iJ ?_ λC A o s H v Q E x h=>?_
 ·rintro _ _ _ _ ⟨u,w,rfl,_⟩
  rfl
 obtain⟨u,w,rfl,m,d,q⟩:=h
 refine#[_,(jg (jo (kB (j5 (jx (pv 0))) (jx (jr jM (pv 0) jf (λ_ _=>Z))) (jr jM (pv 0) (rY XV jf) (λ_ _=>Z))))),?_]
 cases w with
 |nil |st _ _ _ _=>exact d.elim
 |ask b |rd a i |wr a i=>
  obtain⟨p,rfl,n⟩:=m
  exact(js n eG #[Z,_,Z,aS P6 #[_,Z,_,Z,p,_,_,_,Z,Z,aw.of n,Z,q]])
 |cl f I s i=>
  obtain⟨p,c,g,e,S,rfl,r,t,_⟩:=m
  exact(js r eG #[Z,_,Z,cn P6 (js r iz #[c,_,_,_,Z,Z,aw.of t,jH (j:=3) Z,q])])
theorem gL:aj ["self","path","old","deep","part","steps","mark","goal","here","like","deed","taken","step"] z15z (aa wD):=bK
theorem C5{f:Addr}{fd:FuncData}{j:Nat}{C nA fN fG fL fI fK fF fW:Addr}{f3 f4 f5 f6 f7 f9 f0:FuncData}(F:aN K "chain_along" "AgainRun.chain_along" wD f fd)(ck:RK K C)(cN:Cl P w K mg base 2 fN f3 ["parts","f"] ij "part_of")(cG:Cl P w K mg base 1 fG f4 ["chain","number"] lX "goal_at")(cL:Cl P w K mg base 1 fL f5 ["steps","mark","cut"] ii "like_from")(cI:Cl P w K mg base 1 fI f6 ["what"] lV "deed_in")(cK:Cl P w K mg base 1 fK f7 ["steps","at"] tO "chain_taken")(cF:Cl P w K mg base 1 fF f9 ["what"] h9 "found_in")(GW:ah P w K mg base ay (2*j+39) fW f0 z23z (Br C nA j))(bW:au K f0 z23z [])(m0:a5 K C "what_along" fW)(ml:mg "len"=none)(m1:mg "tuple"=none):ah P w K mg base ay (2*j+40) f fd z15z (lT C nA (j+1)):=by
 refine F.ok gL ?_ λg4 A o3 s H vs Q E hr h=>?_
 ·rintro _ _ _ _ ⟨r,dx,aA,cA,lA,pA,p1,c,ps,d0,t,i,L,L',Cs,Y,a,d,ds,ns,xs,W,is,rfl,_⟩
  rfl
 obtain⟨r,dx,aA,cA,lA,pA,p1,c,ps,d0,t,i,L,L',Cs,Y,a,d,ds,ns,xs,W,is,rfl,g5,g6,hR,hA,b7,hP,a3,g7,hd,hn,b8,b9,o1,a4,ht,q⟩:=h
 refine#[_,(jd (jy 4 gL.nd (cN.e hr.m (ja (kM (pv 0) Z) (ja (jx (pv 2)) jb)))) (jd (jy 5 gL.nd (jF jb)) (jd (jy 6 gL.nd jf) (jd (jy 7 gL.nd (cG.e hr.m (ja (pv 2) (ja (pv 6) jb)))) (jd (Kb PassesOwn.never (j5 (jx (pv 7))) (jd (jy 8 gL.nd (ju jZ (pv 1) (jh (ja (jN jK Z ml PySem.boot_len (ja (pv 5) jb)) jb)))) (jd (jy 9 gL.nd (cL.e hr.m (ja (jx (pv 2)) (ja (pv 6) (ja (jG kE (pv 7) (jE jf) jU) jb))))) (jd (jv (jz QB (pv 9) (@zH _ _ _) (aD _)) (@QE _ _) (jd (jy 10 gL.nd (cI.e hr.m (ja (jx (jr jM (jr jM (pv 2) jf (λ_ _=>Z)) (pv 9) (λ_ _=>Z))) jb))) (jg (jy 11 gL.nd (pv 9))))) (jd (jy 6 gL.nd (kB (jz QB (pv 11) (@zH _ _ _) (aD _)) (pv 6) (ju jY (pv 11) jf))) (jd (jy 12 gL.nd (ju jZ (jG kE (pv 7) (jE jf) jU) (jh (ja (j4 (pv 0) ck.cl m0 GW hr.m bW .nil a6 (ja (pv 8) (ja (cK.e hr.m (ja (jx (pv 2)) (ja (pv 11) jb))) (ja (pv 10) (ja (pv 3) jb))))) jb)))) (jd (jO (kn PySem.F.plainAttrs_list PySem.F.slot_list_append PySem.F.type_list_append jR (pv 5) (ja (pv 12) jb))) (jg (jv (PW.pt (J3 (jz wg (pv 9) (@zH _ _ _) (aD _)) (qG (jz qi (cF.e hr.m (ja (jx (pv 12)) jb)) (cF.e hr.m (ja (jx (jr jM (jr jM (pv 2) jf (λ_ _=>Z)) (pv 9) (λ_ _=>Z))) jb)) (aD _))))) (jg (jy 7 gL.nd (cG.e hr.m (ja (pv 2) (ja (pv 6) jb))))) (@QE _ _)))))))))) (jg (jo (jh (ja (jx (pv 2)) (ja (jx (pv 2)) (ja (jD jI Z m1 boot_tuple (ja (pv 5) jb)) (ja (jx (pv 7)) jb)))))))))))),?_]
 have g8:=aE
 obtain⟨c',gA,eA,ss,ec,hc,hg,he,h8⟩:=b9
 cases ec
 obtain⟨v,hv,_,b',c2⟩:=hP.at hd
 obtain⟨ys,J,c3,g',pr,c4⟩:=hP.part hd hv
 have l6:=X1 o1 h8
 have a':dM (a8 W Cs j) Cs J 62 (dU (lN J) (bZ J.way.sets (aR J.ps is)) J.way.goal) L t= .ok Y a L' (t+Y.size):=by
  have z:(match dC W d.f with |none=>OC.long |some J=>dM (a8 W Cs j) Cs J 62 (dU (lN J) (bZ J.way.sets (aR J.ps is)) J.way.goal) L t)= .ok Y a L' (t+Y.size):=a4
  rw[c4]at z
  exact z
 refine ai λF1 y=>#[_,Z,r,C,dx,_,_,Z,hR.ins,ck.cl,ck.n5,Z,js hc eG #[pA,d.f,xs,i,v,Z,hP.at',hv,b',c2,y _ _ ?_]]
 clear y
 refine ai λF1 y=>#[iF,λS X=>y _ _ ?_]
 clear y
 have s1:ae H (af H S (.lst [])):=je X
 have l1:af H S (.lst []) S=some (.lst []):=jc
 generalize af H S (.lst [])=H1 at s1 l1 ⊢
 refine ai λF1 y=>y _ _ ?_
 clear y
 refine ai λF1 y=>#[_,Z,_,Z,d.f,is,Y,a,c,gA,eA,ss,0,Z,s1 _ _ hc,s1 _ _ he,pO (h8.mono (ae.tm s1)) o1 (Nat.zero_le _) λgl H2 h' s2=>y _ _ ?_]
 clear y
 have S2:=s1.trans s2
 have gz:GT (aR J.ps is):=qu b8
 have g0:=QJ (H:=H) (nA:=nA) (d:=d) (by rw[rf,pr.nms];exact pQ h' o1 a') (zL pr.wv.sets gz) pr.wv.goal
 rw[pr.nms]at g0
 have s3:S≠r:=Ne.symm (jk hR.ins X)
 have s9:S≠lA:=Ne.symm (jk hR.lf X)
 refine ai λF1 y=>?_
 refine ny (EZ (a8 W Cs j) J nA C r dx aA cA lA pA p1 c S d d0 t Cs L' v ss Y a (t+Y.size) H) (ss.length+1) #[none,none,none,none,none,gl,_,0,62,.nil,Y,[],L,Z,s2 _ _ l1,Z,trivial,h8.mono (ae.tm S2),o1,Nat.zero_le _,g0,a',hR.same S2,S2 _ _ hA,b7,aL.of_same S2,Z,Z,Z] ?_
 intro kk σ H3 E' rt fE F kT cF.k Gq kq hW
 obtain⟨o8,o9,o4,o5,o6,gl,g,m,mm,done,r0,N,L3,rfl,w1,w2,w3,w4,w5,w6,w7,w8,w9,b0,c5,w',a0,i0,c6⟩:=hW
 have G:=hR.tm w'
 cases r0 with
 |ask _ |rd _ _ |wr _ _ |cl _ _ _ _=>exact w5.elim
 |nil=>
  obtain⟨eg,eL⟩:=pS w8
  subst eg
  subst eL
  cases w7 with
  |give gp _ e1 h5 ia=>
   subst e1
   refine kq (js h5 Z #[Z,_,Z,?_])
   rw[show decide (V.str (Str.ofString "give")=V.str (Str.ofString "go"))=false by decide+kernel]
   refine cF.k _ (y _ _ ?_)
   refine(js (G _ _ hc) eG (js (G _ _ hc) iz #[_,Z,S,N,Z,.inl #[aH.of w1,λl2 n4=>?_]]))
   have s4:ae H3 (af H3 l2 (.tup N)):=je n4
   refine(js (s4 _ _ h5) iz #[oK,λv2 nv=>?_])
   have s5:=s4.trans (je (o:=.tup [.str d.f,.ref gA,.ref l2,.int a]) nv)
   have e7:done=Y:=by rw[<- a0,Ki w3]
   subst e7
   exact q _ _ #[v2,gA,l2,N,Z,jc,s5 _ _ (G _ _ hg),ao jc nv,w2.mono (ae.tm s5)] ia (w9.same s5) (s5 _ _ b0) (w'.trans (aL.of_same s5))
 |st n hs w r'=>
  obtain⟨p,h,u,y0,e3,hp,hh,hw,b1⟩:=w4
  have O:w.ok false:=w5.1
  have o2:r'.ok true:=w5.2
  obtain⟨n',cd,L1,t1,m',rfl,rfl,c9,a1,h3⟩:=xT w8
  obtain⟨e9,i1,l5⟩:=pw (Zl j) a1
  subst e9
  have hk:ss[m]?=some (.ref p):=by rw[<- List.head?_drop,e3];rfl
  have b2:=(List.getElem?_eq_some_iff.mp hk).1
  have ey:y0=ss.drop (m+1):=by
   have z:=congrArg List.tail e3
   rw[List.tail_drop]at z
   exact z.symm
  subst ey
  have i2:Y.size=done.size+(w.size+r'.size+1):=by rw[<- a0,Qx w3];rfl
  cases w7 with
  |go gp a2 _ cc _ e1 h5 h6 b3 hl hi=>
   subst e1
   refine kq (js h5 Z #[Z,_,Z,?_])
   rw[show decide (V.str (Str.ofString "go")=V.str (Str.ofString "go"))=true by decide+kernel]
   refine kT _ ?_
   clear kT cF.k y
   have P1:=c3.mono G
   obtain⟨pa,ca,wv,cs,i3,i4,_,_,d1⟩:=P1.parts
   obtain⟨ka,na,wa,dv,i',_,c1⟩:=P1.cut d1 b3
   have cr:=(pr.cs n' cc cd b3 c9).mono G
   obtain⟨d2,e,c0⟩:=cd
   obtain⟨e2,ed,d3,e',l4,d4⟩:=cr
   have e2:d2=canon cc.M:=e2
   subst e2
   have gk:GT (aR (canon cc.M) hs):=qu hi
   have b4:e.Cs ((ds.map Df.f).zip ns):=by
    cases e with
    |ask=>trivial
    |st p0 l=>cases l<;>first |trivial |exact hP.cs hd _ e'
   have h0:=G _ _ hc
   have h1:=G _ _ he
   refine ai λF1 y=>#[_,Z,_,Z,S,_,Z,.inl (aH.of w1),iG,λq1 n0=>#[p1,q1,ps,_,Z,Z,ao (G _ _ a3) n0,jc,(by show ps.length+1<=sizeLine;omega),λq2 H4 e4 s4=>y _ _ ?_]]
   clear y
   have S4:ae H3 H4:=(je n0).trans s4
   refine ai λF1 y=>(js (S4 _ _ h0) iA #[_,Z,_,Z,_,Z,gp,_,Z,S4 _ _ h5,λq3 H5 e5 s5=>?_])
   have S5:=S4.trans s5
   have e5:H5 q3=some (.tup [.int (n':Int),.ref a2]):=e5
   refine#[eA,p,h,ss,m,(n':Int),hs,u,.ref q3,Z,S5 _ _ h1,P0,hk,S5 _ _ hp,S5 _ _ hh,jC e5 (jl Z jT (jl Z (qv (S5 _ _ h6)) jA)),λH6 s6=>y _ _ ?_]
   clear y
   have S6:=S5.trans s6
   refine ai λF1 y=>#[_,Z,Z,_,Z,aS (decide_eq_false (λz=>by cases z)) ?_]
   refine ai λF2 f2=>(js (S6 _ _ h0) iA #[_,Z,eA,_,_,_,Z,Z,aw.of (S6 _ _ h1),jH hk,p,_,_,_,Z,Z,aw.of (S6 _ _ hp),iA,u,w,Z,hw.mono (ae.tm S6),O,λud H7 b5 s7=>f2 _ _ ?_])
   clear f2
   have S7:=S6.trans s7
   refine#[_,Z,y _ _ ?_]
   clear y
   refine ai λF1 y=>#[_,Z,Z,_,Z,aS (decide_eq_false (λz=>by cases z)) #[_,Z,_,_,Z,Z,y _ _ ?_]]
   clear y
   rw[yJ a1]at b5
   refine ai λF1 y=>#[_,Z,_,Z,gp,_,Z,S7 _ _ h5,λq4 H8 e8 s8=>?_]
   have S8:=S7.trans s8
   have e8:H8 q4=some (.tup [.int (n':Int),.ref a2]):=e8
   have R8:=w9.same S8
   have t2:=G.trans (ae.tm S8)
   have d5:H8 q2=some (.tup (ps++[.int (N.length:Int)])):=s8 _ _ (s7 _ _ (s6 _ _ (s5 _ _ e4)))
   refine#[_,Z,r,dx,_,Z,R8.ins,Z,_,Z,js (S8 _ _ h0) iA #[_,Z,eA,p,h,ss,m,(n':Int),u,w,Z,S8 _ _ h1,hk,S8 _ _ hp,hw.mono (ae.tm S8),O,λov d6=>?_]]
   refine#[_,Z,_,Z,r,dx,aA,cA,lA,pA,q2,ps++[.int (N.length:Int)],d0,t+done.size,L3,L1,Cs,aR (canon cc.M) hs,ov,ud,w,e,ys,ds,ns,xs,W,Z,P0,R8,S8 _ _ b0,c5,hP.mono t2,d5,by rw[List.length_append];show ps.length+1+j<=60;omega,b5.mono (ae.tm s8),d3.mono (ae.tm S8),gk,b4,a1,O,P0,d6,λvv H9 d7 ft R9 A9 k9=>?_]
   refine#[iG,λq5 n3=>#[q4,q5,_,_,Z,Z,ao (R8.tm k9 _ _ e8) n3,jc,(by show 2+1<=sizeLine;omega),λq6 B e0 s'=>y _ _ ?_]]
   clear y
   have S0:ae H9 B:=(je n3).trans s'
   have K1:aL r lA H3 B:=((aL.of_same S8).trans k9).trans (aL.of_same S0)
   have t0:al H3 B:=w9.tm K1
   have e0:B q6=some (.tup [.int (n':Int),.ref a2,vv]):=e0
   have l0:B S=some (.lst N):=K1 _ _ s3 s9 w1
   have R:=R9.same S0
   have A1:=S0 _ _ A9
   have v1:=d7.mono (ae.tm S0)
   refine ai λF1 y=>#[_,Z,.inl #[Z,_,aH.of l0],_,Z,S,_,_,Z,Z,l0,P0,y _ _ ?_]
   clear y
   have U:aB S B (af B S (.lst (N++[.ref q6]))):=λb o nb e=>by rw[ji nb];exact e
   have D:al B (af B S (.lst (N++[.ref q6]))):=λb xs e=>U _ _ (jP e l0 (by intro z;cases z)) e
   have l3:af B S (.lst (N++[.ref q6])) S=some (.lst (N++[.ref q6])):=jc
   generalize af B S (.lst (N++[.ref q6]))=H0 at U D l3
   have x:=t0.trans D
   have h2:w.wh.side < cc.ws.length:=by
    rw[c1.v.len,<- ed]
    cases e with
    |ask ta T=>show _ < 2;unfold Wh.side;split<;>(try split)<;>omega
    |st p0 l=>
     show _ < 1
     cases w<;>first |exact Nat.one_pos |exact O.elim | (cases l<;>exact ft.elim)
   obtain⟨w0,h4⟩:∃w0,c0[w.wh.side]?=some w0:=#[_,List.getElem?_eq_getElem (by rw[l4];exact h2)]
   obtain⟨f',h7⟩:=d4 _ _ w0 (List.getElem?_eq_getElem h2) h4
   have e6:oJ J #[canon cc.M,e,c0] hs w.wh=dU (lN J) (bZ w0.sets (nD e w.wh (aR (canon cc.M) hs))) w0.goal:=by
    show(match c0[w.wh.side]? with |some wd=>dU (lN J) (bZ wd.sets (nD e w.wh (aR (canon cc.M) hs))) wd.goal |none=>Gd.give 0)=_
    rw[h4]
   have ez:t+(Sk.put (n':Int) hs w done).size=t+done.size+1+w.size:=by rw[Kh w3];omega
   have d8:cA≠S:=jk hR.ce X
   have d':aA≠S:=jk hA X
   have R0:Rn H0 C r dx (cV aA) cA lA pA 60 (t+done.size+1+w.size) L1 Cs:=#[U _ _ s3.symm R.ins,U _ _ s9.symm R.lf,U _ _ d8 R.ce,R.iL,R.iC,R.cl,R.tl]
   refine#[_,Z,Z,_,Z,cn (by rw[decide_eq_false (by intro z;cases z)];rfl) (js (D _ _ e0) iA #[vv,w,Z,v1.mono D,O,js (x _ _ h0) iA #[_,Z,eA,_,_,_,Z,Z,aw.of (x _ _ h1),jH hk,p,_,_,_,Z,Z,aw.of (x _ _ hp),iA,u,w,Z,hw.mono x,O,Z,_,Z,cn (decide_eq_true Z) ?_]])]
   refine#[_,Z,_,Z,d.f,is,Y,a,c,gA,eA,ss,m+1,Z,x _ _ h0,x _ _ h1,pO (b1.mono x) o2 b2 λg2 H' h' s0=>?_]
   have g1:=QJ (H:=H3) (nA:=nA) (d:=d) (by rw[rf,pr.nms,<- e6];exact pQ h' o2 h3) (zL h7.sets (X0 ft gk)) h7.goal
   rw[pr.nms,<- e6]at g1
   have I:=ae.tm s0
   refine fE (kk - 1) _ _ P0 #[_,_,_,_,_,g2,_,m+1,m',Sk.put (n':Int) hs w done,r',N++[.ref q6],L1,Z,s0 _ _ l3,sj (I _ _ (D _ _ e0)) (I _ _ (x _ _ h6)) ((v1.mono D).mono I) w3 ((w2.mono x).mono I),QT O w3,(b1.mono x).mono I,o2,b2,g1,by rw[ez];exact h3,by rw[ez];exact R0.same s0,s0 _ _ (U _ _ d' A1),by rw[ez];omega,λb o n1 n2 e=>s0 _ _ (U _ _ (jk e X) (K1 _ _ n1 n2 (w' _ _ n1 n2 e))),by rw[QU w3];exact a0,P0,by rw[List.length_append,c6];rfl]
noncomputable abbrev AY:Stmt:=bL 42
inductive lS(m:Addr)(r:List V)(H:Hp)(Q:VK)(b:XK):Prop
 |mk(o h c:Addr)(i:Nat)(f g:aJ)(q:Sk)(a:Int)(d:Df)(j:List Df)(n:List Nat)(s:List V)(e:List dq)(k:List Int)(_:r=[.ref o,.ref c,.ref h,.int 60])(_:Ps H m o j n s e)(_:j[i]?=some d)(_:n[i]?=some k.length)(_:∀z∈k,eK z)(_:H h=some (.dK f))(_:GT f)(_:eu H d.f k q a (.ref c))(_:q.ok true)(_:a8 e f 16 d.f k [] 0= .ok q a g q.size)(_:q.size<=60)(_:∀(p l:Addr) (v:V) (H':Hp),H p=none->H l=none->H' p=some (.tup [v,.ref l])->H' l=some (.lst [])->eu H' d.f k q a v->ae H H'->Q (.ref p) H')
theorem JS{H a:Hp}(s:ae H a){x:Addr}(h:a x=none):H x=none:=by
 cases z:H x with
 |none=>rfl
 |some o=>have:=s _ _ z;rw[h]at this;cases this
theorem sT:aj ["parts","old","cells","most","running","chain"] z27z (aa AY):=bK
theorem Ah{f:Addr}{fd:FuncData}{C nA fI fA:Addr}{t u:FuncData}(F:aN K "again" "again" AY f fd)(ck:RK K C)(n6:aV K C "anew")(mk:Mk K C fI)(GI:ah P w K mg base ay 3 fI t z6z (le C))(bI:au K t z6z [])(mC:mg "AgainRun"=some (.ref C))(GA:ah P w K mg base ay 70 fA u z15z (lT C nA 16))(bA:au K u z15z [])(M:a5 K C "chain_along" fA)(I:mg "sorted"=none):ah P w K mg base ay 71 f fd z27z (lS nA):=by
 refine F.ok sT ?_ λc0 A O s H vs Q E hr h=>?_
 ·rintro _ _ _ _ ⟨j,k,c,i,J,L',sk,a,d,ds,ns,xs,x,is,rfl,_⟩
  rfl
 obtain⟨j,k,c,i,J,L',sk,a,d,ds,ns,xs,x,is,rfl,hP,hd,hn,R,y,U,V,W,z,ht,q⟩:=h
 refine#[_,(jd (jy 4 sT.nd (QN mk GI hr.m Z mC bI .nil a6 (ja (pv 0) (ja (pv 2) (ja (pv 3) jb))))) (jd (jy 5 sT.nd (j4 (pv 4) ck.cl M GA hr.m bA .nil a6 (ja (jh jb) (ja (pv 1) (ja jf jb))))) (jg (jo (jh (ja (pv 5) (ja (jN qX Z I boot_sorted (ja (kM (pv 4) Z) jb)) jb))))))),?_]
 have b0:=aE
 refine ai λF1 B=>#[_,Z,_,Z,_,Z,λr D X nd ne=>?_]
 have Y:ae H (af (af H D (.own r)) r (.ins C D [])):=λc o e=>by rw[ji (jk e X),ji (jk e nd)];exact e
 refine#[r,D,j,k,60,Z,jc,λL g nl na n0=>#[Z,B _ _ ?_]]
 clear B
 have n1:L≠r:=λe=>by rw[e,jc]at nl;cases nl
 have n2:g≠r:=λe=>by rw[e,jc]at na;cases na
 have n:=JS Y nl
 have n3:=JS Y na
 have S:ae H (af (af (af (af (af H D (.own r)) r (.ins C D [])) L (.dK [])) g (.lst [])) r (.ins C D (cy (cV g) k L j 60 0))):=λc o e=>by rw[ji (jk e X),ji (jk e n3),ji (jk e n)];exact Y _ _ e
 have R1:Rn (af (af (af (af (af H D (.own r)) r (.ins C D [])) L (.dK [])) g (.lst [])) r (.ins C D (cy (cV g) k L j 60 0))) C r D (cV g) k L j 60 0 [] J:=#[jc,by rw[ji n1,ji n0];exact jc,S _ _ y,GT.nil,U,jk y n,uX g]
 have A1:af (af (af (af (af H D (.own r)) r (.ins C D [])) L (.dK [])) g (.lst [])) r (.ins C D (cy (cV g) k L j 60 0)) g=some (.lst []):=by rw[ji n2];exact jc
 generalize af (af (af (af (af H D (.own r)) r (.ins C D [])) L (.dK [])) g (.lst [])) r (.ins C D (cy (cV g) k L j 60 0))=H1 at S R1 A1
 refine ai λF1 B=>#[_,Z,r,D,_,Z,R1.ins,Z,iF,λpa n4=>#[_,Z,?_]]
 have G:ae H1 (af H1 pa (.tup [])):=je n4
 have T:=ae.tm (S.trans G)
 refine#[r,D,g,k,L,j,pa,c,[],0,0,i,[],L',J,sk,a,d,ds,ns,xs,x,is,Z,Z,PZ,R1.same G,G _ _ A1,Nat.le_refl _,hP.mono T,jc,PZ,hd,hn,R,eu.mono' V T,W,by rw[Nat.zero_add];exact z,P0,λv H3 h0 ia R3 A3 k3=>B _ _ ?_]
 clear B
 have s3:ae H H3:=λb o e=>k3 _ _ (jk e X) (jk e n) (G _ _ (S _ _ e))
 refine#[_,Z,_,Z,r,C,D,_,_,Z,R3.ins,ck.cl,n6,Z,g,[],Z,aH.of A3,PZ,λl s6 N pm _=>?_]
 have e:s6=[]:=List.Perm.eq_nil pm
 subst e
 have s4:ae H3 (af H3 l (.lst [])):=je N
 refine#[bN,λp np=>?_]
 have s5:=je (o:=.tup [v,.ref l]) np
 have S4:=s3.trans s4
 exact q p l v _ (JS S4 np) (JS s3 N) jc (s5 _ _ jc) (eu.mono' h0 (ae.tm (s4.trans s5))) (S4.trans s5)
noncomputable abbrev Ea:Stmt:=bL 79
noncomputable def nM:List Sk->Int->Bool
 | [],_=>false
 | .rd C _::W,c=>decide (C=c)||nM W c
 |_::W,c=>nM W c
theorem sr(c:Int):∀(a b:List Sk),nM (a++b) c=(nM a c||nM b c)
 | [],b=>rfl
 |w::a,b=>by
  have h:=sr c a b
  cases w with
  |rd C i=>show(decide (C=c)||nM (a++b) c)=_;rw[h,<- Bool.or_assoc];rfl
  |_=>exact h
theorem Qy(c:Int):∀(m k:aJ),(bg (bV k m) (.inl c)).isSome=((bg k (.inl c)).isSome||(bg m (.inl c)).isSome)
 | [],k=>by show(bg k (.inl c)).isSome=((bg k (.inl c)).isSome||false);rw[Bool.or_false]
 |p::m,k=>by
  show(bg (bV (aY k p.1 p.2) m) (.inl c)).isSome=_
  rw[Qy c m,Kd]
  unfold bg
  rw[List.find?_cons]
  by_cases h:(.inl c:bh)=p.1
  ·rw[if_pos h,decide_eq_true h.symm]
   show(true||_)=(_||true)
   rw[Bool.true_or,Bool.or_true]
  ·rw[if_neg h,decide_eq_false λz=>h z.symm]
inductive md(n:Nat)(e:List V)(H:Hp)(Q:VK)(b:XK):Prop
 |mk(f:Str)(d:List Int)(s:Sk)(a:Int)(u:V)(_:e=[u])(_:eu H f d s a u)(_:s.ok true)(_:s.dep < n)(_:s.size<=60)(_:∀(l:Addr) (D:aJ) (H':Hp),H l=none->H' l=some (.dK D)->(∀c,(bg D (.inl c)).isSome=nM s.flat c)->D.length<=s.size->ae H H'->Q (.ref l) H')
inductive Fj(c l:Addr)(s:Sk)(H:Hp)(i:Nat)(j:_L.St)(a:Hp):Prop
 |mk(h:Option V)(D:aJ)(b:j=[some (.ref c),some (.ref l),h])(d:a l=some (.dK D))(e:∀x,(bg D (.inl x)).isSome=nM (nE (s.tops.take i)) x)(f:D.length<=(nE (s.tops.take i)).length)(g:ae H a)
theorem Bm:aj ["_law_chain","_law_found","_law_step"] ["_law_chain"] (aa Ea):=bK
theorem Dc{f:Addr}{fd:FuncData}{n:Nat}{fS:Addr}{f0:FuncData}(F:aN K "_law_read" "_law_read" Ea f fd)(cS:Cl P w K mg base (n+1) fS f0 ["_law_chain"] (md n) "_law_read"):ah P w K mg base ay (n+2) f fd ["_law_chain"] (md (n+1)):=by
 refine F.ok Bm ?_ λc0 A o1 s H vs Q E hr h=>?_
 ·rintro _ _ _ _ ⟨f,is,s,a,u,rfl,_⟩
  rfl
 obtain⟨f,is,s,a,u,rfl,hc,B,hd,hz,q⟩:=h
 refine#[_,(jd (jy 1 Bm.nd Ke) (jd (kr PassesOwn.never Z (zI (jx (pv 0))) (jw (i:=2) Bm.nd Z (Or.inl Z)) (jd (jv (j5 (jx (jr jM (pv 2) jf (λ_ _=>Z)))) (jg (zK (zc hr) (pv 1) (jx (jr jM (pv 2) jf (λ_ _=>Z))) (@Q5 _ _ _ _) Z)) jp) (jg (jv (j5 (jx (jr jM (pv 2) jf (λ_ _=>Z)))) (jg (jO (kn PySem.F.plainAttrs_dict PySem.F.slot_dict_update PySem.F.type_dict_update vH (pv 1) (ja (cS.e hr.m (ja (jx (jr jM (pv 2) jf (λ_ _=>Z))) jb)) jb)))) jp)))) (jg (jo (pv 1))))),?_]
 have b0:=aE
 obtain⟨c,g,e,ss,rfl,h1,h2,h3,h4⟩:=id hc
 have ft:=qh B
 have fl:=zu B
 have lt:=Kk B h4
 refine ai λF1 r=>λl R=>r _ _ ?_
 clear r
 have s1:ae H (af H l (.dK [])):=je R
 have l1:af H l (.dK []) l=some (.dK []):=jc
 generalize af H l (.dK [])=H1 at s1 l1 ⊢
 refine ai λF1 r=>eO λJ j=>(js (s1 _ _ h1) iA #[e,Z,#[_,aw.of (s1 _ _ h3)],j _ _ ?_])
 clear j
 refine qQ (K:=K) (a:=e) (xs:=ss) (Fj c l s H) #[none,[],Z,l1,λ_=>Z,Nat.le_refl _,s1] (λi σ I _ h=>?_) ?_ (λσ I h=>r _ _ ?_)
 ·obtain⟨_,_,_,_,_,_,b⟩:=h
  exact aw.of (b _ _ h3)
 ·intro E rt i x σ T h0 fE Gq N h
  clear r
  obtain⟨o2,D,rfl,W,w2,w3,L⟩:=h
  refine N ?_
  clear N
  obtain⟨w,p,hv,n0,v,h5,O,d0,U,rfl,hp,V⟩:=tL B h4 h0
  have t0:=ae.tm L
  have V:=V.mono t0
  have d:=L _ _ hp
  have eb:nE (s.tops.take (i+1))=nE (s.tops.take i)++(w::w.flat):=by rw[List.take_add_one,h5,JR];show _++(w::w.flat++[])=_;rw[List.append_nil]
  have lb:=X3 s.tops i
  rw[<- ft,fl]at lb
  have l0:=X3 s.tops (i+1)
  rw[<- ft,fl,eb,List.length_append,List.length_cons]at l0
  have nx:∀X I,I l=some (.dK X)->(∀x,(bg X (.inl x)).isSome=((bg D (.inl x)).isSome||nM (w::w.flat) x))->X.length<=D.length+1+w.flat.length->ae H I->E.nx [some (.ref c),some (.ref l),some (.ref p)] I:=λX I x1 x2 x3 x4=>fE _ _ #[_,X,Z,x1,λx=>by rw[x2,w2,eb,sr],by rw[eb,List.length_append,List.length_cons];omega,x4]
  have Y:∀b:Bool,b=(b||false):=λb=>by cases b<;>rfl
  show eV (gD _ _ _) (gD _ _ _) E [some (.ref c),some (.ref l),some (.ref p)] T
  cases w with
  |nil |st=>exact O.elim
  |ask b |wr b b'=>
   obtain⟨t,rfl,G⟩:=V
   refine ai λF1 r=>(js d iA #[t,_,_,_,Z,Z,aw.of G,eG,Z,_,Z,aS P6 (r _ _ ?_)])
   clear r
   exact(js d iA #[t,_,_,_,Z,Z,aw.of G,eG,Z,_,Z,aS P6 (nx D _ W (λx=>Y _) P0 L)])
  |rd C i'=>
   obtain⟨t,rfl,G⟩:=V
   refine ai λF1 r=>(js d iA #[t,_,_,_,Z,Z,aw.of G,eG,Z,_,Z,cn P6 #[_,Z,js d iA #[t,_,_,_,Z,Z,aw.of G,iz,l,_,Z,iP.k (k:=.inl C) W P0,r _ _ ?_]]])
   clear r
   have S:∀b o,b≠l->T b=some o->af T l (.dK (aY D (.inl C) (.bl true))) b=some o:=λb o nb e=>by rw[ji nb];exact e
   have e4:af T l (.dK (aY D (.inl C) (.bl true))) l=some (.dK (aY D (.inl C) (.bl true))):=jc
   generalize af T l (.dK (aY D (.inl C) (.bl true)))=H4 at S e4
   have pl:p≠l:=jk hp R
   have p0:t≠l:=jP G W (by intro z;cases z)
   have d:=S _ _ pl d
   have G:=S _ _ p0 G
   exact#[_,Z,p,_,_,_,Z,Z,aw.of d,iA,t,_,_,_,Z,Z,aw.of G,eG,Z,_,Z,aS P6 (nx _ _ e4 (λx=>by
    rw[Kd]
    show _=(_||(decide (C=x)||false))
    by_cases z:C=x
    ·rw[if_pos (by rw[z]),decide_eq_true z,Bool.true_or,Bool.or_true];rfl
    ·rw[if_neg (λy=>z (by injection y with y;exact y.symm)),decide_eq_false z,Bool.or_false,Bool.or_false]) (by have:=kO (kvs:=D) (k:=(.inl C:bh)) (v:=.bl true);omega) λb o e=>S _ _ (jk e R) (L _ _ e))]
  |cl f' i0 M a'=>
   obtain⟨t,c1,g',e1,y0,rfl,G,g2,g3,g4,g5⟩:=V
   refine ai λF1 r=>(js d iA #[t,_,_,_,Z,Z,aw.of G,eG,Z,_,Z,aS P6 (r _ _ ?_)])
   clear r
   refine(js d iA #[t,_,_,_,Z,Z,aw.of G,eG,Z,_,Z,cn P6 #[_,Z,.inr (.inr (.inl #[Z,.inl #[_,W]])),js d iA #[t,_,_,_,Z,Z,aw.of G,iz,f',i0,M,a',.ref c1,Z,#[c1,g',e1,y0,Z,g2,g3,g4,g5],O,by have:M.dep+1<=s.dep:=d0;omega,by have:M.size+1<=s.size:=U;omega,λl2 D2 H4 n1 e2 m2 l3 S=>#[l,l2,D,D2,Z,Z,S _ _ W,e2,λz=>(by rw[z,n1]at W;cases W),by have:M.size+1<=s.size:=U;omega,?_]]]])
   have f2:(Sk.cl f' i0 M a').flat.length=M.size:=zu (b:=false) O
   refine nx _ _ jc (λx=>by rw[Qy,m2];rfl) (by have:=kX D2 D;rw[f2];omega) λb o e=>?_
   rw[ji (jk e R)]
   exact S _ _ (L _ _ e)
 ·obtain⟨o2,D,rfl,W,w2,w3,L⟩:=h
  rw[lt,List.take_length,<- ft]at w2 w3
  exact#[_,Z,q l D I R W w2 P0 L]
noncomputable abbrev mW:Stmt:=bL 77
structure Xb(K:Frag)(mg:Str->Option Value)(B TL TD:Addr):Prop where
 g:mg "BookError"=some (.ref B)
 h:clsIn K B≠none
 t:typeIn K (.ref B)=some (.type "type")
 m:mroIn K B (.type "BaseException")=some true
 L:mroIn K TL (.ref B)=some true
 D:mroIn K TD (.ref B)=some true
section
open SeqAt
variable {X:Cx}
inductive rB(b:Bool)(x y:V)(H:Hp)(Q:VK):Prop
 |mk(a c d e:Addr)(u v:V)(l:Tr)(_:x= .ref a)(_:y= .ref c)(_:H a=some (.tup [u,.ref d]))(_:H c=some (.tup [v,.ref e]))(_:l.dep < 100)(_:l.In)(_:aM H (.tp l) u [])(_:aM H (.tp l) v [])(_:H d=some (.lst []))(_:H e=some (.lst []))(_:Q (.bl b) H)
theorem Co{p:List (Addr×Obj)}{f:_L.St}{H:Hp}{s:Shared}(I:ap X p f H s){L a:Addr}{u v:V}{l:Tr}{x y:Value}(o:X.A.units+102 < cLine)(q:l.dep < 100)(d:l.In)(B:l.isL=true)(t:aM H (.tp l) u [])(T:aM H (.tp l) v [])(h:H L=some (.lst []))(b:H a=some (.lst []))(r:aC u x)(R:aC v y)(j:Nat)(c:j < (List.toArray [x,Value.ref L]).size)(g:j < (List.toArray [y,Value.ref a]).size):EqAt X.A.in1 s ((List.toArray [x,Value.ref L])[j]) ((List.toArray [y,Value.ref a])[j]) true:=by
 match j,c,g with
 |0,_,_=>
  have z:=ui I 100 (.tp l) (A:=X.A.in1) (by show l.dep+1<=100;omega) (by show X.A.units+1+100 < cLine;omega) d Z (u:=.tp l) d Z t T _ _ r R
  rw[qE Z]at z
  exact z
 |1,_,_=>
  show EqAt X.A.in1 s (Value.ref L) (Value.ref a) true
  by_cases e:L=a
  ·rw[e];exact EqAt.same _
  ·obtain⟨C,i,k,_⟩:=I.list (aH.of (K:=X.K) h)
   obtain⟨D,m,n,_⟩:=I.list (aH.of (K:=X.K) b)
   cases i
   cases m
   exact EqAt.of_refs e (RcAt.lists (e:=λ_=>true) k.isList n.isList Z (by show X.A.units+1 < cLine;omega) λj c _=>absurd c P5)
theorem rX(f:X.A.units+102 < cLine):eN X (compareOp .NotEq) (rB false):=by
 intro p s M H x y V U Q I g i h
 obtain⟨a,c,N,O,u,v,l,rfl,rfl,k,m,n,o,t,T,b,d,q⟩:=h
 cases g
 cases i
 obtain⟨S,r,z,_⟩:=I.tuple (aw.of (K:=X.K) k)
 obtain⟨W,R,B,_⟩:=I.tuple (aw.of (K:=X.K) m)
 obtain⟨C,_⟩:=id t
 cases r with
 |cons D r=>
  cases r with
  |cons E r=>
   cases r
   cases R with
   |cons F R=>
    cases R with
    |cons G R=>
     cases R
     cases E
     cases G
     exact RcNeAt.tuples (e:=λ_=>true) (show s.heap.IsTuple a _ from z) (show s.heap.IsTuple c _ from B) P0 (λj J L=>Co I f n o C t T b d D F j J L) X.prog X.w _ _ #[.bl false,H,I,Z,q]
theorem AB(f:X.A.units+102 < cLine):eN X (compareOp .Eq) (rB true):=by
 intro p s M H x y V U Q I g i h
 obtain⟨a,c,N,O,u,v,l,rfl,rfl,k,m,n,o,t,T,b,d,q⟩:=h
 cases g
 cases i
 obtain⟨S,r,z,_⟩:=I.tuple (aw.of (K:=X.K) k)
 obtain⟨W,R,B,_⟩:=I.tuple (aw.of (K:=X.K) m)
 obtain⟨C,_⟩:=id t
 cases r with
 |cons D r=>
  cases r with
  |cons E r=>
   cases r
   cases R with
   |cons F R=>
    cases R with
    |cons G R=>
     cases R
     cases E
     cases G
     exact eq_tupleAt (e:=λ_=>true) (show s.heap.IsTuple a _ from z) (show s.heap.IsTuple c _ from B) P0 (λj J L=>Co I f n o C t T b d D F j J L) #[.bl true,H,I,Z,q]
end
theorem gR:aj ["_law_parts","_law_f","_law_args","_law_cells_here","_law_book_here"] z35z (aa mW):=bK
theorem rM{f:Addr}{W:FuncData}{B Y TD nA r:Addr}{l:FuncData}(F:aN K "_law_book" "_law_book" mW f W)(GR:ah P w K mg base (dP P w) 45 r l z26z (oh Y TD nA))(bR:au K l z26z [])(kR:keepIn K (.ref r)=true)(mR:mg "run"=some (.ref r))(X:Xb K mg B Y TD)(M:mg "dict"=none):ah P w K mg base ay 46 f W z35z (ls nA):=by
 refine F.ok gR ?_ λc0 A v s H vs Q E hr h=>?_
 ·rintro _ _ _ _ ⟨y,G,I,i,j,d,ds,ns,xs,p,is,rfl,_⟩
  rfl
 obtain⟨y,G,I,i,j,d,ds,ns,xs,p,is,rfl,c,q1,q2⟩:=h
 refine#[_,(jd (jy 4 gR.nd (@zH _ _ _)) (jd (@wu _ _ _ _ _ _ _ _ _ _ _ Z Z (@ww _ _ _ _ (4) _ _ gR.nd Z (Or.inl Z) (@rZ _ _ _ _ _ _ _ _ _ _ _ _ _ _ GR hr.m Z mR kR bR .nil (ja (pv 0) (ja (pv 1) (ja (pv 2) (ja (jD qf Z M boot_dict (ja (pv 3) jb)) (ja jf jb))))) PZ P7 P7) P7 (by first |exact .inl Z |exact .inr Z)) Z X.g X.h X.t X.m (λ_=>(jg (jy 4 gR.nd (@zH _ _ _)))) PZ) (jg (jo (pv 4))))),?_]
 refine ai λF1 k=>k _ _ ?_
 clear k
 refine ai λF1 k=>?_
 show yn _ _ _ _ _ [some (.ref y),some (.str d.f),some (.ref G),some (.ref I),some .non] H
 refine#[_,Z,_,Z,_,Z,_,Z,I,j,Z,c.ce,λO not=>?_]
 have S:ae H (af H O (.dK j)):=je not
 have e1:af H O (.dK j) O=some (.dK j):=jc
 generalize af H O (.dK j)=H1 at S e1 ⊢
 have c:=c.kp (Kp.of_same S)
 refine#[y,G,O,i,j,d,ds,ns,xs,p,is,Z,c.ps,c.hd,c.hn,c.ag,c.hi,e1,c.gc,λu sk a L' H2 q hc ok dp sz s2=>?_,λq=>?_,λq=>?_]
 ·obtain⟨c',z⟩:=id hc
  obtain⟨_,_,_,rfl,_⟩:=z
  exact k _ _ #[_,Z,q1 c' sk a L' H2 q hc ok dp sz (Kp.of_same (S.trans s2))]
 ·intro _ H7 J x C T R U hT V
  cases R
  refine#[X.L,λT' n=>k _ _ #[_,Z,q2 (λ_ _ _ _ z=>by rw[q]at z;cases z) _ ?_]]
  exactλb o N e=>JN (H:=H) (J _ _ N (S _ _ e)) N U n
 ·intro _ H7 J x C T R U hT V
  cases R
  refine#[X.D,λT' n=>k _ _ #[_,Z,q2 (λ_ _ _ _ z=>by rw[q]at z;cases z) _ ?_]]
  exactλb o N e=>JN (H:=H) (J _ _ N (S _ _ e)) N U n
noncomputable abbrev Bg:Stmt:=bL 80
theorem YK:∀{b:Bool} {s:Sk},s.ok b->(mx s).In
 |true,.nil,_=>trivial
 |true,.st n h w r,o=>#[#[Z,qN h,YK o.1,trivial],YK o.2]
 |false,.ask _,_=>#[Z,Z,trivial]
 |false,.rd _ _,_=>#[Z,Z,Z,trivial]
 |false,.wr _ _,_=>#[Z,Z,Z,trivial]
 |false,.cl f i s a,o=>#[Z,#[Z,qN i,YK (b:=true) o,Z,trivial],trivial]
theorem oV{f:Str}{i:List Int}{s:Sk}{a:Int}(o:s.ok true):(BP f i s a).In:=#[Z,qN i,YK (b:=true) o,Z,trivial]
structure Cm(K:Frag):Prop where
 tt:kitOne K (.type "tuple") (.type "tuple")=some true
 ll:kitOne K (.type "list") (.type "list")=some true
theorem JT{C C2:aJ}:∀(W:List Sk) (k:aJ),(∀x,nM W x=true->look C2 (.inl x) 0=look C (.inl x) 0)->iD C W k=iD C2 W k
 | [],_,_=>rfl
 |w::r,k,h=>by
  cases w with
  |wr c i=>exact JT r _ h
  |rd c i=>
   have H:=h c (by show(decide (c=c)||_)=true;rw[decide_eq_true Z];rfl)
   have a:=JT (C:=C) (C2:=C2) r k λx b=>h x (by show(decide (c=x)||nM r x)=true;rw[b,Bool.or_true])
   show(decide (look k (.inl c) (look C (.inl c) 0)=i)&&iD C r k)=(decide (look k (.inl c) (look C2 (.inl c) 0)=i)&&iD C2 r k)
   rw[H,a]
  |nil |st _ _ _ _ |ask _ |cl _ _ _ _=>exact JT r k h
theorem sw{p:List dq}{C c:aJ}{f:Str}{i:List Int}{s:Sk}{a:Int}{L:aJ}{t:Nat}(h:a8 p C 16 f i [] 0= .ok s a L t)(e:∀x,nM s.flat x=true->look c (.inl x) 0=look C (.inl x) 0):a8 p c 16 f i [] 0= .ok s a L t:=
 Xx 16 _ _ _ _ _ _ _ _ h (by rw[<- JT s.flat [] e];exact(Km 16 _ _ _ _ _ _ _ _ h).1)
inductive oi(l:Addr)(q:List V)(H:Hp)(Q:VK)(b:XK):Prop
 |mk(n c h p:Addr)(i:Nat)(f g:aJ)(o:Sk)(a:Int)(d:Df)(j:List Df)(m:List Nat)(r:List V)(e:List dq)(k:List Int)(_:q=[.ref n,.ref c,.ref h,.ref p])(_:Ps H l n j m r e)(_:j[i]?=some d)(_:m[i]?=some k.length)(_:∀z∈k,eK z)(_:H h=some (.dK f))(_:GT f)(_:f.length<=100)(_:eu H d.f k o a (.ref c))(_:o.ok true)(_:o.dep<=15)(_:a8 e f 16 d.f k [] 0= .ok o a g o.size)(_:o.size<=60)(_:aq H p)(_:∀H',aq H' p->aB p H H'->Q (.bl true) H')
inductive Fk(s c d p l:Addr)(a:aJ)(t:Sk)(H:Hp)(i:Nat)(u:_L.St)(b:Hp):Prop
 |mk(n o q r:Option V)(C:aJ)(e:u=[some (.ref s),some (.ref c),some (.ref d),some (.ref p),some (.ref l),n,o,q,r])(f:b l=some (.dK C))(g:GT C)(h:C.length<=100+i)(j:∀x,nM t.flat x=true->look C (.inl x) 0=look a (.inl x) 0)(k:aq b p)(m:aB p H b)
theorem pV{A:Around}{k:Nat}(h:bH k A):A.units+102 < cLine:=by have:=h.un;omega
theorem iK:aj ["_law_parts","_law_book_here","_law_cells_here","_law_box_here","_law_other","_law_k","_law_cell","_law_handed","_law_told"] z36z (aa Bg):=bK
theorem Av{f:Addr}{fd:FuncData}{nA fT fN fR fY:Addr}{f0 f2 f3 f4:FuncData}(F:aN K "_law_still" "_law_still" Bg f fd)(cT:Cl P w K mg base 1 fT f0 z0z aZ "_law_take")(cN:Cl P w K mg base 2 fN f2 z2z gJ "_law_number")(cR:Cl P w K mg base 18 fR f3 ["_law_chain"] (md 17) "_law_read")(cY:Cl P w K mg base 71 fY f4 z27z (lS nA) "again")(tk:Cm K)(m0:mg "dict"=none)(mr:mg "range"=none)(m1:mg "isinstance"=none)(m2:mg "tuple"=none)(m3:mg "list"=none):ah P w K mg base ay 72 f fd z36z (oi nA):=by
 refine F.ok iK ?_ λc0 A o1 s H vs Q E j h=>?_
 ·rintro _ _ _ _ ⟨pA,c,cA,p,i,I,L',L,a,d,ds,ns,xs,U,is,rfl,_⟩
  rfl
 obtain⟨pA,c,cA,p,i,I,L',L,a,d,ds,ns,xs,U,is,rfl,hP,hd,hn,h0,h5,h6,h',y,O,h1,h2,hz,B,q⟩:=h
 refine#[_,(jd (jy 4 iK.nd (jD qf Z m0 boot_dict (ja (pv 2) jb))) (jd (kr PassesOwn.never Z (km Z mr (ja jf jb)) (jw (i:=5) iK.nd Z (Or.inl Z)) (jd (jy 6 iK.nd (cT.e j.m (ja (pv 3) (ja jf jb)))) (jg (jv (QA (@Qj _ _ _ _ _ (zc j) (pv 6) (cR.e j.m (ja (pv 1) jb)))) (jg (zK (zc j) (pv 4) (pv 6) (cN.e j.m (ja (pv 3) jb)) Z)) (jg (jv (QA (@Qj _ _ _ _ _ (zc j) (pv 6) (pv 4))) (jg (zK (zc j) (pv 4) (pv 6) jf Z)) jp)))))) (jd (jy 7 iK.nd (jD qf Z m0 boot_dict (ja (pv 4) jb))) (jd (jy 8 iK.nd (cY.e j.m (ja (pv 0) (ja (pv 1) (ja (pv 4) (ja jf jb)))))) (jd (jv (PW.pt (Jm (XU (XT (jN Js Z m1 boot_isinstance (ja (pv 8) (ja (YL (v:=.ty "tuple") Z m2 boot_tuple Z) jb))))) (Jm (jz (rX (pV j)) (pv 8) (jh (ja (pv 1) (ja (jF jb) jb))) (aD _)) (Jm (jz (AF (Nat.lt_of_succ_lt (zc j))) (pv 4) (pv 7) (aD _)) (q9 (XU (XT (jN Js Z m1 boot_isinstance (ja (jx (pv 8)) (ja (YL (v:=.ty "list") Z m3 boot_list Z) jb)))))))))) (jg (jo (@Q5 _ _ _ _))) jp) (jd (jO (kn PySem.F.plainAttrs_list PySem.F.slot_list_append PySem.F.type_list_append jR (jx (pv 8)) (ja (jh (ja jf jb)) jb))) (jg (jo (JE (AB (pV j)) (cY.e j.m (ja (pv 0) (ja (pv 1) (ja (pv 4) (ja jf jb))))) (jh (ja (pv 1) (ja (jF jb) jb))) (aD _)))))))))),?_]
 have b0:=aE
 refine ai λF1 g=>#[_,Z,cA,I,Z,h5,λl nl=>g _ _ ?_]
 clear g
 have s1:ae H (af H l (.dK I)):=je nl
 have l1:af H l (.dK I) l=some (.dK I):=jc
 generalize af H l (.dK I)=H1 at s1 l1 ⊢
 have lp:l≠p:=B.ne nl
 refine ai λF1 g=>eO λJ jj=>#[4,Z,PZ,PZ,jj _ _ ?_]
 clear jj
 refine kJ (lo:=0) (n:=4) (Fk pA c cA p l I L H) #[_,_,_,_,I,Z,l1,h6,P0,λ_ _=>Z,B.same s1,aB.of_same s1] ?_ (λσ H' h=>g _ _ ?_)
 ·intro E rt i0 σ H3 a0 fE Gq kq h
  clear g
  obtain⟨o5,o6,o7,o8,C,rfl,w1,W,w3,w4,w5,w6⟩:=h
  refine kq ?_
  clear kq
  have V:=w6.tm B
  show eV _ (gD _ _ _) E [some (.ref pA),some (.ref c),some (.ref cA),some (.ref p),some (.ref l),some (.int ((0:Int)+i0)),o6,o7,o8] H3
  refine ai λF1 g=>#[_,Z,p,20,Z,w5,PZ,PZ,λr H4 d2 d3 B4 q4=>g _ _ ?_]
  clear g
  have b4:=w6.trans (aB.of_eq q4)
  have l4:H4 l=some (.dK C):=by rw[q4 _ lp];exact w1
  have t:=b4.tm B
  refine#[_,Z,_,Z,d.f,is,L,a,.ref c,Z,eu.mono' y t,O,P0,hz,λlr D H5 a1 e5 m5 CV M=>#[lr,_,Z,dH.k (k:=.inl r) e5,_,Z,?_]]
  have B5:=B4.same M
  have b5:=b4.trans (aB.of_same M)
  have l5:=M _ _ l4
  rw[m5]
  cases h7:nM L.flat r with
  |false=>
   refine cn Z #[_,Z,p,Z,B5,λd6 H6 d0 d1 B6 q6=>#[_,Z,_,Z,l,_,Z,iP.k (k:=.inl r) (by rw[q6 _ lp];exact l5) P0,fE _ _ #[_,_,_,_,aY C (.inl r) (.int d6),Z,jc,W.put _ #[d0,d1],by have:=kO (kvs:=C) (k:=(.inl r:bh)) (v:=.int d6);omega,λx N=>?_,?_,λb o nb e=>?_]]]
   ·rw[Xv,if_neg (λz=>by injection z with z;rw[z,h7]at N;cases N)]
    exact w4 x N
   ·exact B6.eq (ji lp.symm)
   ·rw[ji (jk e nl),q6 _ nb]
    exact b5 _ _ nb e
  |true=>
   refine aS Z #[_,Z,_,Z,l,_,Z,dH.k (k:=.inl r) l5,_,Z,?_]
   cases hv:bg C (.inl r) with
   |some v=>
    exact aS Z (fE _ _ #[_,_,_,_,C,Z,l5,W,P0,w4,B5,b5])
   |none=>
    refine cn Z #[_,Z,_,Z,l,_,Z,iP.k (k:=.inl r) l5 P0,fE _ _ #[_,_,_,_,aY C (.inl r) (.int 0),Z,jc,W.put _ qM,by have:=kO (kvs:=C) (k:=(.inl r:bh)) (v:=.int 0);omega,λx N=>?_,?_,λb o nb e=>?_]]
    ·rw[Xv]
     by_cases z:(.inl x:bh)= .inl r
     ·rw[if_pos z,<- w4 x N,z,Qv hv]
     ·rw[if_neg z]
      exact w4 x N
    ·exact B5.eq (ji lp.symm)
    ·rw[ji (jk e nl)]
     exact b5 _ _ nb e
 ·obtain⟨o5,o6,o7,o8,C,rfl,w1,W,w3,w4,w5,w6⟩:=h
  clear g
  have V:=w6.tm B
  have u:=sw h2 w4
  refine ai λF1 g=>#[_,Z,l,C,Z,w1,λl2 n3=>g _ _ ?_]
  clear g
  have s4:ae H' (af H' l2 (.dK C)):=je n3
  have e4:af H' l2 (.dK C) l2=some (.dK C):=jc
  generalize af H' l2 (.dK C)=H4 at s4 e4 ⊢
  have t:=V.trans (ae.tm s4)
  have R:=eu.mono' y t
  refine ai λF1 g=>#[_,Z,_,Z,_,Z,pA,l,c,i,C,L',L,a,d,ds,ns,xs,U,is,Z,hP.mono t,hd,hn,h0,s4 _ _ w1,W,R,O,u,hz,λtp lt v H5 a2 n4 G X h8 M=>g _ _ ?_]
  clear g
  have gi:∀x∈C,∃i,x.2= .int i:=λx N=>let #[i,e,_]:=W x N;#[i,e]
  have h3:=eu.mono' R (ae.tm M)
  refine ai λF1 g=>#[_,Z,_,.ty "tuple",_,.type "tuple",true,Z,Z,.tup G,tk.tt,_,Z,aS Z #[_,Z,_,Z,iF,λq1 n5=>#[bN,λq2 n0=>?_]]]
  have S:ae H5 (af (af H5 q1 (.lst [])) q2 (.tup [.ref c,.ref q1])):=(je n5).trans (je n0)
  refine#[tp,q2,lt,q1,v,.ref c,BP d.f is L a,Z,Z,S _ _ G,jc,X2 O h1,oV O,K8 (eu.mono' h8 (ae.tm S)) O,K8 (eu.mono' h3 (ae.tm S)) O,S _ _ X,ao jc n0,_,Z,aS Z ?_]
  refine#[_,Z,_,Z,l,l2,C,Z,Z,S _ _ (M _ _ (s4 _ _ w1)),S _ _ (M _ _ e4),gi,_,Z,aS Z ?_]
  refine#[_,Z,tp,_,_,_,Z,Z,aw.of (S _ _ G),iz,_,.ty "list",_,.type "list",true,Z,Z,.lst (S _ _ X),tk.ll,_,Z,aS Z (g _ _ ?_)]
  clear g
  generalize af (af H5 q1 (.lst [])) q2 (.tup [.ref c,.ref q1])=H6 at S
  have T:=S _ _ X
  refine ai λF1 g=>(js (S _ _ G) iz #[.inl #[Z,_,aH.of T],iG,λq3 n1=>#[lt,_,_,Z,Z,ao T n1,(by show 0 < sizeLine;omega),g _ _ ?_]])
  clear g
  have b7:∀b o,b≠lt->H6 b=some o->af (af H6 q3 (.tup [.int 0])) lt (.lst ([]++[.ref q3])) b=some o:=λb o nb e=>by rw[ji nb];exact ao e n1
  generalize af (af H6 q3 (.tup [.int 0])) lt (.lst ([]++[.ref q3]))=H7 at b7 ⊢
  have l0:H4 lt=none:=n4
  have Y:ae H4 H7:=λb o e=>b7 _ _ (jk e l0) (S _ _ (M _ _ e))
  have t0:=t.trans (ae.tm Y)
  refine#[_,Z,_,Z,_,Z,pA,l,c,i,C,L',L,a,d,ds,ns,xs,U,is,Z,hP.mono t0,hd,hn,h0,Y _ _ (s4 _ _ w1),W,eu.mono' y t0,O,u,hz,λt1 l3 v2 H8 n7 n' e0 e1 h4 s8=>?_]
  refine#[_,Z,iF,λq4 n6=>#[bN,λq5 n2=>?_]]
  have s9:ae H8 (af (af H8 q4 (.lst [])) q5 (.tup [.ref c,.ref q4])):=(je n6).trans (je n2)
  have S9:=(s4.trans Y).trans (s8.trans s9)
  refine#[t1,q5,l3,q4,v2,.ref c,BP d.f is L a,Z,Z,s9 _ _ e0,jc,X2 O h1,oV O,K8 (eu.mono' h4 (ae.tm s9)) O,K8 (eu.mono' y (V.trans (ae.tm S9))) O,s9 _ _ e1,ao jc n2,q _ (w5.same S9) (w6.trans (aB.of_same S9))]
inductive Fe(a r m k e c l:Addr)(d:Df)(H:Hp)(i:Nat)(n:_L.St)(b:Hp):Prop
 |mk(j:Option V)(f:n=[some (.ref a),some (.ref r),some (.str d.f),some (.ref m),some (.ref k),some (.ref e),some (.ref c),some (.ref l),j])(g:aq b l)(h:aB l H b)
theorem fj:aj ["_law_script","_law_program","_law_f","_law_args","_law_parts","_law_cells_here","_law_book_here","_law_box_here","_law_k"] ["_law_script"] (aa mX):=bK
theorem Ap{f:Addr}{fd:FuncData}{nA fB fK fM fC fU fY fW:Addr}{f0 f2 f3 f4 f5 f6 f7:FuncData}(F:aN K "law" "law" mX f fd)(cB:Cl P w K mg base 1 fB f0 ["_law_script","_law_k"] (n8 K) "_law_box")(cK:Cl P w K mg base 23 fK f2 z2z lh "_law_case")(cM:Cl P w K mg base 65 fM f3 ["program"] (lv K nA) "made")(cC:Cl P w K mg base 3 fC f4 z2z gV "_law_cells")(cU:Cl P w K mg base 46 fU f5 z35z (ls nA) "_law_book")(cY:Cl P w K mg base 71 fY f6 z27z (lS nA) "again")(cW:Cl P w K mg base 72 fW f7 z36z (oi nA) "_law_still")(m0:mg "dict"=none)(mr:mg "range"=none):ah P w K mg base ay 73 f fd ["_law_script"] (lY K):=by
 refine F.ok fj ?_ λc0 A o1 s H vs Q E j h=>?_
 ·rintro _ _ _ _ ⟨a,ns,rfl,_⟩
  rfl
 obtain⟨a,ns,rfl,hS,a4,q⟩:=h
 refine#[_,(jd (zb (cK.e j.m (ja (cB.e j.m (ja (pv 0) (ja jf jb))) jb)) (zV (n:=3) Z (jB (jw (i:=1) fj.nd Z (Or.inl Z)) (jB (jw (i:=2) fj.nd Z (Or.inl Z)) (jB (jw (i:=3) fj.nd Z (Or.inl Z)) kN))))) (jd (jy 4 fj.nd (cM.e j.m (ja (pv 1) jb))) (jd (jy 5 fj.nd (cC.e j.m (ja (cB.e j.m (ja (pv 0) (ja jf jb))) jb))) (jd (jy 6 fj.nd (cU.e j.m (ja (pv 4) (ja (pv 2) (ja (pv 3) (ja (pv 5) jb)))))) (jd (jv (jz QB (pv 6) (@zH _ _ _) (aD _)) (jg (jo (@Q5 _ _ _ _))) jp) (jd (jy 7 fj.nd (cB.e j.m (ja (pv 0) (ja jf jb)))) (jd (kr PassesOwn.never Z (km Z mr (ja jf jb)) (jw (i:=8) fj.nd Z (Or.inl Z)) (jg (jv (PW.pt (Jm (jz (rX (pV j)) (cY.e j.m (ja (pv 4) (ja (pv 6) (ja (jD qf Z m0 boot_dict (ja (pv 5) jb)) (ja jf jb))))) (jh (ja (pv 6) (ja (jF jb) jb))) (aD _)) (q9 (XU (XT (cW.e j.m (ja (pv 4) (ja (pv 6) (ja (pv 5) (ja (pv 7) jb)))))))))) (jg (jo (@Q5 _ _ _ _))) jp))) (jg (jo (@Q5 _ _ _ _)))))))))),?_]
 have b0:=aE
 refine ai λG g=>#[_,Z,a,ns,1,Z,hS,PZ,PZ,λp H1 np B1 e1=>#[p,Z,B1,λt r v2 v3 Y x0 H3 ht j hD h1 h8 nl hN h0 h2 B3 k3=>#[t,_,Z,aw.of ht,Z,_,_,Z,_,_,Z,_,_,Z,Z,g _ _ ?_]]]
 clear g
 have s1:ae H H1:=λb o e=>by rw[e1 b (jk e np)];exact e
 have s3:ae H H3:=λb o e=>k3 _ _ (jk e np) (s1 _ _ e)
 obtain⟨d,ps,ta,I,hd,rfl,h3,rfl,h4,h5,L,M⟩:=h2
 show eV (dO _ _) _ _ [some (.ref a),some (.ref r),some (.str d.f),some (.ref ta),none,none,none,none,none] H3
 refine ai λG g=>#[_,Z,r,Y,x0,Z,j,hD,P0,λd hd=>(hN.1 d hd).1,λv H4 hv s4=>g _ _ ?_]
 clear g
 obtain⟨N,X,rfl,h6,h7⟩:=JP hv
 have S4:=s3.trans s4
 refine ai λG g=>#[_,Z,a,ns,2,Z,S4.seq hS,PZ,PZ,λp5 H5 n0 B5 e5=>#[p5,Z,B5,λR T H6 n5 h' gC lC B6 k6=>g _ _ ?_]]
 clear g
 have s6:ae H4 H6:=λb o e=>k6 _ _ (jk e n0) (by rw[e5 b (jk e n0)];exact e)
 have S6:=S4.trans s6
 have U:=ae.tm (s4.trans s6)
 obtain⟨i0,hi,ei⟩:=List.mem_iff_getElem.mp hd
 have B:Y[i0]?=some d:=by rw[<- ei];exact List.getElem?_eq_getElem hi
 have C:=AM h0 B h3
 rw[<- h5]at C
 obtain⟨k,hP⟩:=Dm (s6 _ _ h6) (h7.mono (ae.tm s6)) #[x0,hD.mono U] hN (h0.mono U)
 have lx:=kW hP.tr
 rw[List.length_map]at lx
 have ak:BS H6 nA N ta R i0 T d Y nl X k I:=#[hP,P0,B,C,U _ _ h4,M,L,h',gC]
 have kS:Kp H H6:=Kp.of_same S6
 refine ai λG g=>?_
 suffices go:∀(ch:V) (y:Hp),Kp H6 y->(ch= .non∨∃c S b L',ch= .ref c/\eu y d.f I S b (.ref c)/\S.ok true/\S.dep<=15/\S.size<=60/\a8 k T 16 d.f I [] 0= .ok S b L' S.size)->G [some (.ref a),some (.ref r),some (.str d.f),some (.ref ta),some (.ref N),some (.ref R),some ch,none,none] y by
  clear g
  exact#[_,Z,_,Z,_,Z,_,Z,N,ta,R,i0,T,d,Y,nl,X,k,I,Z,ak,λc S b L' y eq hc O dp sz k7=>go _ y k7 (.inr #[c,S,b,L',Z,hc,O,dp,sz,eq]),λno y k7=>go _ y k7 (.inl Z)]
 intro ch y k7 rv
 refine g _ _ ?_
 clear g
 have a1:=ak.kp k7
 have k1:=kS.trans k7
 refine ai λG g=>#[_,Z,Z,_,Z,?_]
 rcases rv with rfl | ⟨c,S,b,L',rfl,a2,O,dp,sz,eq⟩
 ·exact cn (decide_eq_true Z) (q _)
 refine aS (decide_eq_false (by intro z;cases z)) (g _ _ ?_)
 clear g
 refine ai λG g=>#[_,Z,a,ns,3,Z,k1.seq hS,PZ,PZ,λpB HA n1 BA eA=>g _ _ ?_]
 clear g
 have sA:ae y HA:=λb o e=>by rw[eA b (jk e n1)];exact e
 refine ai λG g=>eO λJ jj=>#[3,Z,PZ,PZ,jj _ _ ?_]
 clear jj
 refine kJ (lo:=0) (n:=3) (Fe a r ta N R c pB d HA) #[_,Z,BA,aB.refl] ?_ (λσ H' h=>g _ _ ?_)
 ·intro E rt k0 σ H8 a' fE Gq kq h
  clear g
  obtain⟨o8,rfl,B8,b8⟩:=h
  refine kq ?_
  clear kq
  have S8:ae y H8:=λx o e=>b8 _ _ (jk e n1) (sA _ _ e)
  have W:=a1.kp (Kp.of_same S8)
  have D:=eu.mono' a2 (ae.tm S8)
  show gD _ _ _ E [some (.ref a),some (.ref r),some (.str d.f),some (.ref ta),some (.ref N),some (.ref R),some (.ref c),some (.ref pB),some (.int ((0:Int)+k0))] H8
  refine uF λG1 yT yF=>#[_,Z,_,Z,_,Z,R,T,Z,W.ce,λl2 n3=>?_]
  have s9:ae H8 (af H8 l2 (.dK T)):=je n3
  have t0:=ae.tm s9
  refine#[N,l2,c,i0,T,L',S,b,d,Y,nl,X,k,I,Z,W.ps.mono t0,B,C,M,jc,gC,eu.mono' D t0,O,eq,sz,λtp lt v HB n6 n7 e0 e2 a3 sB=>?_]
  refine#[_,Z,iF,λq1 n4=>#[bN,λq2 n2=>?_]]
  have sC:ae HB (af (af HB q1 (.lst [])) q2 (.tup [.ref c,.ref q1])):=(je n4).trans (je n2)
  have l:=(s9.trans sB).trans sC
  have u:=eu.mono' D (ae.tm l)
  refine#[tp,q2,lt,q1,v,.ref c,BP d.f I S b,Z,Z,sC _ _ e0,jc,X2 O dp,oV O,K8 (eu.mono' a3 (ae.tm sC)) O,K8 u O,sC _ _ e2,ao jc n2,_,Z,aS Z ?_]
  generalize af (af HB q1 (.lst [])) q2 (.tup [.ref c,.ref q1])=HC at sC l u
  have a0:=W.kp (Kp.of_same l)
  refine#[_,Z,_,Z,_,Z,_,Z,N,c,R,pB,i0,T,L',S,b,d,Y,nl,X,k,I,Z,a0.ps,B,C,M,a0.ce,gC,P0,u,O,dp,eq,sz,B8.same l,λHD BD kD=>#[_,Z,yF _ (fE _ _ #[_,Z,BD,(b8.trans (aB.of_same l)).trans kD])]]
 ·exact q _
theorem C3{f:Addr}{F:FuncData}{k:Nat}:ah P w K mg base ay k f F ["_law_chain"] (md 0):=by
 have n:∀{v H Q E},¬md 0 v H Q E:=by
  rintro v H Q E ⟨f,i,s,a,u,_,_,_,z,_⟩
  omega
 exact#[λv H Q E h=>(n h).elim,λA o s H b U v Q E c d e g h=>(n h).elim]
theorem Fu{f:Addr}{a:FuncData}(F:aN K "_law_read" "_law_read" Ea f a)(b:au K a ["_law_chain"] [])(m:mg "_law_read"=some (.ref f)):∀n,ah P w K mg base ay (n+1) f a ["_law_chain"] (md n)
 |0=>C3
 |n+1=>Dc F #[(Fu F b m n),b,F.kp,m]
theorem C0{f:Addr}{F:FuncData}{k:Nat}{C n:Addr}:ah P w K mg base ay k f F z15z (lT C n 0):=by
 have N:∀{v H Q E},¬lT C n 0 v H Q E:=by
  rintro v H Q E ⟨r,g,j,l,m,q,p,c,u,D,t,i,L,x,y,S,a,d,B,G,X,e,I,_,_,z,_⟩
  omega
 exact#[λv H Q E h=>(N h).elim,λA o s H b U v Q E J M O R h=>(N h).elim]
theorem Fo{C T A N p B D G q fP fN fG fL fI fK fF:Addr}{f F a c d r s t u v x y:FuncData}(z:RK K C)(I:aV K C "anew")(J:aN K "chain_along" "AgainRun.chain_along" wD p f)(L:au K f z15z [])(M:a5 K C "chain_along" p)(O:aN K "what_along" "AgainRun.what_along" wE B F)(R:au K F z23z [])(e:a5 K C "what_along" B)
  (S:∀j,ah P w K mg base (dP P w) (2*j+13) D a z10z (gB C T A N j)) (U:au K a z10z []) (i:a5 K C "what_of" D) (GT:ah P w K mg base (dP P w) 1 G c ["self"] (d9 C T)) (V:au K c ["self"] []) (l:a5 K C "take_turn" G) (W:ah P w K mg base (dP P w) 1 q d ["deep"] (cX A)) (X:au K d ["deep"] []) (Y:keepIn K (.ref q)=true) (mD:mg "deeper"=some (.ref q)) (cP:Cl P w K mg base 4 fP r z8z ma "paths_at")
  (cN:Cl P w K mg base 2 fN s ["parts","f"] ij "part_of") (cG:Cl P w K mg base 1 fG t ["chain","number"] lX "goal_at") (cL:Cl P w K mg base 1 fL u ["steps","mark","cut"] ii "like_from") (cI:Cl P w K mg base 1 fI v ["what"] lV "deed_in") (n:Cl P w K mg base 1 fK x ["steps","at"] me "chain_taken") (cF:Cl P w K mg base 1 fF y ["what"] h9 "found_in") (ml:mg "len"=none) (o:mg "tuple"=none):∀j,ah P w K mg base ay (2*j+38) p f z15z (lT C N j)
 |0=>C0
 |j+1=>C5 J z cN cG cL cI #[n.g.imp λvs H Q E h=>FT h,n.b,n.k,n.m] cF (C6 O z I (Kn (S j)) U i (Kn GT) V l (Fo z I J L M O R e S U i GT V l W X Y mD cP cN cG cL cI n cF ml o j) L M #[Kn W,X,Y,mD] cP) R e ml o
@[elab_as_elim] theorem FX{P:List Value->Prop}(u:List Value)(h:u.length=1)(q:∀a,P [a]):P u:=by
 cases u with
 |nil=>cases h
 |cons a r=>
  cases r with
  |nil=>exact q a
  |cons _ _=>cases h
theorem _root_._L.aN.b1{K:Frag}{x q:Str}{st:Stmt}{f:Addr}{g:FuncData}{p:List Str}(F:aN K x q st f g)(h:∀(kV d b:Value) (A:Option Addr) (c C a:Value),bindArgs (fnOf x q (bJ st) (bo st) (aa st) .none kV d b A c C) #[[a],[]]=pure (p.zip [a]):=by intros;rfl)(e:p.length=1:=by rfl):au K g p []:=F.binds λkV d b A c C u H=>FX u (H.trans e) λa=>h kV d b A c C a
@[elab_as_elim] theorem FY{P:List Value->Prop}(u:List Value)(h:u.length=2)(q:∀a b,P [a,b]):P u:=by
 cases u with
 |nil=>cases h
 |cons a r=>
  cases r with
  |nil=>cases h
  |cons b R=>
   cases R with
   |nil=>exact q a b
   |cons _ _=>cases h
theorem _root_._L.aN.b2{K:Frag}{x q:Str}{st:Stmt}{f:Addr}{i:FuncData}{p:List Str}(F:aN K x q st f i)(h:∀(kV d g:Value) (A:Option Addr) (c C a b:Value),bindArgs (fnOf x q (bJ st) (bo st) (aa st) .none kV d g A c C) #[[a,b],[]]=pure (p.zip [a,b]):=by intros;rfl)(e:p.length=2:=by rfl):au K i p []:=F.binds λkV d g A c C u H=>FY u (H.trans e) λa b=>h kV d g A c C a b
@[elab_as_elim] theorem F8{P:List Value->Prop}(u:List Value)(h:u.length=3)(q:∀a b c,P [a,b,c]):P u:=by
 cases u with
 |nil=>cases h
 |cons a r=>
  cases r with
  |nil=>cases h
  |cons b R=>
   cases R with
   |nil=>cases h
   |cons c d=>
    cases d with
    |nil=>exact q a b c
    |cons _ _=>cases h
theorem _root_._L.aN.b3{K:Frag}{x q:Str}{st:Stmt}{f:Addr}{j:FuncData}{p:List Str}(F:aN K x q st f j)(h:∀(kV d g:Value) (A:Option Addr) (C i a b c:Value),bindArgs (fnOf x q (bJ st) (bo st) (aa st) .none kV d g A C i) #[[a,b,c],[]]=pure (p.zip [a,b,c]):=by intros;rfl)(e:p.length=3:=by rfl):au K j p []:=F.binds λkV d g A C i u H=>F8 u (H.trans e) λa b c=>h kV d g A C i a b c
@[elab_as_elim] theorem F'{P:List Value->Prop}(u:List Value)(h:u.length=4)(q:∀a b c d,P [a,b,c,d]):P u:=by
 cases u with
 |nil=>cases h
 |cons a r=>
  cases r with
  |nil=>cases h
  |cons b R=>
   cases R with
   |nil=>cases h
   |cons c e=>
    cases e with
    |nil=>cases h
    |cons d f=>
     cases f with
     |nil=>exact q a b c d
     |cons _ _=>cases h
theorem _root_._L.aN.b4{K:Frag}{x q:Str}{st:Stmt}{f:Addr}{j:FuncData}{p:List Str}(F:aN K x q st f j)(h:∀(kV D g:Value) (A:Option Addr) (C i a b c d:Value),bindArgs (fnOf x q (bJ st) (bo st) (aa st) .none kV D g A C i) #[[a,b,c,d],[]]=pure (p.zip [a,b,c,d]):=by intros;rfl)(e:p.length=4:=by rfl):au K j p []:=F.binds λkV D g A C i u H=>F' u (H.trans e) λa b c d=>h kV D g A C i a b c d
@[elab_as_elim] theorem Ga{P:List Value->Prop}(u:List Value)(h:u.length=5)(q:∀a b c d e,P [a,b,c,d,e]):P u:=by
 cases u with
 |nil=>cases h
 |cons a r=>
  cases r with
  |nil=>cases h
  |cons b R=>
   cases R with
   |nil=>cases h
   |cons c f=>
    cases f with
    |nil=>cases h
    |cons d g=>
     cases g with
     |nil=>cases h
     |cons e i=>
      cases i with
      |nil=>exact q a b c d e
      |cons _ _=>cases h
theorem _root_._L.aN.b5{K:Frag}{x q:Str}{st:Stmt}{f:Addr}{j:FuncData}{p:List Str}(F:aN K x q st f j)(h:∀(kV D g:Value) (A:Option Addr) (C i a b c d e:Value),bindArgs (fnOf x q (bJ st) (bo st) (aa st) .none kV D g A C i) #[[a,b,c,d,e],[]]=pure (p.zip [a,b,c,d,e]):=by intros;rfl)(e:p.length=5:=by rfl):au K j p []:=F.binds λkV D g A C i u H=>Ga u (H.trans e) λa b c d e=>h kV D g A C i a b c d e
def dI(K:Frag)(p q:Str)(st:Stmt)(f:Addr):Prop:=∃(o:Value) (O:Option Addr) (kV d a:Value) (A:Option Addr) (c C:Value) (s:Array (Option Value)),K.lookup f=some #[o,O,.func (fnOf p q (bJ st) (bo st) (aa st) .none kV d a A c C),s]/\codeIn K c q=true/\keepIn K (.ref f)=true
def b6(K:Frag)(p:Str)(st:Stmt)(f:Addr):Prop:=nsIn K mainGlobals p=some (some (.ref f))/\dI K p p st f
section
variable {K:Frag}{py q:Str}{st:Stmt}{f:Addr}{oc:Value}{od:Option Addr}{kV dc pm:Value}{an:Option Addr}{cd ct:Value}{sl:Array (Option Value)}
theorem Fp(l:K.lookup f=some #[oc,od,.func (fnOf py q (bJ st) (bo st) (aa st) .none kV dc pm an cd ct),sl])(c:codeIn K cd q=true)(k:keepIn K (.ref f)=true):dI K py q st f:=#[_,_,_,_,_,_,_,_,_,l,c,k]
theorem EV(a:nsIn K mainGlobals py=some (some (.ref f)))(l:K.lookup f=some #[oc,od,.func (fnOf py py (bJ st) (bo st) (aa st) .none kV dc pm an cd ct),sl])(c:codeIn K cd py=true)(k:keepIn K (.ref f)=true):b6 K py st f:=#[a,Fp l c k]
theorem dI.go(h:dI K py q st f):∃F,aN K py q st f F/\keepIn K (.ref f)=true:=by
 obtain⟨oc,od,kV,dc,pm,an,cd,ct,sl,l,c,k⟩:=h
 exact#[_,pM l c k,k]
theorem b6.go{h:Heap}{mg:Str->Option Value}(t:b6 K py st f)(X:K.In h)(G:h.Ns mainGlobals mg):∃a,aN K py py st f a/\keepIn K (.ref f)=true/\mg py=some (.ref f):=by
 obtain⟨a,F,k⟩:=t.2.go
 exact#[a,F,k,mg_of X G t.1]
end
theorem yz{l:PySem.W.OpenLaw}{w:World}{K:Frag}{h:Heap}{mg:Str->Option Value}{fa f0 d0 w' f3 x1 d1 d2 d3 f4 d4 d5 d6 d7 d8 d' e2 e3 e4 x2 e5 e6 e7 e8 e9 e' g0 g1 g2 g4 g5 g6 g7 g8 g' h0 h1 h2 f5 h3 h4 h5 h6 h7 h8 h' i0 i1 i2 i3 i4 i' j0 j1 j2 fZ f6 f7 k7 k8 k9 f1 M O Q f9 f2 f' a2 k' r f C c0 c xB B E:Addr}(X:K.In h)(G:h.Ns mainGlobals mg)(x3:mg "law"=some (.ref fa))
  {x4:Option Addr} {nN:Nat} {x5:Array (Option Value)} {x7 x8 t0 tD:Tok} {l0:ClassData} {o1:Value} {o2:Option Addr} {s0:Array (Option Value)} {l1:ClassData} {o3:Value} {o4:Option Addr} {s1:Array (Option Value)} {l2:ClassData} {o5:Value} {o6:Option Addr} {s2:Array (Option Value)}
  (x9:b6 K "names_in" dY f0)
  (x':b6 K "own_terms" Bc d0)
  (y0:b6 K "used_behind_terms" sS w')
  (y1:b6 K "used_ahead_of" wN f3)
  (y2:b6 K "used_ahead" wM x1)
  (y3:b6 K "bodies_in" A0 d1)
  (y5:b6 K "many_cuts" sK d2)
  (y':b6 K "deed_of" sH d3)
  (z8:b6 K "place_of_give" i8 f4)
  (z':b6 K "place_of_set" sM d4)
  (A1:b6 K "part_made" sL d5)
  (A2:b6 K "made" nQ d6)
  (A3:b6 K "_law_box" A5 d7)
  (uH:b6 K "_law_take" sR d8)
  (A4:b6 K "_law_number" i5 d')
  (A9:b6 K "_law_names" gZ e2)
  (A':b6 K "_law_term" nU e3)
  (B1:b6 K "_law_spot" sN e4)
  (B2:b6 K "_law_statement" sO x2)
  (B3:b6 K "_law_body" nO e5)
  (B4:b6 K "_law_any" AZ e6)
  (dG:b6 K "_law_op" EG e7)
  (B5:b6 K "_law_inner" mV e8)
  (B6:b6 K "_law_looped" gO e9)
  (B7:b6 K "_law_ticking" ff e')
  (B8:b6 K "_law_busy" sE g0)
  (B9:b6 K "_law_case" nP g1)
  (B':b6 K "joined" iY g2)
  (C2:b6 K "worth" i9 g4)
  (C':b6 K "named" iZ g5)
  (D2:b6 K "begun" mO g6)
  (D':b6 K "deeper" iV g7)
  (E1:b6 K "part_of" i7 g8)
  (E2:b6 K "cut_at" mQ g')
  (E3:b6 K "held_at" iX h0)
  (E4:b6 K "worths" gQ h1)
  (E5:b6 K "deed_at" iU h2)
  (E6:b6 K "found_in" fe f5)
  (E7:b6 K "end_of" iW h3)
  (E8:b6 K "first_of" gY h4)
  (E9:b6 K "onward" i6 h5)
  (E':b6 K "run" Bf h6)
  (H0:b6 K "whats_at" wP h7)
  (H1:b6 K "whats_in" wQ h8)
  (H2:b6 K "paths_at" wK h')
  (H3:b6 K "deed_in" A6 i0)
  (H4:b6 K "goal_at" A7 i1)
  (H5:b6 K "like_from" sJ i2)
  (H6:b6 K "chain_taken" Bh i3)
  (H7:b6 K "again" AY i4)
  (H8:b6 K "_law_cells" mP i')
  (H9:b6 K "_law_book" mW j0)
  (H':b6 K "_law_read" Ea j1)
  (BR:b6 K "_law_still" Bg j2)
  (tZ:b6 K "law" mX fZ)
  (I1:nsIn K mainGlobals "NOUGHT"=some (some (.ref r))) (I2:K.lookup r=some #[.type "tuple",x4,.seq (List.toArray [.str "num" x7,.int 0 x8]) nN,x5]) (I3:nsIn K mainGlobals "Cutting"=some (some (.ref f))) (v1:nsIn K mainGlobals "TOP"=some (some (.int 1000000000000000000 t0))) (vD:nsIn K mainGlobals "DEEPEST"=some (some (.int 15 tD))) (vR:nsIn K mainGlobals "BookRun"=some (some (.ref C))) (vT:nsIn K mainGlobals "Turns"=some (some (.ref c0))) (vL:nsIn K mainGlobals "AgainRun"=some (some (.ref c))) (vB:nsIn K mainGlobals "BookError"=some (some (.ref xB)))
  (I4:nsIn K mainGlobals "TooLong"=some (some (.ref B)))
  (I5:nsIn K mainGlobals "TooDeep"=some (some (.ref E)))
  (I6:K.lookup B=some #[o1,o2,.cls l0,s0]) (t1:typeIn K (.ref B)=some (.type "type")) (mbxL:mroIn K B (.type "BaseException")=some true) (l3:keepIn K (.ref B)=true)
  (I7:K.lookup E=some #[o3,o4,.cls l1,s1]) (t2:typeIn K (.ref E)=some (.type "type")) (mbxD:mroIn K E (.type "BaseException")=some true) (l4:keepIn K (.ref E)=true)
  (I':K.lookup xB=some #[o5,o6,.cls l2,s2]) (t3:typeIn K (.ref xB)=some (.type "type")) (l5:mroIn K xB (.type "BaseException")=some true) (J0:mroIn K B (.ref xB)=some true) (K1:mroIn K E (.ref xB)=some true)
  (e0:excIn K B oA "ValueError.__new__"=true) (e1:excIn K E oA "ValueError.__new__"=true)
  (X':oR K B) (l6:oR K E)
  (rk:RK K C) (K3:Mk K C Q) (tm:oM K c0 "__init__" f1) (l':a5 K C "take_turn" M) (n2:a5 K C "number_in" O) (m6:a5 K C "chain_of" f9) (n3:a5 K C "what_of" f2)
  (ra:RK K c) (n6:aV K c "anew") (K4:Mk K c f') (K5:oM K C "__init__" Q) (R:a5 K c "take_turn" M) (m7:a5 K c "number_in" O) (m8:a5 K c "chain_of" f9) (m9:a5 K c "what_of" f2) (m':a5 K c "chain_along" a2) (n4:a5 K c "what_along" k')
  (ck:CK K f) (mk:Mk K f f6) (n5:a5 K f "place_of_body" f7) (L0:a5 K f "place_of" k7) (L1:a5 K f "place_of_cut" k8) (L3:a5 K f "ways_of" k9)
  (L4:dI K "__init__" "Cutting.__init__" sI f6)
  (L5:dI K "place_of_body" "Cutting.place_of_body" wH f7)
  (L6:dI K "place_of" "Cutting.place_of" wL k7)
  (L7:dI K "place_of_cut" "Cutting.place_of_cut" wI k8)
  (L8:dI K "ways_of" "Cutting.ways_of" wO k9)
  (L':dI K "__init__" "Turns.__init__" sP f1)
  (N1:dI K "take_turn" "Turns.take_turn" mY M)
  (N2:dI K "number_in" "Turns.number_in" sQ O)
  (N3:dI K "__init__" "BookRun.__init__" sD Q)
  (N':dI K "chain_of" "BookRun.chain_of" wF f9)
  (O':dI K "what_of" "BookRun.what_of" wG f2)
  (P1:dI K "__init__" "AgainRun.__init__" sy f')
  (P4:dI K "chain_along" "AgainRun.chain_along" wD a2)
  (P8:dI K "what_along" "AgainRun.what_along" wE k')
  (z4:nsIn K mainGlobals "len"=some none)
  (z5:nsIn K mainGlobals "int"=some none)
  (z0:nsIn K mainGlobals "range"=some none)
  (z2:nsIn K mainGlobals "list"=some none)
  (x:nsIn K mainGlobals "reversed"=some none)
  (z1:nsIn K mainGlobals "tuple"=some none)
  (S:nsIn K mainGlobals "sorted"=some none)
  (z6:nsIn K mainGlobals "set"=some none)
  (z7:nsIn K mainGlobals "zip"=some none)
  (z3:nsIn K mainGlobals "dict"=some none)
  (t:nsIn K mainGlobals "enumerate"=some none)
  (p:nsIn K mainGlobals "isinstance"=some none)
  (tk:Cm K)
  :∃fd:FuncData,(∀(s:Shared) (v:Value),BindsTo s fd #[[v],[]] [("_law_script",v)])/\∀base:Heap,K.In base->base.Ns mainGlobals mg->ah l.prog w K mg base ay 73 fa fd ["_law_script"] (lY K):=by
 have e:=x3.symm.trans (mg_of X G tZ.1)
 cases e
 obtain⟨P9,y,k0,T⟩:=x9.go X G
 obtain⟨dOw,n7,P',Q'⟩:=x'.go X G
 obtain⟨dUb,n',kUb,R0⟩:=y0.go X G
 obtain⟨dUo,F4,o7,a3⟩:=y1.go X G
 obtain⟨dUa,o8,kUa,R1⟩:=y2.go X G
 obtain⟨dBi,o9,R3,R4⟩:=y3.go X G
 obtain⟨dMc,a4,o',p0⟩:=y5.go X G
 obtain⟨dDe,p1,R5,R6⟩:=y'.go X G
 obtain⟨dPg,F5,p2,p3⟩:=z8.go X G
 obtain⟨dPs,p4,R7,R8⟩:=z'.go X G
 obtain⟨dPm,p5,R9,R'⟩:=A1.go X G
 obtain⟨dMa,p6,S0,S1⟩:=A2.go X G
 obtain⟨dBx,p9,S2,S3⟩:=A3.go X G
 obtain⟨dTk,F,k,m⟩:=uH.go X G
 obtain⟨dNu,U,k1,m0⟩:=A4.go X G
 obtain⟨dNm,a',p',q0⟩:=A9.go X G
 obtain⟨dTm,F6,q1,b0⟩:=A'.go X G
 obtain⟨dPo,q2,S4,S5⟩:=B1.go X G
 obtain⟨dSt,q3,kSt,S6⟩:=B2.go X G
 obtain⟨dBo,b7,S7,q4⟩:=B3.go X G
 obtain⟨dAn,q5,S8,S9⟩:=B4.go X G
 obtain⟨dOp,V,k2,m1⟩:=dG.go X G
 obtain⟨dIn,q6,S',T0⟩:=B5.go X G
 obtain⟨dLo,q7,T1,T2⟩:=B6.go X G
 obtain⟨dTi,q',T3,T4⟩:=B7.go X G
 obtain⟨dBu,r0,T5,T6⟩:=B8.go X G
 obtain⟨dCa,r1,T7,T8⟩:=B9.go X G
 obtain⟨dJo,r2,T9,T'⟩:=B'.go X G
 obtain⟨dWo,Y,k6,m2⟩:=C2.go X G
 obtain⟨dNd,b8,r3,r4⟩:=C'.go X G
 obtain⟨dBe,r5,U0,U1⟩:=D2.go X G
 obtain⟨dDp,F0,k3,m3⟩:=D'.go X G
 obtain⟨dPf,F1,k4,m4⟩:=E1.go X G
 obtain⟨dCu,F2,k5,m5⟩:=E2.go X G
 obtain⟨dHe,b9,r6,r7⟩:=E3.go X G
 obtain⟨dWs,r8,U2,U3⟩:=E4.go X G
 obtain⟨dDa,b',r9,r'⟩:=E5.go X G
 obtain⟨dFo,F7,s3,s4⟩:=E6.go X G
 obtain⟨dEn,c1,s5,s6⟩:=E7.go X G
 obtain⟨dFi,c2,s7,s8⟩:=E8.go X G
 obtain⟨dOn,c3,s9,s'⟩:=E9.go X G
 obtain⟨dRu,t4,U4,U5⟩:=E'.go X G
 obtain⟨dWa,F9,U6,t5⟩:=H0.go X G
 obtain⟨dWi,c4,U7,t7⟩:=H1.go X G
 obtain⟨dPa,t8,U8,U9⟩:=H2.go X G
 obtain⟨dDi,t',U',V0⟩:=H3.go X G
 obtain⟨dGa,u0,V1,V2⟩:=H4.go X G
 obtain⟨dLk,u1,V3,V4⟩:=H5.go X G
 obtain⟨dKt,u2,V5,V6⟩:=H6.go X G
 obtain⟨dAg,c5,u3,u4⟩:=H7.go X G
 obtain⟨dCe,u8,V7,V8⟩:=H8.go X G
 obtain⟨dLb,u9,V9,V'⟩:=H9.go X G
 obtain⟨dRd,c6,W0,u'⟩:=H'.go X G
 obtain⟨dSl,v2,W1,W2⟩:=BR.go X G
 obtain⟨dmI,v3,kmI⟩:=L4.go
 obtain⟨dmB,c9,kmB⟩:=L5.go
 obtain⟨dmO,v4,kmO⟩:=L6.go
 obtain⟨dmC,v5,kmC⟩:=L7.go
 obtain⟨dmW,v7,kmW⟩:=L8.go
 obtain⟨dTI,a0,kTI⟩:=L'.go
 obtain⟨dTT,I,kTT⟩:=N1.go
 obtain⟨dTN,F3,kTN⟩:=N2.go
 obtain⟨dRI,a1,kRI⟩:=N3.go
 obtain⟨dRC,J,kRC⟩:=N'.go
 obtain⟨dRW,L,kRW⟩:=O'.go
 obtain⟨dAI,v8,kAI⟩:=P1.go
 obtain⟨dAL,c',kAL⟩:=P4.go
 obtain⟨dAW,v9,kAW⟩:=P8.go
 obtain⟨ocZ,odZ,W3,W4,W5,W6,W7,W8,slZ,lZ,cZ,kZ⟩:=tZ.2
 have FZ:=pM (st:=mX) lZ cZ kZ
 have b:=mg_none_of X G z4
 have D:=mg_none_of X G z5
 have a:=mg_none_of X G z0
 have A:=mg_none_of X G z2
 have d:=mg_none_of X G x
 have N:=mg_none_of X G z1
 have g:=mg_none_of X G S
 have n0:=mg_none_of X G z6
 have n1:=mg_none_of X G z7
 have o:=mg_none_of X G z3
 have u:=mg_none_of X G t
 have q:=mg_none_of X G p
 have v':mG K r:=λH=>.inr #[_,_,_,I2,Z,Z,bN,(.cons #[_,Z] (.cons #[_,Z] .nil))]
 refine#[fnOf "law" "law" (bJ mX) (bo mX) (aa mX) .none W3 W4 W5 W6 W7 W8,λs v=>.of_eq Z,λbase _ _=>?_]
 have i:ah l.prog w K mg base ay 1 d8 _ _ aZ:=wc F
 have W9:ah l.prog w K mg base ay 1 d7 _ _ (n8 K):=Al p9 b D
 have G0:ah l.prog w K mg base ay 2 d' _ _ gJ:=ZT U #[i,F.b2,k,m]
 have G9:ah l.prog w K mg base ay 2 e2 _ _ fQ:=rN a' i F.b2 k m a
 have G':ah l.prog w K mg base ay 6 e3 _ _ (cp 4):=yo (P:=l.prog) (w:=w) (base:=base) F6 F6.b3 b0 #[i,F.b2,k,m] #[G0,U.b1,k1,m0] b 4
 have W':ah l.prog w K mg base ay 7 e4 _ _ io:=wb q2 #[i,F.b2,k,m] #[G',F6.b3,q1,b0]
 have SS:=DK (P:=l.prog) (w:=w) (base:=base) q3 b7 #[i,F.b2,k,m] #[G',F6.b3,q1,b0] #[W',q2.b2,S4,S5] q3.b5 S6 b7.b5 q4 b N a
 have Y':ah l.prog w K mg base ay 21 e5 _ _ (gr 6):=(SS 6).2
 have Z':ah l.prog w K mg base ay 22 e6 _ _ nZ:=Ai q5 #[i,F.b2,k,m] #[G9,a'.b2,p',q0] #[Y',b7.b5,S7,q4] b a N D
 have G1:ah l.prog w K mg base ay 2 e7 _ _ l7:=C9 V #[i,F.b2,k,m]
 have GIn:ah l.prog w K mg base ay 3 e8 _ _ (c7 2):=rL q6 #[i,F.b2,k,m] #[G1,V.b3,k2,m1]
 have GLo:ah l.prog w K mg base ay 3 e9 _ _ (c7 1):=ZW q7 #[i,F.b2,k,m] #[G1,V.b3,k2,m1] D N
 have GTi:ah l.prog w K mg base ay 3 e' _ _ (c7 1):=YA q' #[i,F.b2,k,m] #[G1,V.b3,k2,m1] D N
 have GBu:ah l.prog w K mg base ay 4 g0 _ _ lg:=vS r0 #[i,F.b2,k,m] #[G1,V.b3,k2,m1] #[G9,a'.b2,p',q0] #[GLo,q7.b4,T1,T2] #[GTi,q'.b4,T3,T4] #[GIn,q6.b4,S',T0]
 have GCa:ah l.prog w K mg base ay 23 g1 _ _ lh:=vU r1 #[i,F.b2,k,m] #[G0,U.b1,k1,m0] #[GBu,r0.b1,T5,T6] #[Z',q5.b3,S8,S9] b N
 have NS:=x6 (P:=l.prog) (w:=w) (base:=base) y y.b1 T n0 g
 have w0:ah l.prog w K mg base ay 7 f0 _ _ (c8 6):=NS 6
 have GNc:ah l.prog w K mg base ay 7 f0 _ _ (oe K):=Aq (fN:=f0) (fdN:=P9) y #[NS 5,y.b1,k0,T] n0 g
 have GOw:ah l.prog w K mg base ay 1 d0 _ _ l8:=Ar n7
 have US:=DW (P:=l.prog) (w:=w) (base:=base) o8 n' F4 o8.b2 R1 n'.b2 R0 F4.b2 a3 #[GOw,n7.b1,P',Q'] #[w0,y.b1,k0,T] A n0 g d
 have GUo:ah l.prog w K mg base ay 31 f3 _ _ (fX 7):=(US 7).2
 have GUz:ah l.prog w K mg base ay 10 f3 _ _ (fX 0):=(US 0).2
 have GBi:ah l.prog w K mg base ay 1 d1 _ _ lU:=Ak o9
 have w1:ah l.prog w K mg base ay 2 d2 _ _ gu:=vY a4 #[GBi,o9.b1,R3,R4] A
 have GDe:ah l.prog w K mg base ay 1 d3 _ _ hZ:=vV p1
 have GPg:ah l.prog w K mg base ay 8 f4 _ _ fV:=rO F5 #[w0,y.b1,k0,T]
 have GPc:ah l.prog w K mg base ay 8 f4 _ _ (og K):=At F5 #[GNc,y.b1,k0,T]
 have GPs:ah l.prog w K mg base ay 11 d4 _ _ ik:=v6 p4 #[GUz,F4.b2,o7,a3]
 have GmB:ah l.prog w K mg base ay 63 f7 _ _ (l9 f 8):=Ft (P:=l.prog) (w:=w) (base:=base) ck c9 v4 v5 v7 c9.b3 n5 v4.b3 L0 v5.b3 L1 v7.b4 L3 #[w1,a4.b1,o',p0] #[GUo,F4.b2,o7,a3] #[GDe,p1.b1,R5,R6] #[GPg,F5.b1,p2,p3] #[GPs,p4.b2,R7,R8] b N d 8 (Nat.le_refl _)
 have GmI:ah l.prog w K mg base ay 3 f6 _ _ (n9 f):=Ao v3 ck #[w1,a4.b1,o',p0]
 have GPm:ah l.prog w K mg base ay 64 d5 _ _ (lB K r):=v0 p5 ck mk GmI v3.b2 (mg_of X G I3) (mg_of X G I1) v' GmB c9.b3 n5 #[GPc,F5.b1,p2,p3] N d
 have GMa:ah l.prog w K mg base ay 65 d6 _ _ (lv K r):=vX p6 #[GPm,p5.b3,R9,R'] N
 have GJo:ah l.prog w K mg base ay 1 g2 _ _ ig:=ZY r2 (mg_of X G v1)
 have G5:ah l.prog w K mg base ay 7 g4 _ _ (cf K 6):=uu (P:=l.prog) (w:=w) (base:=base) Y Y.b2 m2 #[GJo,r2.b3,T9,T'] 6
 have G2:ah l.prog w K mg base ay 1 g' _ _ (hX r):=rH F2
 have w2:ah l.prog w K mg base ay 2 h0 _ _ (ie r):=Z0 b9 #[G2,F2.b2,k5,m5] o n1
 have GWs:ah l.prog w K mg base ay 8 h1 _ _ f8:=Z2 r8 #[G5,Y.b2,k6,m2] N
 have w3:ah l.prog w K mg base ay 9 h2 _ _ (fq r):=Z3 b' #[w2,b9.b3,r6,r7] #[G2,F2.b2,k5,m5] #[G5,Y.b2,k6,m2] #[GWs,r8.b2,U2,U3]
 have GFo:ah l.prog w K mg base ay 1 f5 _ _ eh:=rK F7
 have w4:ah l.prog w K mg base ay 8 h3 _ _ (lW r):=rJ c1 #[G2,F2.b2,k5,m5] #[G5,Y.b2,k6,m2] N v'
 have w5:ah l.prog w K mg base ay 9 h4 _ _ (fu r):=YC c2 #[w4,c1.b3,s5,s6] o n1
 have w6:ah l.prog w K mg base ay 9 h5 _ _ (tN r):=Z1 c3 #[G2,F2.b2,k5,m5] #[w2,b9.b3,r6,r7] #[GFo,F7.b1,s3,s4] #[w4,c1.b3,s5,s6]
 have hxL:clsIn K B≠none:=by
  unfold clsIn
  rw[I6]
  intro z
  cases z
 have hxD:clsIn K E≠none:=by
  unfold clsIn
  rw[I7]
  intro z
  cases z
 have mxL:=mg_of X G I4
 have mxD:=mg_of X G I5
 have x0:XM K mg "TooLong" B:=#[e0,l3,X',t1,mxL]
 have xmD:XM K mg "TooDeep" E:=#[e1,l4,l6,t2,mxD]
 have w7:ah l.prog w K mg base ay 1 g5 _ _ ij:=Z4 b8
 have G3:ah l.prog w K mg base ay 2 g8 _ _ ij:=Z5 F1 #[w7,b8.b2,r3,r4]
 have GBe:ah l.prog w K mg base ay 2 g6 _ _ gU:=rE r5 #[w7,b8.b2,r3,r4] b
 have G4:ah l.prog w K mg base (dP l.prog w) 1 g7 _ _ (cX E):=Z6 F0 (mg_of X G vD) xmD
 have GTI:ah l.prog w K mg base ay 1 f1 _ _ (ip C):=Za a0 rk
 have GTT:ah l.prog w K mg base (dP l.prog w) 1 M _ _ (d9 C B):=Xt I rk x0
 have GTN:ah l.prog w K mg base ay 1 O _ _ (em C):=Zb F3 rk
 have GRI:ah l.prog w K mg base ay 2 Q _ _ (gw C):=Zf a1 rk GTI a0.b3 (mg_of X G vT) tm
 have GRC:=yB (P:=l.prog) (w:=w) (base:=base) rk J J.b4 m6 L L.b3 n3 #[w5,c2.b2,s7,s8] #[w3,b'.b3,r9,r'] #[w6,c3.b2,s9,s'] GTT I.b1 l' GTN F3.b2 n2 (G4) F0.b1 k3 m3 #[G3,F1.b2,k4,m4] N 16
 have GRu:ah l.prog w K mg base (dP l.prog w) 45 h6 _ _ (oh B E r):=Au t4 rk K3 GRI a1.b4 (mg_of X G vR) #[GBe,r5.b3,U0,U1] GRC J.b4 m6
 have GCe:ah l.prog w K mg base ay 3 i' _ _ gV:=rG u8 #[i,F.b2,k,m] #[G0,U.b1,k1,m0] a
 have hxB:clsIn K xB≠none:=by
  unfold clsIn
  rw[I']
  intro z
  cases z
 have mxB:=mg_of X G vB
 have GWi:ah l.prog w K mg base ay 2 h8 _ _ (iw 0):=DZ (P:=l.prog) (w:=w) (base:=base) F9 F9.b2 t5 c4 c4.b2 t7 u 0
 have GWa:ah l.prog w K mg base ay 3 h7 _ _ (mf 1):=rR (n:=0) F9 #[GWi,c4.b2,U7,t7]
 have GPa:ah l.prog w K mg base ay 4 h' _ _ ma:=As t8 #[GWa,F9.b2,U6,t5]
 have GDi:ah l.prog w K mg base ay 1 i0 _ _ lV:=Am t'
 have GFz:ah l.prog w K mg base ay 1 f5 _ _ h9:=Z9 F7
 have GLk:ah l.prog w K mg base ay 1 i2 _ _ ii:=vW u1 b a
 have GGa:ah l.prog w K mg base ay 1 i1 _ _ lX:=An u0 b
 have GKt:ah l.prog w K mg base ay 1 i3 _ _ me:=Ax u2
 have GTJ:ah l.prog w K mg base ay 1 f1 _ _ (ip c):=Za a0 ra
 have G6:ah l.prog w K mg base (dP l.prog w) 1 M _ _ (d9 c B):=Xt I ra x0
 have w8:ah l.prog w K mg base ay 1 O _ _ (em c):=Zb F3 ra
 have GRJ:ah l.prog w K mg base ay 2 Q _ _ (gw c):=Zf a1 ra GTJ a0.b3 (mg_of X G vT) tm
 have GAI:ah l.prog w K mg base ay 3 f' _ _ (le c):=vQ v8 ra n6 GRJ a1.b4 (mg_of X G vR) K5
 have GAC:=yB (P:=l.prog) (w:=w) (base:=base) ra J J.b4 m8 L L.b3 m9 #[w5,c2.b2,s7,s8] #[w3,b'.b3,r9,r'] #[w6,c3.b2,s9,s'] G6 I.b1 R w8 F3.b2 m7 (G4) F0.b1 k3 m3 #[G3,F1.b2,k4,m4] N
 have GAW:∀j,ah l.prog w K mg base (dP l.prog w) (2*j+13) f2 _ _ (gB c B E r j):=λj=>rF L ra G6 I.b1 R w8 F3.b2 m7 (G4) F0.b1 k3 m3 #[G3,F1.b2,k4,m4] (GAC j) J.b4 m8
 have GAL:ah l.prog w K mg base ay 70 a2 _ _ (lT c r 16):=Fo (P:=l.prog) (w:=w) (base:=base) ra n6 c' c'.b4 m' v9 v9.b5 n4 GAW L.b3 m9 G6 I.b1 R (G4) F0.b1 k3 m3 #[GPa,t8.b2,U8,U9] #[G3,F1.b2,k4,m4] #[GGa,u0.b2,V1,V2] #[GLk,u1.b3,V3,V4] #[GDi,t'.b1,U',V0] #[GKt,u2.b2,V5,V6] #[GFz,F7.b1,s3,s4] b N 16
 have w9:ah l.prog w K mg base ay 71 i4 _ _ (lS r):=Ah c5 ra n6 K4 GAI v8.b4 (mg_of X G vL) GAL c'.b4 m' g
 have GLb:ah l.prog w K mg base ay 46 j0 _ _ (ls r):=rM u9 (GRu) t4.b5 U4 U5 #[mxB,hxB,t3,l5,J0,K1] o
 have GRd:ah l.prog w K mg base ay 18 j1 _ _ (md 17):=Fu (P:=l.prog) (w:=w) (base:=base) c6 c6.b1 u' 17
 have GSl:ah l.prog w K mg base ay 72 j2 _ _ (oi r):=Av v2 #[i,F.b2,k,m] #[G0,U.b1,k1,m0] #[GRd,c6.b1,W0,u'] #[w9,c5.b4,u3,u4] tk o a q N A
 exact Ap FZ #[W9,p9.b2,S2,S3] #[GCa,r1.b1,T7,T8] #[GMa,p6.b1,S0,S1] #[GCe,u8.b1,V7,V8] #[GLb,u9.b4,V9,V'] #[w9,c5.b4,u3,u4] #[GSl,v2.b4,W1,W2] o a
theorem EX{l:PySem.W.OpenLaw}{q:Program}{L:List Str}{X:(Str->Option Value)->Heap->Prop}{Y:World->Heap->Prop}{d:DefRec}{K:Params->Frag}(e:l.most=some 63)(H:d.params.defaults=[])
  (g:∀(w:World) (h:Heap),Y w h->(K w.params).In h)
  (F:∀(w:World) (mg:Str->Option Value) (b:Addr) (h:Heap),(K w.params).In h->h.Ns mainGlobals mg->mg d.name=some (.ref b)->
   ∃c:FuncData,(∀(s:Shared) (u:Value),BindsTo s c #[[u],[]] [("_law_script",u)])/\∀base:Heap,(K w.params).In base->base.Ns mainGlobals mg->ah l.prog w (K w.params) mg base ay 73 b c ["_law_script"] (lY (K w.params))):
  PySem.W.WalkO q L X Y l.row.toRowW d [] (λf v=>PySem.call f v):=
 _L.xq (n:=63) (k:=73) (x:="_law_script") (CX:=λ_=>ay) (sp:=λw=>lY (K w.params)) e PZ H #[Z,PZ,PZ] g F (λ_ _ a N i _ j=>#[a,N,Z,j,i,λ_=>Z]) λ_ _ _ _ _ z=>z
end _K
structure PySem.W.Fast:Prop where(tw9164464775581718911 tw5107130881796786079 tw11268184498722337144 tw9750093244241429911 tw5101434662729463054 tw7218210045826210044 tw3241096066362955979 tw14068104050548326225 tw8688862534666841403 tw207258904695746487 tw14202725743309148601 tw3972393275473699399 tw16339761193766870488 tw17790938080987007897 tw18154637641322008811 tw10557285025068429207 tw13027088097841866054 tw11759167973082975657 tw14939990511761134328 tw12187052567719019050 tw2555536103578932329 tw10594156661571413227 tw12928097626306823691 tw12777995526450807530 tw1619506133786283155 tw7247626256771475213 tw8052066763570185345 tw4500761475401982530 tw6246349946538392498 tw2239008525675742473 tw6595218898114887496 tw5137512053698916347 tw3118552368950200177 tw7063495496220177603 tw17370850910961880805 tw8906090804495029005 tw9430021761304529267 tw4485429239333569737 tw17253117405796497356 tw15595077537955289198 tw9607357781413908126 tw17555831188948871895 tw13677519990510232608 tw10435069619326671198 tw13930499738449947356 tw17014986948612553389 tw16800460266467788616 tw858178139095926118 tw15656007259607443916 tw18329880398886064322 tw17156734136162537016 tw5524659512766126099 tw2616278680569431109 tw2694503691509795441 tw12712851405040059517 tw15233228399042915458 tw17486127836354061764 tw12421044018490273676 tw15409027736818625451 tw6484766342746454467 tw5975118805714385178 tw6201429641951928279 tw12003235271568571742 tw5773875470580128249 tw4959570622986350883 tw2197251945420704050 tw15558976610874127449 tw11396622878431171708 tw8780693045363684761 tw16830964906585402866 tw8643350530440989911 tw13908879600085691220 tw4780026666892848136 tw6223436715905893489 tw390600734378433156 tw7620589398898262166 tw5639979552069330188 tw1981052890636067760 tw7094348787573282092 tw2009974141548939572 tw15713099895043394230 tw7100816284844175776 tw5148342552582264764 tw266301310507481867 tw3149719097794670763 tw1274536532166410564 tw18283657629541100668 tw8643065244489419013 tw7796850869379544444 tw14083890750924803587 tw322487725141392131 tw2567635589868668660 tw11551643839872810067 tw18374461051495427327 tw18343142901825659813 tw15222779003451250897 tw15975789416761930838 tw4837366709063077946 tw13084918373647056488 tw6507839481695612629 tw4106839898262421510 tw6323950655177223267 tw17080584867839554523 tw5031556993297414545 tw2412182657035480618 tw14452264798029581155 tw7299422583136956881 tw2083556304733514371 tw7007337730264252197 tw1063607745589135741 tw17211011098247863291 tw3978802230722484017 tw3498185814964349897 tw10048060280478217806 tw11198700122258297803 tw7125975788556871933 tw12814652537483713832 tw10075359592900820605 tw8403245735350625111 tw16282932216461544936 tw10484812942946727292 tw12655471241938368341 tw3830000056099936085 tw4120885063715378763 tw2848538673324880126 tw16469930480405799207 tw9420374125156765733 tw6902877984813396680 tw5907816431312279039 tw11041489918832016649 tw5614213131818519978 tw10864459838340831561 tw14709701900490597962 tw4085156770455688152 tw17920240163389529701 tw4813619253523061503 tw5090999187669846914 tw13287197562626853221 tw18156973146255927775 tw16187153406934474361 tw12790940262041752970 tw4323785327395210020 tw6293385771156459722 tw13351103749122795367 tw12859379054831194229 tw3530113995487889651 tw299277011463267054 tw10177281254477271164 tw4148161414484928734 tw13143061978841696997 tw15578733859125441399 tw229513771324025456 tw3440641265111475658 tw3515049276163002951 tw12904757768789249752 tw8894767204037692402 tw13670212507006414542 tw17629036247230129093 tw10514127004549422744 tw1330617711247981984 tw12605600934495229950 tw14393071232958071090 tw13216936953129211255 tw260131641220130516 tw1706989472365665290 tw16217294779216192031 tw13411465108970869740 tw9148613647581446372 tw3182693271050173842 tw1505021748919432125 tw5190455714395020239 tw11778155521992408352 tw13074210450976403363 tw2636764765607780402 tw17734836515952457867 tw11267132603979028043 tw13542448479372725880 tw17490940218227411117 tw2924733279969901450 tw1723662779925075126 tw12605731719184838190 tw7707031661934094108 tw10571933362683898778 tw4875419333480278914 tw9665194912480572174 tw17337310419330816291 tw13803534185573658423 tw17336325788741928574 tw3741752918890095433 tw3926156654083528444 tw395043815542977935 tw698019951422333670 tw17377332840173133825 tw7271029717952001380 tw1925404900379253644 tw9045575096010942919 tw8808003484710199522 tw12352578631156353204 tw7669054829405799174 tw8300055310720510720 tw10405396311074498114 tw2144293374077806733 tw703573877225329884 tw801410764420149871 tw6767889743085834891 tw12437035037379325846 tw5148748039244959341 tw3930113601250117214 tw2746335064192263590 tw16260199214621791202 tw10181904320986452591 tw4104864590796497848 tw10600405449569051201 tw7814959178802183159 tw10766561386549325429 tw9714357874344875112 tw16441163159664471903 tw3491002873087053688 tw9384496992202851287 tw2654528139677907644 tw2829754332113594623 tw11944153695480454197 tw10997898426384427821 tw404176689622874497 tw4241461626559869553 tw13344905742451705862 tw12768371553118602315 tw11343497375288927027 tw7863733785590593265 tw18332786666733916706 tw14791621919941371828 tw11784891767937349575 tw14246011588116131410 tw5798329840583699393 tw15613458990953540723 tw3898545469036829641 tw18289216955194892207 tw8368272614082935539 tw1213952121692322514 tw10251063745410142968 tw13842982461778256845 tw10203523603751957751 tw5574265027775792487 tw9791797034168580689 tw12489529058790761000 tw5701652507639245413 tw9686118103786459633 tw17852094993868625130:True)
open PySem PySem.W PyProof.Rows PySem.W.X
theorem _K.DY {q : Program} {loose : List PySem.Str} {XP : (PySem.Str → Option Value) → Heap → Prop} {K : Params → Frag} {as : List Addr} {n t : Nat} {r : RowW} {d : DefRec} {kwd : List (PySem.Str × PySem.Expr)} {run : Value → List Value → Sem Value}
    (e : ∀ P, as = (K P).map (·.1)) (h : WalkO q loose XP (InK K) r d kwd run) : WalkX q loose XP (obsZ as) (valZ K n t) r d kwd run :=
  fun w s₀ s₁ mg mb G Y a o pm cd doc dV kV h1 h2 h3 h4 h5 h6 args vals as' L => h w s₀ s₁ mg mb G (InK.keeps w _ _ (z_facts e Y).2.1 L.keeps) a o pm cd doc dV kV h1 h2 h3 h4 h5 h6 args vals as'
set_option maxRecDepth 100000 in
set_option maxHeartbeats 0 in
theorem PySem.Challenge.cw_againbook_k37_nothing_changed_holds : PySem.Challenge.rw_againbook_k37_nothing_changed.Holds := by
  w_on; o_law; z_head; (case hw => w_witness2)
  refine _K.DY (fun _ => by rfl) (_K.EX (l := PySem.Challenge.rw_againbook_k37_nothing_changed) rfl rfl (fun w h Y => Y) ?F)
  case F =>
    intro w mg fa h KX G hmg
    apply _K.yz KX G hmg
    iterate 55 (apply _K.EV;iterate 4 k_is)
    iterate 24 k_is
    iterate 2 k_exc
    iterate 2 (constructor<;>k_is)
    refine ⟨⟨?_,?_,?_,?_⟩,?_,?_,?_,?_,?_⟩;iterate 4 k_is
    iterate 5 (unfold _L.aV;k_is)
    iterate 2 (constructor;iterate 4 k_is)
    iterate 4 (constructor;iterate 3 k_is)
    refine ⟨⟨?_,?_,?_,?_⟩,?_,?_,?_,?_,?_⟩;iterate 4 k_is
    iterate 5 (unfold _L.aV;k_is)
    unfold _L.aV;k_is
    iterate 2 (constructor;iterate 4 k_is)
    iterate 6 (constructor;iterate 3 k_is)
    refine ⟨⟨?_,?_,?_,?_⟩,?_,?_⟩;iterate 4 k_is
    iterate 2 (unfold _L.aV;k_is)
    constructor;iterate 4 k_is
    iterate 4 (constructor;iterate 3 k_is)
    iterate 14 (apply _K.Fp;iterate 3 k_is)
    iterate 12 k_is
    constructor;iterate 2 kit_is
