import PyProof.Rows.All
import Wide.All
import OpenK.AllK
import Wide.FinOn
import Lean
import PyProof.EqAt
import PyProof.EqKinds
import PyProof.TupleCall
import PySem.Challenge.RW_againbook_k30_whole_right_and_true_is_th
set_option Elab.async false
set_option linter.all false
set_option maxRecDepth 100000
set_option genSizeOf false
theorem lW:0≤PySem.sizeLine:=by decide
theorem lO:1≤PySem.sizeLine:=by decide
theorem bX:2≤PySem.sizeLine:=by decide
theorem gm:3≤PySem.sizeLine:=by decide
theorem tE:4≤PySem.sizeLine:=by decide
set_option Elab.async false
set_option linter.all false
set_option maxRecDepth 100000
set_option maxHeartbeats 4000000
open PySem.W (keepIn Frag nsIn kitOne fnOf mg_of codeIn findIn mroIn isFn mg_none_of kia_one typeIn emptyDict clsIn instObj hasDictIn kitAny specialIn callWith_K excIn lookIn plainGet notCls tailIn)
theorem MO{p:Prop}(h:p:=by decide):p:=h
theorem MP{p:Prop}(h:p:=by omega):p:=h
theorem MQ{p:Prop}(h:p:=by simp):p:=h
theorem MS{p:Prop}(h:p:=by decide +kernel):p:=h
theorem MT{p:Prop}(h:p:=by rfl):p:=h
theorem Z{α:Sort u}{a:α}:a=a:=rfl
def Ft:=@PySem.wpAny_bind
def Fu:=@List.getElem?_eq_getElem
def Fv:=@PySem.wpAny_pure
def Fx:=@PySem.Heap.get?_push_of_some
def Fy:=@List.length_map
def Fz:=@Nat.le_refl
def FD:=@List.length_append
def FE:=@List.size_toArray
def FF:=@PySem.Heap.lt_size
def FG:=@PySem.Heap.get?_push_size
def FH:=@Bool.false_ne_true
def FJ:=@Nat.ne_of_lt
def FK:=@Bool.false_eq_true
def FL:=@Nat.le_trans
def FM:=@Nat.lt_of_lt_of_le
def FN:=@Nat.zero_le
def FP:=@PySem.Heap.get?_update_other
def FQ:=@if_pos
def FR:=@List.mem_append_right
def FT:=@List.getElem?_map
def FV:=@if_neg
def FX:=@List.mem_cons_self
def FY:=@decide_eq_false
def F8:=@PySem.F.plainAttrs_list
def F':=@List.mem_of_getElem?
def Ga:=@Array.length_toList
def Gb:=@PySem.wpAny_field
def Gc:=@PySem.wpAny_holding
def Ge:=@List.mem_cons_of_mem
def Gf:=@List.length_take
def Gg:=@trivial
def Gh:=@List.not_mem_nil
def Gi:=@List.length_cons
def Gj:=@PySem.F.type_list_append
def Gk:=@PySem.F.slot_list_append
def Gm:=@List.map_append
def Gn:=@decide_eq_true
def Go:=@PySem.Obj.data_mapFields
def Gp:=@Ne.symm
def Gr:=@PySem.wpAny_callSpecial?_slot
def Gs:=@PySem.Heap.get?_update_self
def Gu:=@PySem.wpAny_newObj_type
def Gv:=@PySem.PassesOwn.never
def Gw:=@PySem.wpAny_call_entry
def Gx:=@Int.emod_lt_of_pos
def Gy:=@PySem.builtinLookup_eq_fast
def Gz:=@List.take_length
def GF:=@PyProof.Rows.callWith_type1
def GG:=@PySem.wpAny_setField
def GH:=@PySem.Heap.size_push
def GJ:=@Nat.ne_of_gt
def GK:=@Option.some.inj
def GL:=@Bool.and_eq_true
def GN:=@of_decide_eq_true
def GP:=@List.take_add_one
def GQ:=@Int.toNat_natCast
def GS:=@PySem.wpAny_seqItems
def GU:=@List.mem_of_mem_take
def GV:=@Int.emod_nonneg
def GX:=@PySem.Around.under_plainId
def GY:=@PySem.wpAny_mono
def GZ:=@PySem.wpAny_Call_Name_kw
def G7:=@Nat.lt_irrefl
def G8:=@List.lookup_cons
def Hc:=@List.getElem?_eq_none
def Hd:=@PySem.F.slot_tuple_iterator_next
def He:=@PySem.Obj.isFreed_of_fields
def Hf:=@congrArg
def Hg:=@if_false
def Hh:=@PySem.F.slot_zip_next
def Hi:=@PySem.boot_len
def Hj:=@Nat.lt_succ_self
def Hk:=@List.mem_append_left
def Hl:=@PySem.typeLookup_type
def Hm:=@PySem.codeAny_builtin
def Hn:=@PySem.mem_of_lookup
def Ho:=@Nat.succ_le_succ
def Hq:=@Nat.lt_of_le_of_lt
def Hr:=@List.map_cons
def Hs:=@Nat.le_succ
def Ht:=@List.forIn_cons
def Hu:=@PySem.AutoSeq1.wpAny_loadPart'
def Hv:=@PySem.isSubtype_type
def Hw:=@List.take_of_length_le
def Hy:=@PySem.wpAny_setState_of
def Hz:=@PySem.wpAny_specialOf
def HK:=@beq_self_eq_true
def HL:=@List.length_drop
def HM:=@List.getElem?_append_right
def HN:=@PySem.Heap.SameBut.update
def HP:=@Array.getElem?_toList
def HQ:=@PySem.wpAny_typeOf
def HR:=@List.getElem?_append_left
def HS:=@Array.getElem?_eq_getElem
def HU:=@PySem.wpAny_rule
def HV:=@bne_self_eq_false
def HW:=@List.take_sublist
def HZ:=@List.getElem?_set_ne
def Ia:=@PySem.Calls.spliced_cons
def Ib:=@List.mem_cons
def Ic:=@PyProof.Rows.slot_tuple_getitem
def Ie:=@PySem.wpAny_execs_nil
def Ig:=@PyProof.Rows.boot_tuple
def Ih:=@PySem.plainId_quiet
def Ii:=@PySem.wpAny_isInstance
def Ij:=@List.length_singleton
def Ik:=@Nat.lt_succ_of_lt
def Il:=@PySem.wpAny_setField_rec
def Im:=@PySem.codeAny_mono
def Io:=@PySem.wpAny_passesOwn
def Ip:=@PySem.W.mg_none_of
def Iq:=@List.take_succ
def Ir:=@List.getD_eq_getElem?_getD
def Is:=@List.forIn_nil
def Iu:=@PySem.wpAny_standAt
def Iv:=@Nat.le_of_lt
def Iw:=@Nat.le_add_right
def Ix:=@List.map_map
def Iy:=@PySem.Calls.spliced_nil
def Iz:=@PyProof.Rows.F.plain_set_update_loop
def IA:=@Bool.not_true
def IB:=@Nat.min_eq_left
def IC:=@List.mem_append
def ID:=@List.find?_cons
def IE:=@PySem.wpAny_askSetting
def IF:=@PySem.F.args_tuple_iterator_next_1
def IG:=@PySem.F.plain_list_iadd
def IH:=@PySem.F.args_zip_next_1
def II:=@PySem.wpAny_setEntries_of
def IJ:=@PySem.F.entry_tuple_iterator_next
def IK:=@PySem.wpAny_attempt
def IL:=@if_true
def IM:=@PySem.F.entry_zip_next
def IN:=@List.getElem_cons_drop
def IP:=@List.getElem?_set_self
def IQ:=@PySem.wpAny_pyIter_tuple
def IR:=@PySem.tupleKind_room_in1
def IS:=@List.take_append_drop
def IU:=@List.getElem?_reverse
def IV:=@List.getElem_mem
def IW:=@PySem.wpAny_truthy_bool
def IX:=@PySem.Obj.cls_mapFields
def IY:=@Nat.not_lt_zero
def IZ:=@List.append_nil
def I0:=@or_false
def I8:=@of_decide_eq_false
def I9:=@PySem.F.args_object_init_2
def J':=@PySem.Value.isStrOf_shape
def K':=@List.reverse_cons
def La:=@PySem.F.type_list_extend
def Lb:=@PySem.F.slot_list_extend
def Lc:=@PySem.F.args_tuple_add_2
def Ld:=@List.map_take
def Le:=@List.append_cancel_right
def Lg:=@List.any_cons
def Lh:=@PySem.F.entry_tuple_add
def Li:=@Nat.le_of_not_lt
def Lj:=@Nat.le_max_right
def Lk:=@List.all_eq_true
def Ll:=@PySem.F.slot_tuple_add
def Lm:=@PySem.F.plainAttrs_str
def Ln:=@Nat.sub_self
def Lo:=@Nat.lt_or_ge
def Lp:=@Array.getElem?_eq_none
def Lq:=@PySem.wpAny_pyIter_list
def Ls:=@PySem.wpAny_of_eq
def Lu:=@PySem.fits_of_scanBound
def Lv:=@Option.map_some
def Lw:=@Nat.le_max_left
def Lx:=@List.of_mem_zip
def Ly:=@List.length_set
def Lz:=@Bool.eq_iff_iff
def LA:=@PySem.W.methodCall_KW
def LB:=@PySem.F.type_str_join
def LC:=@PySem.F.slot_str_join
def LD:=@PySem.F.slot_dict_get
def LF:=@List.length_replicate
def LG:=@List.length_filter_le
def LH:=@PySem.wpAny_execs_cons
def LI:=@PySem.entryFor_of_tree
def LJ:=@List.nodup_nil
def LK:=@Bool.and_false
def LM:=@PySem.W.plainGet_of
def LN:=@PyProof.Rows.F.entry_set_update_loop
def LO:=@List.filterMap_cons
def LP:=@PySem.Calls.callWith_builtin
def LQ:=@PySem.wpAny_updateSeq
def LS:=@PySem.codeAny_handlers_test
def LU:=@PySem.W.KFB.if_not
def LV:=@List.mem_singleton
def LW:=@PySem.wpAny_loadPart
def LX:=@PySem.wpAny_fieldsOf
def LY:=@PySem.sizeLine_eq
def LZ:=@PySem.isSubtype_stop
def L9:=@PySem.entryFor_alias
def Ma:=@Option.isSome_map
def Mb:=@Nat.sub_zero
def Mc:=@Nat.lt_of_succ_lt
def Md:=@Nat.le_of_eq
def Me:=@List.length_range
def Mf:=@Array.size_append
def Mg:=@List.eraseIdx_eq_take_drop_succ
def Mh:=@PySem.wpAny_handleBy_cons
def Mi:=@PySem.W.looks_mroIn
def Mj:=@Option.getD_none
def Ml:=@PySem.call_meets
def Mm:=@Nat.min_le_left
def Mn:=@List.length_zip
def Mo:=@List.length_nil
def Mp:=@PySem.F.plain_proto_collect
def Mq:=@PySem.F.entry_proto_collect
def Mr:=@Iff.rfl
def Ms:=@PySem.wpAny_sequenceKey
def Mt:=@PySem.wpAny_pyIter_slot
def Mu:=@PySem.W.callWith_K
def Mv:=@List.length_eraseIdx_of_lt
def Mw:=@Bool.and_assoc
def Mx:=@PySem.F.plain_extend_loop
def My:=@List.mem_of_find?_eq_some
def Mz:=@List.getElem?_zip_eq_some
def MD:=@PySem.SeqAt.EqAt.same
def ME:=@PySem.noFill_tuple_add
def MF:=@List.all_cons
def MG:=@Bool.or_false
def MH:=@PySem.F.plain_tuple_new
def MJ:=@PySem.F.entry_list_iadd
def MK:=@PySem.F.args_dict_get_3
def ML:=@List.getElem?_replicate
def MM:=@List.append_cancel_left
def MN:=@Int.eq_ofNat_of_zero_le
local macro_rules|`(#[$x,*])=>`(⟨$x,*⟩)
local macro_rules|`(tactic|omega)=>`(tactic|lia)
namespace L2
open PySem PySem.Spec PyProof.Rows
abbrev bE:=Sum Int Str
noncomputable def iD:bE->Value->Bool
 | .inl k,v=>Value.isInt k v
 | .inr x,v=>Value.isStrOf x v
noncomputable def D7(w:World):bE->Int
 | .inl k=>hashInt k
 | .inr x=>hashStr w x
theorem jW:∀{k:bE} {v:Value},iD k v=true->(∃i t,k=Sum.inl i/\v=Value.int i t)∨(∃x t,k=Sum.inr x/\v=Value.str x t)
 | .inl i,v,h=>by
  obtain⟨t,e⟩:=Value.isInt_shape (k:=i) (v:=v) h
  exact .inl #[i,t,Z,e]
 | .inr x,v,h=>by
  obtain⟨t,e⟩:=J' (x:=x) (v:=v) h
  exact .inr #[x,t,Z,e]
theorem Zo(i:Int)(t:Tok):iD (.inl i) (.int i t)=true:=by simp [iD,Value.isInt]
theorem Zp(x:Str)(t:Tok):iD (.inr x) (.str x t)=true:=by simp [iD,Value.isStrOf]
theorem yL(a b:Int):decide ((Sum.inl a:bE)=Sum.inl b)=(a==b):=by
 by_cases e:a=b
 ·subst e;simp
 ·have h:¬(Sum.inl a:bE)=Sum.inl b:=λq=>e (Sum.inl.inj q)
  rw[FY h]
  exact(beq_eq_false_iff_ne.mpr e).symm
theorem yO(a b:Str):decide ((Sum.inr a:bE)=Sum.inr b)=decide (a=b):=by
 by_cases e:a=b
 ·subst e;simp
 ·have h:¬(Sum.inr a:bE)=Sum.inr b:=λq=>e (Sum.inr.inj q)
  rw[FY h,FY e]
theorem yM(a:Int)(b:Str):decide ((Sum.inl a:bE)=Sum.inr b)=false:=FY (λq=>nomatch q)
theorem yN(a:Str)(b:Int):decide ((Sum.inr a:bE)=Sum.inl b)=false:=FY (λq=>nomatch q)
noncomputable def a6(p:Program)(w:World):PySem.KeyKind p w bE where
 is:=iD
 hash:=D7 w
 inj:=λv a b d c=>by
  rcases jW d with ⟨i,t,rfl,rfl⟩ | ⟨x,t,rfl,rfl⟩
  ·rcases jW c with ⟨j,u,rfl,e⟩ | ⟨y,u,rfl,e⟩
   ·injection e with E _;rw[E]
   ·exact nomatch e
  ·rcases jW c with ⟨j,u,rfl,e⟩ | ⟨y,u,rfl,e⟩
   ·exact nomatch e
   ·injection e with E _;rw[E]
 byValue:=λk v h=>by
  rcases jW h with ⟨i,t,rfl,rfl⟩ | ⟨x,t,rfl,rfl⟩<;>rfl
 pyHash:=λH h=>by
  rcases jW H with ⟨i,t,rfl,rfl⟩ | ⟨x,t,rfl,rfl⟩
  ·exact wpAny_pyHash_int h
  ·exact wpAny_pyHash_str h
 eqBool:=λf H h=>by
  rcases jW f with ⟨i,t,rfl,rfl⟩ | ⟨x,t,rfl,rfl⟩
  ·rcases jW H with ⟨j,u,rfl,rfl⟩ | ⟨y,u,rfl,rfl⟩
   ·rw[yL]at h;exact wpAny_eqBool_int h
   ·rw[yM]at h;exact SeqAt.EqAt.int_str i t y u _ _ _ _ h
  ·rcases jW H with ⟨j,u,rfl,rfl⟩ | ⟨y,u,rfl,rfl⟩
   ·rw[yN]at h;exact SeqAt.EqAt.str_int x t j u _ _ _ _ h
   ·rw[yO]at h;exact wpAny_eqBool_str h
 «strs»:=λk x t v h=>by
  rcases jW h with ⟨i,u,rfl,e⟩ | ⟨y,u,rfl,e⟩
  ·exact nomatch e
  ·injection e with E _
   subst E
   cases v<;>rfl
theorem Xz(p:Program)(w:World)(i:Int)(t:Tok):(a6 p w).is (.inl i) (.int i t)=true:=Zo i t
theorem XA(p:Program)(w:World)(x:Str)(t:Tok):(a6 p w).is (.inr x) (.str x t)=true:=Zp x t
end L2
namespace L2
open PySem PySem.Spec PyProof.Rows
inductive V where
 |non |bl (b:Bool) |int (i:Int) |str (x:Str) |byt (b:Array UInt8) |flt (b:UInt64) |ref (a:Addr) |ty (n:String)
 deriving DecidableEq
set_option genInjectivity false
def ax:V->Value->Prop
 | .non,u=>u=Value.none
 | .bl b,u=>u=Value.bool b
 | .int i,u=>∃t,u=Value.int i t
 | .str x,u=>∃t,u=Value.str x t
 | .byt b,u=>∃t,u=Value.bytes b t
 | .flt b,u=>∃t,u=Value.float b t
 | .ref a,u=>u=Value.ref a
 | .ty n,u=>u=Value.type n
abbrev aw:List V->List Value->Prop:=Paired ax
theorem aw.length(r:aw x u):x.length=u.length:=Paired.length r
theorem aw.get:∀{X:List V} {U:List Value} {i:Nat} {x:V},aw X U->X[i]?=some x->∃u,U[i]?=some u/\ax x u
 |_,_,_,_,.nil,e=>by simp at e
 |_,_,0,_,.cons r _,e=>by simp at e;subst e;exact#[_,Z,r]
 |_,_,i+1,x,.cons _ t,e=>by
  obtain⟨u,h,H⟩:=aw.get (i:=i) (x:=x) t (by simpa using e)
  exact#[u,by simpa using h,H]
theorem aw.set(r:ax x u):∀{X:List V} {U:List Value} (i:Nat),aw X U->aw (X.set i x) (U.set i u)
 |_,_,_,.nil=>.nil
 |_,_,0,.cons _ t=>.cons r t
 |_,_,i+1,.cons q t=>.cons q (aw.set r i t)
theorem aw.append:∀{x y:List V} {u w:List Value},aw x u->aw y w->aw (x++y) (u++w)
 |_,_,_,_,.nil,s=>s
 |_,_,_,_,.cons r t,s=>.cons r (aw.append t s)
theorem aw.take:∀{x:List V} {u:List Value} (n:Nat),aw x u->aw (x.take n) (u.take n)
 |_,_,0,_=>.nil
 |_,_,_+1,.nil=>.nil
 |_,_,n+1,.cons r t=>.cons r (aw.take n t)
theorem aw.drop:∀{x:List V} {u:List Value} (n:Nat),aw x u->aw (x.drop n) (u.drop n)
 |_,_,0,r=>r
 |_,_,_+1,.nil=>.nil
 |_,_,n+1,.cons _ t=>aw.drop n t
def dM:Option V->Option Value->Prop
 |some v,some u=>ax v u
 |none,none=>True
 |_,_=>False
def KV{a:Type}:List (a×V)->List (a×Value)->Prop:=Paired λ(p:a×V) (q:a×Value)=>p.1=q.1/\ax p.2 q.2
noncomputable def kV:bE->V
 | .inl i=>.int i
 | .inr x=>.str x
inductive HO where
 |lst (xs:List V)
 |tup (xs:List V)
 |dK (kvs:List (bE×V)) |dT (kvs:List (List bE×V))
 |set (S:Int->Bool) (n:Nat)
 |ins (C dx:Addr) (fs:List (Str×V))
 |own (x:Addr)
 |xd (fs:List (Str×V))
 |met (f x:Addr)
 |rng (lo hi:Int)
 |frz (o:Obj) (u:HO)
 |tbl (ps:Array Value)
 |ext (φ:Heap->Prop)
abbrev Hp:=Addr->Option HO
noncomputable def af(H:Hp)(a:Addr)(o:HO):Hp:=λb=>if b=a then some o else H b
theorem jc:af H a o a=some o:=by unfold af;rw[FQ Z]
theorem jk(h:b≠a):af H a o b=H b:=by unfold af;rw[FV h]
theorem jO{H:Hp}{a:Addr}(h:H a=some o)(c:H b=some u)(d:o≠u):a≠b:=by
 intro e;subst e;rw[h]at c;exact d (GK c)
theorem jm{H:Hp}(h:H a=some o)(c:H b=none):a≠b:=by
 intro e;subst e;rw[h]at c;cases c
section
variable (P:Program)(w:World)
def aX(H:Hp)(h:Heap)(a:Addr):HO->Prop
 | .lst X=>X.length<=sizeLine/\∃(i:List Value) (n:Nat),aw X i/\h.get? a=some { cls:=.type "list",data:=.seq i.toArray n }
 | .tup X=>X.length<=sizeLine/\∃i:List Value,aw X i/\IsTup h a i.toArray
 | .dK k=>k.length<=sizeLine/\(a==sysModules)=false/\∃c,KV k c/\h.DictOf (a6 P w) a c
 | .dT k=>k.length<=sizeLine/\(a==sysModules)=false/\∃X:List (List bE×Addr×Value),
   Paired (λ(p:List bE×V) (q:List bE×Addr×Value)=>p.1=q.1/\H q.2.1=some (.tup (p.1.map kV))/\ax p.2 q.2.2) k X/\
   ∃o e E,h.get? a=some o/\o.ExactDict/\o.data= .dict e E/\e.toList=X.map (entryOfKey (tupleKind (a6 P w)))/\(X.map (·.1)).Nodup
 | .set S n=>h.SetOf (intKind P w) a S n
 | .ins C d F=>H d=some (.own a)/\F.length<=1000/\d≠a/\h.get? a=some (instObj C d)/\
   ∃m,h.Ns1 d m/\(∀f,dM (F.lookup f) (m f))/\PySem.Within m (F.map (·.1))
 | .own _=>∃o,h.get? a=some o
 | .xd F=>∃m,h.Ns1 a m/\∀f,dM (F.lookup f) (m f)
 | .rng lo l=>∃t u v,h.get? a=some { cls:=.type "range",data:=.fields (List.toArray [.int lo t,.int l u,.int 1 v]) }
 | .frz o u=>h.get? a=some o/\aX H h a u
 | .tbl r=>h.get? a=some { cls:=.none,data:=.fields r }
 | .met f x=>h.get? a=some (PySem.W.methodObj (.ref f) (.ref x))
 | .ext b=>b h/\(∃o,h.get? a=some o)/\∀g j:Heap,b g->(∀o,g.get? a=some o->j.get? a=some o)->b j
def eJ(H:Hp)(h:Heap):Prop:=∀a o,H a=some o->aX P w H h a o
end
section
variable {P:Program}{w:World}{H H':Hp}{h h':Heap}{a:Addr}{o:HO}
theorem aX.lt(x:aX P w H h a o):a < h.objs.size:=by
 cases o with
 |lst X=>obtain⟨_,_,_,_,e⟩:=x;exact FF e
 |tup X=>obtain⟨_,_,_,p⟩:=x;exact p.lt
 |dK k=>obtain⟨_,_,_,_,o,_,_,e,_⟩:=x;exact FF e
 |dT k=>obtain⟨_,_,_,_,o,_,_,e,_⟩:=x;exact FF e
 |set S n=>obtain⟨o,_,_,_,e,_⟩:=x;exact FF e
 |ins C d F=>obtain⟨_,_,_,e,_⟩:=x;exact FF e
 |own y=>obtain⟨_,e⟩:=x;exact FF e
 |xd F=>obtain⟨_,⟨_,_,_,e,_⟩,_⟩:=x;exact FF e
 |rng lo b=>obtain⟨_,_,_,e⟩:=x;exact FF e
 |frz O u=>obtain⟨e,_⟩:=x;exact FF e
 |tbl c=>exact FF (show h.get? a=some _ from x)
 |met f y=>exact FF (show h.get? a=some _ from x)
 |ext g=>obtain⟨_,⟨_,e⟩,_⟩:=x;exact FF e
theorem Paired.mapP{c d:Type}{F G:c->d->Prop}:∀{l:List c} {L:List d},Paired F l L->(∀a b,F a b->G a b)->Paired G l L
 |_,_,.nil,_=>.nil
 |_,_,.cons r t,f=>.cons (f _ _ r) (Paired.mapP t f)
theorem aX.stay(x:aX P w H h a o)(k:∀b u,(b=a∨H b=some (.own a))->h.get? b=some u->h'.get? b=some u)
  (s:∀b,H b=some (.own a)->H' b=some (.own a)) (A:∀b X,H b=some (.tup X)->H' b=some (.tup X)):aX P w H' h' a o:=by
 induction o with
 |lst X=>obtain⟨z,i,n,r,e⟩:=x;exact#[z,i,n,r,k _ _ (.inl Z) e]
 |tup X=>obtain⟨z,i,r,O,e,c⟩:=x;exact#[z,i,r,O,k _ _ (.inl Z) e,c]
 |dK K=>obtain⟨z,y,V,r,O,E,g,e,c⟩:=x;exact#[z,y,V,r,O,E,g,k _ _ (.inl Z) e,c]
 |dT K=>
  obtain⟨z,y,X,r,O,E,g,e,c⟩:=x
  exact#[z,y,X,Paired.mapP r λp q z=>#[z.1,A _ _ z.2.1,z.2.2],O,E,g,k _ _ (.inl Z) e,c]
 |set S n=>obtain⟨O,E,g,t,e,c⟩:=x;exact#[O,E,g,t,k _ _ (.inl Z) e,c]
 |ins C D F=>
  obtain⟨d,z,N,e,m,⟨j,E,g,B,c⟩,r⟩:=x
  exact#[s _ d,z,N,k _ _ (.inl Z) e,m,#[j,E,g,k _ _ (.inr d) B,c],r]
 |own y=>obtain⟨O,e⟩:=x;exact#[O,k _ _ (.inl Z) e]
 |xd F=>obtain⟨m,⟨j,E,g,e,c⟩,r⟩:=x;exact#[m,#[j,E,g,k _ _ (.inl Z) e,c],r]
 |rng lo G=>obtain⟨t,u,v,e⟩:=x;exact#[t,u,v,k _ _ (.inl Z) e]
 |frz O u I=>obtain⟨e,q⟩:=x;exact#[k _ _ (.inl Z) e,I q]
 |tbl l=>
  have e:h.get? a=some { cls:=.none,data:=.fields l }:=x
  show h'.get? a=some { cls:=.none,data:=.fields l }
  exact k a _ (.inl Z) e
 |met f y=>
  have e:h.get? a=some (PySem.W.methodObj (.ref f) (.ref y)):=x
  show h'.get? a=some (PySem.W.methodObj (.ref f) (.ref y))
  exact k a _ (.inl Z) e
 |ext J=>obtain⟨p,⟨o,e⟩,st⟩:=x;exact#[st _ _ p λo q=>k _ _ (.inl Z) q,#[o,k _ _ (.inl Z) e],st]
theorem eJ.lt(x:eJ P w H h)(e:H a=some o):a < h.objs.size:=(x a o e).lt
theorem eJ.fresh(x:eJ P w H h)(e:h.objs.size<=a):H a=none:=by
 cases q:H a with
 |none=>rfl
 |some u=>exact absurd (FM (x.lt q) e) (G7 _)
theorem eJ.kept(x:eJ P w H h)(k:∀b u,h.get? b=some u->h'.get? b=some u):eJ P w H h':=λa o e=>
 (x a o e).stay (λb u _ q=>k b u q) (λ_ q=>q) λ_ _ q=>q
theorem eJ.laid(x:eJ P w H h)(k:∀b u,h.get? b=some u->h'.get? b=some u)(g:h.objs.size<=a)(n:aX P w (af H a o) h' a o):eJ P w (af H a o) h':=λb u e=>by
 have d:=x.fresh g
 by_cases f:b=a
 ·subst f;rw[jc]at e;cases e;exact n
 ·rw[jk f]at e
  exact(x b u e).stay (λc v _ q=>k c v q) (λc q=>by rw[jk (jm q d)];exact q) λc X q=>by rw[jk (jm q d)];exact q
end
def Rd(H:Hp)(a:Addr)(u:HO):Prop:=H a=some u∨∃o,H a=some (.frz o u)
theorem Rd.ok{P:Program}(r:Rd H a u)(x:eJ P w H h):aX P w H h a u:=by
 rcases r with r | ⟨o,r⟩
 ·exact x a u r
 ·obtain⟨_,q⟩:=x a _ r
  exact q
def BL:Option HO->Prop
 |some (.lst _)=>True
 |some (.dK _)=>True
 |some (.dT _)=>True
 |some (.set _ _)=>True
 |some (.ins _ _ _)=>True
 |some (.ext _)=>True
 |_=>False
section
variable {P:Program}{w:World}{H:Hp}{h h':Heap}{x e:Addr}{o':HO}
theorem eJ.write(o:eJ P w H h)(m:BL (H x))(i:e=x∨H e=some (.own x))(k:∀b u,b≠e->h.get? b=some u->h'.get? b=some u)(f:∃u,h'.get? e=some u)
  (g:aX P w (af H x o') h' x o'):eJ P w (af H x o') h':=λb u q=>by
 have n:∀c y,H c=some (.own y)->c≠x:=λc y r z=>by subst z;rw[r]at m;exact m
 have N:∀c X,H c=some (.tup X)->c≠x:=λc X r z=>by subst z;rw[r]at m;exact m
 by_cases d:b=x
 ·subst d;rw[jc]at q;cases q;exact g
 ·rw[jk d]at q
  by_cases a:b=e
  ·have Q:H b=some (.own x):=by
    rcases i with z |z
    ·exact absurd (a.trans z) d
    ·rw[a];exact z
   rw[q]at Q;cases Q
   obtain⟨v,j⟩:=f
   exact#[v,by rw[a];exact j]
  ·refine(o b u q).stay (λc v hc r=>k c v ?_ r) (λc r=>by rw[jk (n c b r)];exact r) λc X r=>by rw[jk (N c X r)];exact r
   rcases hc with rfl |hc
   ·exact a
   ·rintro rfl
    rcases i with z |z
    ·exact n c b hc z
    ·rw[hc]at z;cases z;exact d Z
end
structure Un(fs ex:List Addr)(H H':Hp)(h h':Heap):Prop where
 keep:∀b o,h.get? b=some o->H b=none->b∉fs->b∉ex->h'.get? b=some o
 slot:∀b o,h.get? b=some o->H b=none->b∈fs->b∉ex->∃sl,h'.get? b=some { o with slots:=sl }
 free:∀b o,h.get? b=some o->H b=none->b∉ex->H' b=none
 there:∀b o,h.get? b=some o->b∉ex->∃o',h'.get? b=some o'
 tups:∀b xs,H b=some (.tup xs)->H' b=some (.tup xs)
 frzs:∀b o u,H b=some (.frz o u)->H' b=some (.frz o u)
 tbls:∀b ps,H b=some (.tbl ps)->∃more,H' b=some (.tbl (ps++more))
section
variable {fs fs' ex ex':List Addr}{H H1 H2:Hp}{h h1 h2 h':Heap}{a x e:Addr}{o:HO}
theorem Un.any(u:Un fs ex H H1 h h1)(q:h.get? b=some O)(n:H b=none)(c:b∉ex):∃s,h1.get? b=some { O with slots:=s }:=by
 by_cases d:b∈fs
 ·exact u.slot b O q n d c
 ·exact#[O.slots,u.keep b O q n d c]
theorem Un.kept(k:∀b u,h.get? b=some u->h'.get? b=some u):Un fs ex H H h h':=
 #[λb O q _ _ _=>k b O q,λb O q _ _ _=>#[O.slots,k b O q],λ_ _ _ n _=>n,λb O q _=>#[O,k b O q],λ_ _ q=>q,λ_ _ _ q=>q,λ_ p q=>#[(List.toArray []),by rw[q];simp]]
theorem Un.refl:Un fs ex H H h h:=Un.kept λ_ _ q=>q
theorem Un.laid(k:∀b u,h.get? b=some u->h'.get? b=some u)(d:h.objs.size<=a)(c:H a=none):Un fs ex H (af H a o) h h' where
 keep:=λb u q _ _ _=>k b u q
 slot:=λb u q _ _ _=>#[u.slots,k b u q]
 free:=λb u q n _=>by rw[jk (FJ (FM (FF q) d))];exact n
 there:=λb u q _=>#[u,k b u q]
 tups:=λb X q=>by rw[jk (jm q c)];exact q
 frzs:=λb u X q=>by rw[jk (jm q c)];exact q
 tbls:=λb p q=>#[(List.toArray []),by rw[jk (jm q c),q];simp]
theorem Un.write(m:BL (H x))(j:e=x∨H e=some (.own x))(k:∀b u,b≠e->h.get? b=some u->h'.get? b=some u)(d:∃u,h'.get? e=some u):Un fs ex H (af H x o) h h':=by
 have g:∀b,H b=none->b≠x:=λb n z=>by subst z;rw[n]at m;exact m
 have i:∀b,H b=none->b≠e:=λb n z=>by
  subst z
  rcases j with r |r
  ·exact g b n r
  ·rw[n]at r;cases r
 have f:∀b u,H b=some u->¬BL (some u)->b≠x:=λb u q N z=>by subst z;rw[q]at m;exact N m
 refine#[λb u q n _ _=>k b u (i b n) q,λb u q n _ _=>#[u.slots,k b u (i b n) q],λb u q n _=>by rw[jk (g b n)];exact n,λb u q _=>?_,
  λb X q=>by rw[jk (f b _ q λz=>z)];exact q,λb u X q=>by rw[jk (f b _ q λz=>z)];exact q,λb p q=>#[(List.toArray []),by rw[jk (f b _ q λz=>z),q];simp]]
 by_cases c:b=e
 ·subst c;exact d
 ·exact#[u,k b u c q]
end
noncomputable def DO(h:Heap)(H:Hp):List Addr:=(List.range h.objs.size).filter λa=>(H a).isSome
noncomputable def iJ(h:Heap)(H:Hp):Heap:=PySem.W.hideAll h (DO h H)
theorem Zq(h:Heap)(H:Hp):(iJ h H).objs.size=h.objs.size:=PySem.W.hideAll_size _ _
theorem pw{h:Heap}{H:Hp}(e:h.get? b=some o)(n:H b=none):(iJ h H).get? b=some o:=
 PySem.W.hideAll_get _ e λa=>by
  have q:(H b).isSome=true:=(List.mem_filter.mp a).2
  rw[n]at q;simp at q
theorem vo(e:(iJ h H).get? b=some o):h.get? b=some o/\H b=none:=by
 have E:h.get? b=some o:=PySem.W.of_hideAll (DO h H) e
 refine#[E,?_]
 cases q:H b with
 |none=>rfl
 |some x=>
  have a:b∈DO h H:=List.mem_filter.mpr #[List.mem_range.mpr (FF E),by simp [q]]
  have z:(iJ h H).get? b=none:=PySem.W.hideAll_none (DO h H) a
  rw[z]at e;cases e
end L2
namespace L2
open PySem PySem.Spec PyProof.Rows
structure Mod(K:Frag)(mg:Str->Option Value)(base:Heap):Prop where
 kin:K.In base
 glob:base.Ns mainGlobals mg
 blt:∃mb,base.Ns builtinsNs mb/\∀x:Str,x≠"__name__"->mb x=bootBuiltins x
 nolimit:base.NoLimit
structure Cx where
 prog:Program
 w:World
 K:Frag
 mg:Str->Option Value
 base:Heap
 A:Around
 N:List Str
 s₀:Shared
 H₀:Hp
 env:Env
 outer:List Env
 stack:List Env
 ex:List Addr
 fn:Str->Bool
 calm:Bool
 pn:List (Addr×Obj)
 xe:Value->Shared->Prop
noncomputable def iB(l:List Env):List Addr:=l.filterMap (·.frame)
noncomputable abbrev Cx.fs(X:Cx):List Addr:=iB X.outer
def DG(s:Scope)(x:Str):Prop:=s.names.lookup x=some .local∨s.names.lookup x=some .cell∨s.names.lookup x=some .free
def oC(s:Scope)(x:Str):Prop:=s.names.lookup x=some .local∨s.names.lookup x=some .cell
def DS(e:Env)(h:Heap)(m:Str->Option Value)(x:Str)(u:Value):Prop:=
 (e.kindOf x=some .local/\m x=some u)∨((e.kindOf x=some .cell∨e.kindOf x=some .free)/\∃c,e.cells.lookup x=some c/\h.IsCell c (some u))
structure Cx.Ok(X:Cx):Prop where
 mod:Mod X.K X.mg X.base
 kind:X.env.scope.kind= .function
 glob:X.env.globals=mainGlobals
 blt:X.env.builtins=builtinsNs
 above:X.s₀.heap.objs.size<=X.env.locals
 inj:∀x y c,X.env.cells.lookup x=some c->X.env.cells.lookup y=some c->x=y
 has:∀x,(X.env.kindOf x=some .cell∨X.env.kindOf x=some .free)->∃c,X.env.cells.lookup x=some c
 cab:∀x c,X.fn x=true->X.env.cells.lookup x=some c->X.s₀.heap.objs.size<=c
 hd:X.calm=true->X.A.handled=none
 frames:X.A.frames=some X.stack
 stk:X.stack=X.outer∨(X.stack=X.env::X.outer/\X.env.frame=some X.env.locals)
 exf:∀b∈X.ex,b≠X.env.locals/\∀x c,X.env.cells.lookup x=some c->c≠b
 bs:∀b o,X.base.get? b=some o->X.s₀.heap.get? b=some o/\X.H₀ b=none
 bsz:X.base.objs.size<=X.s₀.heap.objs.size
 noex:∀b o,X.base.get? b=some o->b∉X.ex
 exfs:∀b∈X.ex,b∉X.fs
 funs:X.s₀.heap.FunFrames X.base X.outer
 frf:∀b∈X.fs,X.H₀ b=none
structure ap(X:Cx)(pins:List (Addr×Obj))(σ:List (Option V))(H:Hp)(s:Shared):Prop where
 ok:X.Ok
 os:s.os=X.s₀.os
 bare:AllBare s.gens
 base:Un X.fs X.ex X.H₀ H X.s₀.heap s.heap
 loc:∃m,s.heap.Ns X.env.locals m/\∀(i:Nat) (x:Str) (v:V),X.N[i]?=some x->σ[i]?=some (some v)->DG X.env.scope x->∃u,ax v u/\DS X.env s.heap m x u
 cell:∀x c,X.env.cells.lookup x=some c->∃v,s.heap.IsCell c v
 free:H X.env.locals=none
 freeC:∀x c,X.env.cells.lookup x=some c->H c=none
 pin:∀p∈X.pn++pins,s.heap.get? p.1=some p.2/\H p.1=none/\p.1≠X.env.locals/\p.1∉X.fs/\∀v,p.2.data≠ .cell v
 hok:eJ X.prog X.w H s.heap
 len:σ.length=X.N.length
section
variable {X:Cx}{pins:List (Addr×Obj)}{σ:List (Option V)}{H H':Hp}{s:Shared}{h':Heap}
theorem Cx.Ok.nofr(O:X.Ok)(e:X.base.get? b=some o):b∉X.fs:=λh=>by
 have:=(O.funs.mem h).1
 rw[e]at this;cases this
theorem ap.bs(I:ap X pins σ H s):∀b o,X.base.get? b=some o->s.heap.get? b=some o/\H b=none:=λb o e=>
 #[I.base.keep b o (I.ok.bs b o e).1 (I.ok.bs b o e).2 (I.ok.nofr e) (I.ok.noex b o e),I.base.free b o (I.ok.bs b o e).1 (I.ok.bs b o e).2 (I.ok.noex b o e)]
theorem ap.bk(I:ap X pins σ H s):∀b o,X.base.get? b=some o->s.heap.get? b=some o:=λb o e=>(I.bs b o e).1
theorem ap.mod(I:ap X pins σ H s):Mod X.K X.mg X.base:=I.ok.mod
theorem ap.kIn(I:ap X pins σ H s):X.K.In s.heap:=I.ok.mod.kin.keeps I.bk
theorem ap.lt(I:ap X pins σ H s):X.env.locals < s.heap.objs.size:=let #[_,h,_]:=I.loc;h.lt
theorem ap.sz(I:ap X pins σ H s):X.s₀.heap.objs.size<=s.heap.objs.size:=FL I.ok.above (Iv I.lt)
theorem ap.nofs(I:ap X pins σ H s)(h:s.heap.objs.size<=a):a∉X.fs:=λb=>by
 obtain⟨_,o,c,_⟩:=I.ok.funs.mem b
 exact absurd (FM (FF c) (FL I.sz h)) (G7 _)
theorem ap.cne(I:ap X pins σ H s):∀x c,X.env.cells.lookup x=some c->c≠X.env.locals:=λx c e z=>by
 obtain⟨v,o,b,d⟩:=I.cell x c e
 obtain⟨m,⟨O,E,f,h,a,_⟩,_⟩:=I.loc
 rw[z,h]at b;cases b;rw[a]at d;cases d
theorem ap.funs(I:ap X pins σ H s):s.heap.FunFrames X.base X.outer:=by
 have all:∀(l:List Env),(∀b∈iB l,b∈X.fs)->X.s₀.heap.FunFrames X.base l->s.heap.FunFrames X.base l:=by
  intro l
  induction l with
  |nil=>intro _ _;trivial
  |cons E r i=>
   intro d f
   obtain⟨g,⟨L,o,h,j,k,m⟩,n⟩:=f
   have a:L∈X.fs:=d L (by unfold iB;rw[List.filterMap_cons,h];exact List.mem_cons_self)
   obtain⟨S,e⟩:=I.base.slot L o k (I.ok.frf L a) a λz=>I.ok.exfs L z a
   exact#[g,#[L,_,h,j,e,m],i (λb c=>d b (by unfold iB;rw[List.filterMap_cons,h];exact List.mem_cons_of_mem _ c)) n]
 exact all X.outer (λ_ c=>c) I.ok.funs
theorem ap.stack(I:ap X pins σ H s):s.heap.FunFrames X.base X.stack:=by
 rcases I.ok.stk with e | ⟨e,h⟩
 ·rw[e];exact I.funs
 ·rw[e]
  obtain⟨m,a,_⟩:=I.loc
  refine .cons (by rw[I.ok.kind];decide) h a ?_ I.funs
  exact Heap.get?_none_of_le (FL I.ok.bsz I.ok.above)
theorem ap.stkSub(I:ap X pins σ H s):∀b∈iB X.stack,b∈X.env.locals::X.fs:=λb h=>by
 rcases I.ok.stk with e | ⟨e,a⟩
 ·rw[e]at h;exact Ge _ h
 ·rw[e]at h
  unfold iB at h
  rw[LO,a]at h
  exact h
theorem ap.stkFree(I:ap X pins σ H s):∀b∈iB X.stack,H b=none:=λb hb=>by
 rcases List.mem_cons.mp (I.stkSub b hb) with e |hb
 ·rw[e];exact I.free
 ·obtain⟨_,o,h,_⟩:=I.ok.funs.mem hb
  exact I.base.free b o h (I.ok.frf b hb) λz=>I.ok.exfs b z hb
theorem ap.step{g':Array GenState}{d':Drawn}{ch:List Addr}(I:ap X pins σ H s)
  (a:∀b∈ch,(b∈X.ex∨X.s₀.heap.objs.size<=b)/\b≠X.env.locals/\(∀x c,X.env.cells.lookup x=some c->c≠b)/\∀p∈X.pn++pins,p.1≠b)
  (K:∀b o,b≠X.env.locals->b∉X.fs->b∉ch->s.heap.get? b=some o->H b=none->h'.get? b=some o)
  (S:∀b o,b≠X.env.locals->b∈X.fs->b∉ch->s.heap.get? b=some o->H b=none->∃J,h'.get? b=some { o with slots:=J }) (f:∀b o,b∉ch->s.heap.get? b=some o->H b=none->H' b=none)
  (t:∀b o,b∉ch->s.heap.get? b=some o->∃O,h'.get? b=some O)
  (T:∀b j,H b=some (.tup j)->H' b=some (.tup j)) (F:∀b o u,H b=some (.frz o u)->H' b=some (.frz o u)) (B:∀b P,H b=some (.tbl P)->∃M,H' b=some (.tbl (P++M)))
  (ns:∀m,s.heap.Ns X.env.locals m->h'.Ns X.env.locals m) (L:eJ X.prog X.w H' h') (hg:AllBare g'):
  ap X pins σ H' { s with heap:=h',gens:=g',drawn:=d',toks:=t' }:=by
 have D:∀b o,X.s₀.heap.get? b=some o->b≠X.env.locals:=λb o e=>FJ (FM (FF e) I.ok.above)
 have g:∀b o,X.s₀.heap.get? b=some o->b∉X.ex->b∉ch:=λb o e h y=>by
  rcases(a b y).1 with z |z
  ·exact h z
  ·exact absurd (FM (FF e) z) (G7 _)
 have C:∀x c,X.env.cells.lookup x=some c->∀v,s.heap.IsCell c v->h'.IsCell c v:=λx c e v #[o,A,Q]=>by
  have N:c∉ch:=λz=>(a c z).2.2.1 x c e Z
  by_cases U:c∈X.fs
  ·obtain⟨J,q⟩:=S c o (I.cne x c e) U N A (I.freeC x c e)
   exact#[_,q,Q]
  ·exact#[o,K c o (I.cne x c e) U N A (I.freeC x c e),Q]
 refine#[I.ok,I.os,hg,#[λb o e n y h=>?_,λb o e n y h=>?_,λb o e n h=>?_,λb o e h=>?_,λb j e=>T b j (I.base.tups b j e),λb o j e=>F b o j (I.base.frzs b o j e),λb P e=>?_],?_,λx c e=>?_,?_,λx c e=>?_,λp W=>?_,L,I.len]
 ·exact K b o (D b o e) y (g b o e h) (I.base.keep b o e n y h) (I.base.free b o e n h)
 ·obtain⟨J,E⟩:=I.base.slot b o e n y h
  obtain⟨R,G⟩:=S b _ (D b o e) y (g b o e h) E (I.base.free b o e n h)
  exact#[R,G]
 ·obtain⟨O,E⟩:=I.base.there b o e h
  exact f b O (g b o e h) E (I.base.free b o e n h)
 ·obtain⟨O,E⟩:=I.base.there b o e h
  exact t b O (g b o e h) E
 ·obtain⟨m1,E⟩:=I.base.tbls b P e
  obtain⟨m2,G⟩:=B b _ E
  exact#[m1++m2,by rw[G,Array.append_assoc]]
 ·obtain⟨m,hn,hl⟩:=I.loc
  refine#[m,ns m hn,λi x v E G e3=>?_]
  obtain⟨u,r,l⟩:=hl i x v E G e3
  refine#[u,r,?_]
  rcases l with l | ⟨k,c,e,z⟩
  ·exact .inl l
  ·exact .inr #[k,c,e,C x c e _ z]
 ·obtain⟨v,z⟩:=I.cell x c e
  exact#[v,C x c e v z]
 ·obtain⟨m,⟨o,_,_,A,_⟩,_⟩:=I.loc
  exact f _ o (λz=>(a _ z).2.1 Z) A I.free
 ·obtain⟨v,o,A,Q⟩:=I.cell x c e
  exact f c o (λz=>(a c z).2.2.1 x c e Z) A (I.freeC x c e)
 ·obtain⟨e,n,Y,nf,d⟩:=I.pin p W
  have N:p.1∉ch:=λz=>(a p.1 z).2.2.2 p W Z
  exact#[K p.1 p.2 Y nf N e n,f p.1 p.2 N e n,Y,nf,d]
theorem ap.un{t':Nat}(I:ap X pins σ H s)(u:Un X.fs [] H H' s.heap h')(a:eJ X.prog X.w H' h'):ap X pins σ H' { s with heap:=h',toks:=t' }:=by
 obtain⟨m,⟨o,j,k,f,r⟩,_⟩:=id I.loc
 obtain⟨S,g⟩:=u.any f I.free MQ
 exact I.step (g':=s.gens) (d':=s.drawn) (ch:=[]) (λ_ z=>nomatch z) (λb o _ c _ e n=>u.keep b o e n c MQ) (λb o _ c _ e n=>u.slot b o e n c MQ) (λb o _ e n=>u.free b o e n MQ) (λb o _ e=>u.there b o e MQ) u.tups u.frzs u.tbls (λM i=>by
  obtain⟨O,E,d,h,R⟩:=i
  rw[f]at h;cases h
  exact#[_,E,d,g,R]) a I.bare
theorem ap.call{g':Array GenState}{t':Nat}{d':Drawn}{ch:List Addr}(I:ap X pins σ H s)(u:Un (iB X.stack) ch H H' s.heap h')(f:eJ X.prog X.w H' h')(k:AllBare g')
  (a:∀b∈ch,(b∈X.ex∨X.s₀.heap.objs.size<=b)/\b≠X.env.locals/\(∀x c,X.env.cells.lookup x=some c->c≠b)/\∀p∈X.pn++pins,p.1≠b):
  ap X pins σ H' { s with heap:=h',gens:=g',drawn:=d',toks:=t' }:=by
 obtain⟨m,⟨o,t,v,j,r⟩,_⟩:=id I.loc
 obtain⟨S,g⟩:=u.any j I.free λz=>(a _ z).2.1 Z
 exact I.step (ch:=ch) a (λb o g l h e n=>u.keep b o e n (λz=>(List.mem_cons.mp (I.stkSub b z)).elim g l) h) (λb o _ _ h e n=>u.any e n h) (λb o h e n=>u.free b o e n h) (λb o h e=>u.there b o e h) u.tups u.frzs u.tbls (λM q=>by
  obtain⟨O,E,i,d,R⟩:=q
  rw[j]at d;cases d
  exact#[_,E,i,g,R]) f k
theorem ap.turned{t':Nat}{it:Addr}(I:ap X pins σ H s)(k:∀b o,b≠it->s.heap.get? b=some o->h'.get? b=some o)(d:H it=none)(a:it≠X.env.locals)
  (f:it∈X.ex∨X.s₀.heap.objs.size<=it) (g:∀x c,X.env.cells.lookup x=some c->c≠it) (i:∀p∈X.pn++pins,p.1≠it):ap X pins σ H { s with heap:=h',toks:=t' }:=by
 have N:∀b u,H b=some u->b≠it:=λb u e z=>by rw[z,d]at e;cases e
 refine I.step (g':=s.gens) (d':=s.drawn) (ch:=[it]) (λb j=>?_) (λb o _ _ h e _=>k b o (λz=>h (by simp [z])) e) (λb o _ _ h e _=>#[o.slots,k b o (λz=>h (by simp [z])) e]) (λ_ _ _ _ n=>n)
  (λb o h e=>#[o,k b o (λz=>h (by simp [z])) e]) (λ_ _ e=>e) (λ_ _ _ e=>e) (λb P e=>#[(List.toArray []),by rw[e];simp]) (λm l=>?_) (λb u e=>?_) I.bare
 ·have e:b=it:=by simpa using j
  subst e
  exact#[f,a,g,i]
 ·obtain⟨o,E,t,w,r⟩:=l
  exact#[o,E,t,k _ o (Gp a) w,r]
 ·refine(I.hok b u e).stay (λc v h q=>k c v ?_ q) (λ_ q=>q) λ_ _ q=>q
  rcases h with z |z
  ·rw[z];exact N b u e
  ·exact N c _ z
theorem ap.tok(I:ap X pins σ H s)(t:Nat):ap X pins σ H { s with toks:=t }:=I.un (h':=s.heap) (t':=t) Un.refl I.hok
theorem ap.kept{t':Nat}(I:ap X pins σ H s)(k:∀b u,s.heap.get? b=some u->h'.get? b=some u):ap X pins σ H { s with heap:=h',toks:=t' }:=I.un (Un.kept k) (I.hok.kept k)
theorem ap.laid{a:Addr}{o:HO}{t':Nat}(I:ap X pins σ H s)(k:∀b u,s.heap.get? b=some u->h'.get? b=some u)(h:s.heap.objs.size<=a)(n:aX X.prog X.w (af H a o) h' a o):
  ap X pins σ (af H a o) { s with heap:=h',toks:=t' }:=I.un (Un.laid k h (I.hok.fresh h)) (I.hok.laid k h n)
theorem ap.write{x e:Addr}{o:HO}{t':Nat}(I:ap X pins σ H s)(m:BL (H x))(a:e=x∨H e=some (.own x))(k:∀b u,b≠e->s.heap.get? b=some u->h'.get? b=some u)(h:∃u,h'.get? e=some u)
  (n:aX X.prog X.w (af H x o) h' x o):ap X pins σ (af H x o) { s with heap:=h',toks:=t' }:=I.un (Un.write m a k h) (I.hok.write m a k h n)
theorem ap.pins_of{pins':List (Addr×Obj)}(I:ap X pins σ H s)(h:∀p∈pins',s.heap.get? p.1=some p.2/\H p.1=none/\p.1≠X.env.locals/\p.1∉X.fs/\∀v,p.2.data≠ .cell v):ap X pins' σ H s:=
 #[I.ok,I.os,I.bare,I.base,I.loc,I.cell,I.free,I.freeC,λp a=>(List.mem_append.mp a).elim (λz=>I.pin p (Hk _ z)) (h p),I.hok,I.len]
theorem Q9{N:List Str}(h:N.Nodup){i j:Nat}{x:Str}(a:N[i]?=some x)(b:N[j]?=some x):i=j:=by
 obtain⟨c,e⟩:=List.getElem?_eq_some_iff.mp a
 obtain⟨d,E⟩:=List.getElem?_eq_some_iff.mp b
 exact(List.getElem_inj h).mp (e.trans E.symm)
theorem Qd{v:V}{Q:Unit->Shared->Prop}(I:ap X pins σ H s)(hN:X.N.Nodup)(L:X.N[i]?=some x)(l:oC X.env.scope x)(r:ax v u)
  (h:∀s',ap X pins (σ.set i (some v)) H s'->(∃a,Heap.SameBut a s.heap s'.heap/\(a=X.env.locals∨X.env.cells.lookup x=some a))->Q () s') (hf:X.fn x=true∨X.env.scope.names.lookup x=some .local:=by first |exact .inl Z |exact .inr Z |assumption):wpAny M A (storeName X.env x u) Q E s:=by
 obtain⟨m,hn,hl⟩:=id I.loc
 have O:(X.env.scope.kind== .class||(X.env.scope.kind== .module&&X.env.locals != X.env.globals))=false:=by rw[I.ok.kind];rfl
 have D:i < σ.length:=by rw[I.len];exact(List.getElem?_eq_some_iff.mp L).1
 have F:=I.cne
 have t:∀{a:Addr} {h':Heap},(∃o,s.heap.get? a=some o/\H a=none)->Heap.SameBut a s.heap h'->eJ X.prog X.w H h':=λ{a h'} ha f b ob e=>by
  obtain⟨_,_,B⟩:=ha
  refine(I.hok b ob e).stay (λc W hc q=>(f.2 c ?_).trans q) (λ_ q=>q) λ_ _ q=>q
  rintro rfl
  rcases hc with rfl |hc
  ·rw[B]at e;cases e
  ·rw[B]at hc;cases hc
 rcases l with hk |hk
 ·refine wpAny_storeName_local hk hn (λh' h0 f=>?_) O
  obtain⟨oL,_,_,h1,_⟩:=id hn
  refine h _ #[I.ok,I.os,I.bare,#[λb o e n G l=>?_,λb o e n G l=>?_,I.base.free,λb o e l=>?_,I.base.tups,I.base.frzs,I.base.tbls],#[_,h0,λj y v' g C e3=>?_],λy c e=>?_,I.free,I.freeC,λp hp=>?_,t #[oL,h1,I.free] f,by simpa using I.len] #[_,f,.inl Z]
  ·exact(f.2 b (FJ (FM (FF e) I.ok.above))).trans (I.base.keep b o e n G l)
  ·obtain⟨sl,g⟩:=I.base.slot b o e n G l
   exact#[sl,(f.2 b (FJ (FM (FF e) I.ok.above))).trans g]
  ·obtain⟨o',g⟩:=I.base.there b o e l
   exact#[o',(f.2 b (FJ (FM (FF e) I.ok.above))).trans g]
  ·by_cases J:j=i
   ·subst J
    rw[L]at g;cases g
    rw[IP D]at C
    cases C
    exact#[u,r,.inl #[hk,MQ]]
   ·rw[HZ (Gp J)]at C
    obtain⟨u',r',q⟩:=hl j y v' g C e3
    refine#[u',r',?_]
    rcases q with ⟨k,e⟩ | ⟨k,c,e,z⟩
    ·refine .inl #[k,?_]
     have:y≠x:=λe=>J (Q9 hN g (e▸L))
     simp [this,e]
    ·exact .inr #[k,c,e,z.sameBut f (F y c e)]
  ·obtain⟨W,z⟩:=I.cell y c e
   exact#[W,z.sameBut f (F y c e)]
  ·obtain⟨e,n,U,nf,d⟩:=I.pin p hp
   exact#[(f.2 p.1 U).trans e,n,U,nf,d]
 ·have K:X.fn x=true:=by
   rcases hf with z |z
   ·exact z
   ·rw[z]at hk;cases hk
  obtain⟨c,hc⟩:=I.ok.has x (.inl hk)
  obtain⟨W,z⟩:=I.cell x c hc
  refine wpAny_storeName_cell I.ok.kind hk hc z (λh' P f=>?_)
  obtain⟨oc,R,S⟩:=id z
  refine h { s with heap:=h' } #[I.ok,I.os,I.bare,#[λb o e n G l=>?_,λb o e n G l=>?_,I.base.free,λb o e l=>?_,I.base.tups,I.base.frzs,I.base.tbls],#[m,hn.sameBut f (Gp (F x c hc)),λj y v' g C e3=>?_],λy Y e=>?_,I.free,I.freeC,λp hp=>?_,t #[oc,R,I.freeC x c hc] f,by simpa using I.len] #[c,f,.inr hc]
  ·exact(f.2 b (FJ (FM (FF e) (I.ok.cab x c K hc)))).trans (I.base.keep b o e n G l)
  ·obtain⟨sl,g⟩:=I.base.slot b o e n G l
   exact#[sl,(f.2 b (FJ (FM (FF e) (I.ok.cab x c K hc)))).trans g]
  ·obtain⟨o',g⟩:=I.base.there b o e l
   exact#[o',(f.2 b (FJ (FM (FF e) (I.ok.cab x c K hc)))).trans g]
  ·by_cases J:j=i
   ·subst J
    rw[L]at g;cases g
    rw[IP D]at C
    cases C
    exact#[u,r,.inr #[.inl hk,c,hc,P]]
   ·rw[HZ (Gp J)]at C
    obtain⟨u',r',q⟩:=hl j y v' g C e3
    refine#[u',r',?_]
    rcases q with q | ⟨k,Y,e,z'⟩
    ·exact .inl q
    ·refine .inr #[k,Y,e,z'.sameBut f ?_]
     rintro rfl
     exact J (Q9 hN g (I.ok.inj _ _ _ e hc▸L))
  ·by_cases T:Y=c
   ·subst T;exact#[_,P]
   ·obtain⟨w2,z2⟩:=I.cell y Y e
    exact#[w2,z2.sameBut f T]
  ·obtain⟨e,n,U,nf,d⟩:=I.pin p hp
   refine#[(f.2 p.1 ?_).trans e,n,U,nf,d]
   intro q
   rw[q,R]at e
   have q':oc=p.2:=GK e
   exact d W (by rw[<- q'];exact S)
theorem zq{Q:Unit->Shared->Prop}(I:ap X pins σ H s)(a:X.N.Nodup)(b:X.N[i]?=some x)(c:oC X.env.scope x)(r:ax v u)
  (h:∀S,ap X pins (σ.set i (some v)) H S->Q () S) (d:X.fn x=true∨X.env.scope.names.lookup x=some .local:=by first |exact .inl Z |exact .inr Z |assumption):wpAny M A (storeName X.env x u) Q E s:=
 Qd I a b c r (λS e _=>h S e) d
theorem ap.call'{S:Shared}{ch:List Addr}(I:ap X pins σ H s)(d:S.os=s.os)(u:Un (iB X.stack) ch H H' s.heap S.heap)(h:eJ X.prog X.w H' S.heap)(f:AllBare S.gens)
  (a:∀b∈ch,(b∈X.ex∨X.s₀.heap.objs.size<=b)/\b≠X.env.locals/\(∀x c,X.env.cells.lookup x=some c->c≠b)/\∀p∈X.pn++pins,p.1≠b):ap X pins σ H' S:=by
 obtain⟨h',g',d',t',o⟩:=S
 have e:o=s.os:=d
 subst e
 exact I.call (g':=g') (t':=t') (d':=d') u h f a
end
abbrev XK:=Value->Option Addr->Hp->Prop
abbrev St:=List (Option V)
abbrev VK:=V->Hp->Prop
abbrev TE:=St->Hp->VK->Prop
abbrev TT:=St->Hp->(Bool->Hp->Prop)->Prop
abbrev TA:=St->Hp->(List V->Hp->Prop)->Prop
structure bu where
 nx:St->Hp->Prop
 rt:VK
 bk:St->Hp->Prop:=λ_ _=>False
 ct:St->Hp->Prop:=λ_ _=>False
abbrev TS:=bu->St->Hp->Prop
def EP(X:Cx)(p:List (Addr×Obj))(a:St)(Q:VK)(u:Value)(s:Shared):Prop:=∃v H,ap X p a H s/\ax v u/\Q v H
def TP(X:Cx)(p:List (Addr×Obj))(a:St)(Q:Bool->Hp->Prop)(b:Bool)(s:Shared):Prop:=∃H,ap X p a H s/\Q b H
def AP(X:Cx)(p:List (Addr×Obj))(a:St)(Q:List V->Hp->Prop)(u:List Value)(s:Shared):Prop:=∃v H,ap X p a H s/\aw v u/\Q v H
def SP(X:Cx)(p:List (Addr×Obj))(D:bu)(f:Flow)(s:Shared):Prop:=
 match f with
 | .next=>∃a H,ap X p a H s/\D.nx a H
 | .brk=>∃a H,ap X p a H s/\D.bk a H
 | .cont=>∃a H,ap X p a H s/\D.ct a H
 | .ret u=>∃v a H,ap X p a H s/\ax v u/\D.rt v H
def PE(X:Cx)(e:Expr)(t:TE):Prop:=
 ∀(p:List (Addr×Obj)) (s:Shared) (a:St) (H:Hp) (Q:VK),ap X p a H s->t a H Q->wpAny (model X.prog X.w) X.A (eval e X.env) (EP X p a Q) X.xe s
def PT(X:Cx)(e:Expr)(t:TT):Prop:=
 ∀(p:List (Addr×Obj)) (s:Shared) (a:St) (H:Hp) (Q:Bool->Hp->Prop),ap X p a H s->t a H Q->wpAny (model X.prog X.w) X.A (isTrue e X.env (eval e X.env)) (TP X p a Q) X.xe s
def PW(X:Cx)(e:Expr)(t:TT):Prop:=
 ∀(W:Sem Value) (p:List (Addr×Obj)) (s:Shared) (a:St) (H:Hp) (Q:Bool->Hp->Prop),ap X p a H s->t a H Q->wpAny (model X.prog X.w) X.A (isTrue e X.env W) (TP X p a Q) X.xe s
theorem PW.pt{X:Cx}{e:Expr}{t:TT}(h:PW X e t):PT X e t:=h _
def PA(X:Cx)(e:List Expr)(t:TA):Prop:=
 ∀(P:Pos) (p:List (Addr×Obj)) (s:Shared) (a:St) (H:Hp) (Q:List V->Hp->Prop),ap X p a H s->t a H Q->wpAny (model X.prog X.w) X.A (spliced (backTo P (starEach e X.env))) (AP X p a Q) X.xe s
def PS(X:Cx)(st:Stmt)(t:TS):Prop:=
 ∀(p:List (Addr×Obj)) (s:Shared) (a:St) (H:Hp) (D:bu),ap X p a H s->t D a H->wpAny (model X.prog X.w) X.A (exec st X.env) (SP X p D) X.xe s
def ls(X:Cx)(st:List Stmt)(t:TS):Prop:=
 ∀(p:List (Addr×Obj)) (s:Shared) (a:St) (H:Hp) (D:bu),ap X p a H s->t D a H->wpAny (model X.prog X.w) X.A (execs st X.env) (SP X p D) X.xe s
theorem aW{b:Type}{t:Sem b}{Q q:b->Shared->Prop}{M:Model}{A:Around}{E:Value->Shared->Prop}{s:Shared}(h:wpAny M A t Q E s)(H:∀a s,Q a s->q a s):wpAny M A t q E s:=GY h H λ_ _ x=>x
section
variable {X:Cx}
def be(i:Nat):TE:=λa H Q=>∃v,a[i]?=some (some v)/\Q v H
def tC(v:V):TE:=λ_ H Q=>Q v H
theorem AH(j:X.N[i]?=some x)(k:DG X.env.scope x)(b:(x==("__debug__":Str))=false:=by decide)(d:(x==("__classdict__":Str))=false:=by decide):PE X (.Name x n) (be i):=by
 intro p s o H Q I h
 obtain⟨v,e,h⟩:=h
 obtain⟨m,q,t⟩:=I.loc
 obtain⟨u,r,l⟩:=t i x v j e k
 have f:EP X p o Q u s:=#[v,H,I,r,h]
 rcases l with ⟨hk,w⟩ | ⟨hk,c,g,a⟩
 ·exact wpAny_Name (wpAny_loadName_local I.ok.kind hk q w f) b
 ·rcases hk with hk |hk
  ·exact wpAny_Name (wpAny_loadName_cell I.ok.kind hk g a f) b
  ·exact wpAny_Name (wpAny_loadName_free I.ok.kind hk g a f d) b
theorem jf{i j p}:PE X (.Constant (.int i) j p) (tC (.int i)):=λ_ _ _ H _ I h=>wpAny_Constant_int #[.int i,H,I.tok _,#[_,Z],h]
theorem zL{b j p}:PE X (.Constant (.bool b) j p) (tC (.bl b)):=λ_ _ _ H _ I h=>Constant_bool #[.bl b,H,I,Z,h]
theorem XT{j p}:PE X (.Constant .none j p) (tC .non):=λ_ _ _ H _ I h=>Constant_none #[.non,H,I,Z,h]
theorem jl{x j p}:PE X (.Constant (.str x) j p) (tC (.str x)):=λ_ _ _ H _ I h=>Calls.Constant_str #[.str x,H,I.tok _,#[_,Z],h]
def Gl(X:Cx)(x:Str):Prop:=X.env.kindOf x=some .globalImplicit
theorem zg{Q:Value->Shared->Prop}(I:ap X p e H s)(a:Gl X x)(b:X.mg x=some u)(h:Q u s)
  (c:(x==("__debug__":Str))=false:=by decide):wpAny (model X.prog X.w) X.A (eval (.Name x d) X.env) Q E s:=
 Calls.Name_function_global I.ok.kind a (Calls.loadGlobal_global (by rw[I.ok.glob];exact I.mod.glob.keeps I.bk) b h) c
theorem zR{Q:Value->Shared->Prop}(I:ap X p j H s)(a:Gl X x)(b:X.mg x=none)(c:bootBuiltins x=some u)(h:Q u s)
  (d:x≠"__name__":=by decide) (e:(x==("__debug__":Str))=false:=by decide):wpAny (model X.prog X.w) X.A (eval (.Name x f) X.env) Q E s:=by
 obtain⟨m,g,i⟩:=I.mod.blt
 exact Calls.Name_function_global I.ok.kind a (Calls.loadGlobal_builtin (by rw[I.ok.glob];exact I.mod.glob.keeps I.bk) b (by rw[I.ok.blt];exact g.keeps I.bk) ((i x d).trans c) h) e
theorem qR{v:V}(a:Gl X x)(b:X.mg x=some u)(r:ax v u)(c:(x==("__debug__":Str))=false:=by decide):PE X (.Name x p) (tC v):=
 λ_ _ _ H _ I h=>zg I a b #[v,H,I,r,h] c
variable {a b:Expr}{ta tb:TE}{pos:Pos}
def PC(X:Cx)(o:CmpOp)(a b:Expr)(t:TE):Prop:=
 ∀(p:List (Addr×Obj)) (s:Shared) (d:St) (H:Hp) (Q:VK),ap X p d H s->t d H Q->
  wpAny (model X.prog X.w) X.A (eval a X.env) (λv S=>wpAny (model X.prog X.w) X.A (eval b X.env) (λu c=>wpAny (model X.prog X.w) X.A (compareOp o v u) (EP X p d Q) X.xe c) X.xe S) X.xe s
def Dr(ta:TE):TE:=λc H Q=>ta c H λx h=>Q (.bl (!decide (x= .non))) h
theorem ax.none_iff(r:ax x v):(v==Value.none)=decide (x= .non):=by
 cases x with
 |non=>cases r;rfl
 |bl _=>cases r;rfl
 |int _=>obtain⟨t,rfl⟩:=r;rfl
 |str _=>obtain⟨t,rfl⟩:=r;rfl
 |byt _=>obtain⟨t,rfl⟩:=r;rfl
 |flt _=>obtain⟨t,rfl⟩:=r;rfl
 |ref _=>cases r;rfl
 |ty _=>cases r;rfl
theorem JQ{j p}(c:PE X a ta):PC X .IsNot a (.Constant .none j p) (Dr ta):=by
 intro P s d H Q I h
 refine aW (c P s d H _ I h) λv S z=>?_
 obtain⟨x,e,i,r,q⟩:=z
 exact Constant_none (isnot_none_gen #[.bl _,e,i,by rw[r.none_iff];rfl,q])
def tB(t:TE):TT:=λd H Q=>t d H λx h=>∃c,x= .bl c/\Q c h
theorem Jj(h:PC X o a b t)(e:behindInMarks o b=false:=by first |exact n _ MO MO |rfl):PT X (.Compare a [o] [b] pos) (tB t):=by
 intro p s f H Q I g
 refine wpAny_isTrue_Compare1 (aW (h p s f H _ I g) λv S e=>aW e λu m i=>aW i λc w z=>?_) e
 obtain⟨x,j,k,r,l⟩:=z
 obtain⟨d,rfl,q⟩:=l
 cases r
 exact IW #[j,k,q]
theorem rE(h:PE X e t)(c:∀w,isTrue e X.env w=(do let v <- w;standAt e.pos;holding [v] (truthy v)):=by intro _;rfl):PT X e (tB t):=by
 intro p s f H Q I g
 refine isTrue_plain (aW (h p s f H _ I g) λv S z=>?_) (c _)
 obtain⟨x,i,j,r,k⟩:=z
 obtain⟨d,rfl,q⟩:=k
 cases r
 exact IW #[i,j,q]
variable {tA tB':TT}{rest:List Expr}
def Es(t u:TT):TT:=λd H Q=>t d H λc h=>if c=true then u d h Q else Q false h
def Fi(t u:TT):TT:=λd H Q=>t d H λc h=>if c=true then Q true h else u d h Q
def Ez(t:TT):TT:=λd H Q=>t d H λc h=>Q (!c) h
theorem zF(d:PT X a tA):PW X (.BoolOp .And [a] pos) tA:=by
 intro w p s f H Q I h
 refine isTrue_and (aW (d p s f H Q I h) λc S e=>?_)
 cases c with
 |true=>exact isTrue_and_nil e
 |false=>exact e
theorem Jk(d:PT X a tA):PW X (.BoolOp .Or [a] pos) tA:=by
 intro w p s f H Q I h
 refine isTrue_or (aW (d p s f H Q I h) λc S e=>?_)
 cases c with
 |false=>exact isTrue_or_nil e
 |true=>exact e
theorem zS(f:PT X a tA)(g:PW X (.BoolOp .And (b::rest) pos) tB'):PW X (.BoolOp .And (a::b::rest) pos) (Es tA tB'):=by
 intro w p s d H Q I h
 refine isTrue_and (aW (f p s d H _ I h) λc S z=>?_)
 obtain⟨e,i,q⟩:=z
 cases c with
 |true=>exact g w p S d e Q i q
 |false=>exact#[e,i,q]
theorem Qa(f:PT X a tA)(g:PW X (.BoolOp .Or (b::rest) pos) tB'):PW X (.BoolOp .Or (a::b::rest) pos) (Fi tA tB'):=by
 intro w p s d H Q I h
 refine isTrue_or (aW (f p s d H _ I h) λc S z=>?_)
 obtain⟨e,i,q⟩:=z
 cases c with
 |true=>exact#[e,i,q]
 |false=>exact g w p S d e Q i q
theorem rA(d:PT X a tA):PT X (.UnaryOp .Not a pos) (Ez tA):=by
 intro p s e H Q I h
 exact isTrue_not (d p s e H (λc f=>Q (!c) f) I h)
def EA(ta tb:TE):TE:=λd H Q=>ta d H λx h=>∃c,x= .bl c/\if c=true then Q (.bl true) h else tb d h Q
theorem AG(h:PE X a t):PE X (.BoolOp o [a] pos) t:=λp s c H Q I d=>BoolOp_one (h p s c H Q I d)
theorem CO(f:PE X a ta)(g:PE X (.BoolOp .Or (b::rest) pos) tb):PE X (.BoolOp .Or (a::b::rest) pos) (EA ta tb):=by
 intro p s d H Q I h
 refine BoolOp_or (aW (f p s d H _ I h) λv S z=>?_)
 obtain⟨x,e,i,r,q⟩:=z
 obtain⟨c,rfl,q⟩:=q
 cases r
 refine IW ?_
 cases c with
 |false=>exact g p S d e Q i q
 |true=>exact#[.bl true,e,i,Z,q]
def Fh(t:TT)(ta tb:TE):TE:=λd H Q=>t d H λc h=>if c=true then ta d h Q else tb d h Q
theorem zb(g:PT X c tA)(j:PE X a ta)(k:PE X b tb):PE X (.IfExp c a b pos) (Fh tA ta tb):=by
 intro p s e H Q I h
 refine wpAny_IfExp (aW (g p s e H _ I h) λd S z=>?_)
 obtain⟨f,i,q⟩:=z
 cases d with
 |true=>exact j p S e f Q i q
 |false=>exact k p S e f Q i q
end
def aP(K:Frag)(H:Hp)(a:Addr)(x:List V):Prop:=
 Rd H a (.lst x)∨
  ∃(o:Obj) (i:Array Value) (n:Nat),K.lookup a=some o/\o.cls= .type "list"/\o.dict=none/\o.data= .seq i n/\i.size<=sizeLine/\aw x i.toList
def aA(K:Frag)(H:Hp)(a:Addr)(x:List V):Prop:=
 Rd H a (.tup x)∨
  ∃(o:Obj) (i:Array Value) (n:Nat),K.lookup a=some o/\o.cls= .type "tuple"/\o.data= .seq i n/\i.size<=sizeLine/\aw x i.toList
noncomputable def DZ:Value->Option V
 | .none=>some .non
 | .bool b=>some (.bl b)
 | .int i _=>some (.int i)
 | .str x _=>some (.str x)
 | .bytes b _=>some (.byt b)
 | .float b _=>some (.flt b)
 | .ref a=>some (.ref a)
 | .type n=>some (.ty n)
 |_=>none
theorem ax.abs(r:ax x u):DZ u=some x:=by
 cases x with
 |non=>cases r;rfl
 |bl _=>cases r;rfl
 |int _=>obtain⟨t,rfl⟩:=r;rfl
 |str _=>obtain⟨t,rfl⟩:=r;rfl
 |byt _=>obtain⟨t,rfl⟩:=r;rfl
 |flt _=>obtain⟨t,rfl⟩:=r;rfl
 |ref _=>cases r;rfl
 |ty _=>cases r;rfl
theorem ax.inj{x:V}(r:ax x u)(q:ax y u):x=y:=GK (r.abs.symm.trans q.abs)
theorem aw.inj:∀{x y:List V} {u:List Value},aw x u->aw y u->x=y
 |_,_,_,.nil,.nil=>rfl
 |_,_,_,.cons r t,.cons R T=>by rw[r.inj R,aw.inj t T]
section
variable {X:Cx}{pins:List (Addr×Obj)}{σ:St}{H:Hp}{s:Shared}{a:Addr}{xs ys:List V}
theorem aP.of{K:Frag}(h:H a=some (.lst xs)):aP K H a xs:=.inl (.inl h)
theorem aA.of{K:Frag}(h:H a=some (.tup xs)):aA K H a xs:=.inl (.inl h)
theorem ap.list(I:ap X pins σ H s)(h:aP X.K H a xs):∃i:List Value,aw xs i/\PlainL s.heap a i.toArray/\xs.length<=sizeLine:=by
 rcases h with h | ⟨o,i,n,b,c,d,f,g,r⟩
 ·obtain⟨z,i,n,r,e⟩:=h.ok I.hok
  exact#[i,r,#[_,n,e,Z,Z,Z],z]
 ·refine#[i.toList,r,#[o,n,I.kIn a o b,c,d,by simpa using f],?_]
  have e:=r.length
  simp only[Ga]at e
  omega
theorem ap.tuple(I:ap X pins σ H s)(h:aA X.K H a xs):∃i:List Value,aw xs i/\IsTup s.heap a i.toArray/\xs.length<=sizeLine:=by
 rcases h with h | ⟨o,i,n,b,c,d,f,r⟩
 ·obtain⟨z,i,r,p⟩:=h.ok I.hok
  exact#[i,r,p,z]
 ·refine#[i.toList,r,#[o,I.kIn a o b,c,n,by simpa using d],?_]
  have e:=r.length
  simp only[Ga]at e
  omega
theorem ap.list_inj(I:ap X pins σ H s)(h:aP X.K H a xs)(c:aP X.K H a ys):xs=ys:=by
 obtain⟨b,r,⟨o,n,e,_,_,d⟩,_⟩:=I.list h
 obtain⟨i,R,⟨O,N,E,_,_,D⟩,_⟩:=I.list c
 rw[e]at E;cases E
 rw[d]at D
 injection D with f _
 have:b=i:=by simpa using Hf Array.toList f
 subst this
 exact r.inj R
theorem ap.tuple_inj(I:ap X pins σ H s)(h:aA X.K H a xs)(c:aA X.K H a ys):xs=ys:=by
 obtain⟨b,r,⟨o,e,_,n,d⟩,_⟩:=I.tuple h
 obtain⟨i,R,⟨O,E,_,N,D⟩,_⟩:=I.tuple c
 rw[e]at E;cases E
 rw[d]at D
 injection D with f _
 have:b=i:=by simpa using Hf Array.toList f
 subst this
 exact r.inj R
end
noncomputable abbrev Cx.wish(X:Cx)(E:Value->Shared->Prop):Cx:={ X with xe:=E }
noncomputable abbrev Cx.nox(X:Cx):Cx:=X.wish λ_ _=>False
theorem Cx.Ok.wish{X:Cx}(o:X.Ok)(E:Value->Shared->Prop):(X.wish E).Ok:=
 #[o.mod,o.kind,o.glob,o.blt,o.above,o.inj,o.has,o.cab,o.hd,o.frames,o.stk,o.exf,o.bs,o.bsz,o.noex,o.exfs,o.funs,o.frf]
theorem Cx.Ok.unwish{X:Cx}(o:(X.wish E).Ok):X.Ok:=
 #[o.mod,o.kind,o.glob,o.blt,o.above,o.inj,o.has,o.cab,o.hd,o.frames,o.stk,o.exf,o.bs,o.bsz,o.noex,o.exfs,o.funs,o.frf]
section
variable {X:Cx}{pins:List (Addr×Obj)}{σ:St}{H:Hp}{s:Shared}{E:Value->Shared->Prop}
theorem ap.wish(I:ap X pins σ H s)(E:Value->Shared->Prop):ap (X.wish E) pins σ H s:=#[I.ok.wish E,I.os,I.bare,I.base,I.loc,I.cell,I.free,I.freeC,I.pin,I.hok,I.len]
theorem ap.unwish(I:ap (X.wish E) pins σ H s):ap X pins σ H s:=#[I.ok.unwish,I.os,I.bare,I.base,I.loc,I.cell,I.free,I.freeC,I.pin,I.hok,I.len]
theorem SP.unwish(h:SP (X.wish E) pins D f c):SP X pins D f c:=by
 cases f with
 |next=>obtain⟨a,b,I,q⟩:=h;exact#[a,b,I.unwish,q]
 |brk=>obtain⟨a,b,I,q⟩:=h;exact#[a,b,I.unwish,q]
 |cont=>obtain⟨a,b,I,q⟩:=h;exact#[a,b,I.unwish,q]
 |ret u=>obtain⟨v,a,b,I,r,q⟩:=h;exact#[v,a,b,I.unwish,r,q]
theorem ls.nox{st:List Stmt}(h:ls X.nox st t):ls X st t:=λpins s σ H D I a=>
 GY (h pins s σ H D (I.wish _) a) (λ_ _ q=>q.unwish) λ_ _ z=>False.elim z
end
section
variable {X:Cx}{st:Stmt}{rest:List Stmt}{t u:TS}{e:Expr}{te:TE}{pos:Pos}
def tH:TS:=λD a H=>D.nx a H
def dO(t u:TS):TS:=λD a H=>t { D with nx:=u D } a H
theorem jp:ls X [] tH:=λ_ _ a H _ I h=>Ie #[a,H,I,h]
theorem jd(b:PS X st t)(c:ls X rest u):ls X (st::rest) (dO t u):=by
 intro p s d H D I h
 refine LH (aW (b p s d H { D with nx:=u D } I h) λf S q=>?_)
 cases f with
 |next=>
  obtain⟨a,g,i,q⟩:=q
  exact c p S a g D i q
 |ret v=>exact q
 |brk=>exact q
 |cont=>exact q
theorem jg(a:PS X st t):ls X [st] t:=by
 intro p s b H D I h
 refine LH (aW (a p s b H D I h) λf S q=>?_)
 cases f with
 |next=>exact Ie q
 |ret v=>exact q
 |brk=>exact q
 |cont=>exact q
theorem ap.quiet(I:ap X p a H s):interactive X.env=false:=by simp [interactive,I.ok.kind]
def nX(te:TE):TS:=λD a H=>te a H λ_ h=>D.nx a h
theorem jT(b:PE X e te)(c:swapsWith e none pos.line X.env=pure false:=by rfl):PS X (.Expr e pos) (nX te):=by
 intro p s a H D I h
 exact wpAny_Expr_any (aW (b p s a H _ I h) λv S #[x,d,i,r,q]=>#[a,d,i,q]) I.quiet c
def eF(te:TE):TS:=λD a H=>te a H D.rt
theorem jo(b:PE X e te):PS X (.Return (some e) pos) (eF te):=by
 intro p s a H D I h
 exact wpAny_Return_some (aW (b p s a H _ I h) λv S #[x,c,i,r,q]=>#[x,a,c,i,r,q])
def io(c:TT)(t u:TS):TS:=λD a H=>c a H λb h=>if b=true then t D a h else u D a h
theorem jx{c:Expr}{a b:List Stmt}{T:TT}(j:PT X c T)(k:ls X a t)(l:ls X b u):PS X (.If c a b pos) (io T t u):=by
 intro p s f H D I h
 refine wpAny_If (aW (j p s f H _ I h) λd S z=>?_)
 obtain⟨g,i,q⟩:=z
 cases d with
 |true=>exact k p S f g D i q
 |false=>exact l p S f g D i q
end
abbrev TG:=V->St->Hp->(St->Hp->Prop)->Prop
abbrev uf:=List V->St->Hp->(St->Hp->Prop)->Prop
def PG(X:Cx)(T:Expr)(t:TG):Prop:=
 ∀(p:List (Addr×Obj)) (s:Shared) (b:St) (H:Hp) (v:V) (u:Value) (Q:St->Hp->Prop),ap X p b H s->ax v u->t v b H Q->
  wpAny (model X.prog X.w) X.A (assign T X.env u) (λ_ S=>∃a h,ap X p a h S/\Q a h) X.xe s
def By(X:Cx)(T:List Expr)(t:uf):Prop:=
 ∀(p:List (Addr×Obj)) (s:Shared) (b:St) (H:Hp) (v:List V) (u:List Value) (Q:St->Hp->Prop),ap X p b H s->aw v u->t v b H Q->
  wpAny (model X.prog X.w) X.A (assignInOrder ((assignEach T X.env).map (·.2)) u) (λ_ S=>∃a h,ap X p a h S/\Q a h) X.xe s
abbrev yi:=V->V->V->Hp->(Hp->Prop)->Prop
def BO(X:Cx)(t:yi):Prop:=
 ∀(p:List (Addr×Obj)) (s:Shared) (a:St) (H:Hp) (o i v:V) (O I u:Value) (Q:Hp->Prop),ap X p a H s->ax o O->ax i I->ax v u->t o i v H Q->
  wpAny (model X.prog X.w) X.A (setItem O I u) (λ_ S=>∃h,ap X p a h S/\Q h) X.xe s
abbrev DC:=V->V->Hp->VK->Prop
def EL(X:Cx)(o:Operator)(t:DC):Prop:=
 ∀(p:List (Addr×Obj)) (s:Shared) (a:St) (H:Hp) (x y:V) (v u:Value) (Q:VK),ap X p a H s->ax x v->ax y u->t x y H Q->
  wpAny (model X.prog X.w) X.A (inplaceOp o v u) (EP X p a Q) X.xe s
section
variable {X:Cx}{pos:Pos}
def bK(i:Nat):TG:=λv a H Q=>Q (a.set i (some v)) H
theorem jw{i:Nat}{x:Str}(a:X.N.Nodup)(b:X.N[i]?=some x)(c:oC X.env.scope x)(d:X.fn x=true∨X.env.scope.names.lookup x=some .local:=by first |exact .inl Z |exact .inr Z |assumption):PG X (.Name x pos) (bK i):=by
 intro p s f H v u Q I r h
 exact wpAny_assign_Name (zq I a b c r (λS e=>#[_,H,e,h]) d)
def uU:uf:=λv a H Q=>v=[]/\Q a H
def dR(t:TG)(u:uf):uf:=λV b H Q=>∃v r,V=v::r/\t v b H λa h=>u r a h Q
theorem j6:By X [] uU:=by
 intro p s a H v u Q I r h
 obtain⟨e,h⟩:=h
 subst e
 cases r
 exact assignInOrder_nil #[a,H,I,h]
theorem jz(b:PG X e t)(c:By X E u)
  (d:(assignEach (e::E) X.env).map (·.2)=assign e X.env::(assignEach E X.env).map (·.2):=by rfl):By X (e::E) (dR t u):=by
 intro p s f H V U Q I r h
 obtain⟨v,k,g,h⟩:=h
 subst g
 cases r with
 |cons r R=>
  rw[d]
  refine assignInOrder_cons (aW (b p s f H _ _ _ I r h) λ_ S z=>?_)
  obtain⟨a,i,j,q⟩:=z
  exact c p S a i _ _ Q j R q
def uV(K:Frag)(n:Nat)(t:uf):TG:=λv b H Q=>∃a x,v= .ref a/\aA K H a x/\x.length=n/\t x b H Q
theorem ze{n:Nat}(g:X.calm=true)(h:By X E t)
  (i:(assignEach E X.env).length=n:=by rfl) (c:(assignEach E X.env).findIdx? (·.1)=none:=by rfl):PG X (.Tuple E k pos) (uV X.K n t):=by
 intro p s f H v u Q I r d
 obtain⟨a,x,j,l,m,d⟩:=d
 subst j
 cases r
 obtain⟨q,R,w,B⟩:=I.tuple l
 refine assign_Tuple_tuple (I.ok.hd g) w (by simp [i,<- m,R.length]) c λy z=>?_
 have A:ap X p f H { s with heap:=y }:=I.kept (t':=s.toks) λb o e=>z b o (FJ (FF e)) e
 exact h p _ f H x _ Q A (by simpa using R) d
def yC(T b:TE)(t:yi):TG:=λv a H Q=>T a H λo h=>b a h λi c=>t o i v c λd=>Q a d
theorem qH{o i:Expr}{T c:TE}{t:yi}(d:PE X o T)(e:PE X i c)(f:BO X t)
  (g:∀v,assign (.Subscript o i pos) X.env v=(do
   let O <- holding [v] (eval o X.env)
   let a <- holding [v,O] (eval i X.env)
   standAt pos
   holding [v,O,a] (setItem O a v)
   release [v,O,a] []):=by intro _;rfl):PG X (.Subscript o i pos) (yC T c t):=by
 intro p s b H v u Q I r h
 rw[g]
 refine Ft (Gc (aW (d p s b H _ I h) λO S z=>?_))
 obtain⟨x,j,k,R,q⟩:=z
 refine Ft (Gc (aW (e p S b j _ k q) λa l z=>?_))
 obtain⟨y,m,n,w,A⟩:=z
 refine Ft (Iu (Ft (Gc (aW (f p l b m x y v O a u _ n R w r A) λ_ E z=>?_))))
 obtain⟨B,C,D⟩:=z
 exact wpAny_release #[b,B,C,D]
def dC(t:TE)(g:TG):TS:=λD a H=>t a H λx h=>g x a h D.nx
theorem zf{t e:Expr}{T:TE}{g:TG}(b:PE X e T)(c:PG X t g)(d:swapsWithSole [t] e pos.line X.env=pure false:=by rfl)(f:swappedStores [t] e X.env=pure none:=by rfl)
  (i:(assignEach [t] X.env).map (·.2)=[assign t X.env]:=by rfl):PS X (.Assign [t] e pos) (dC T g):=by
 intro p s a H D I h
 refine wpAny_Assign_stores (aW (b p s a H _ I h) λv S z=>?_) d f
 obtain⟨x,j,k,r,Q⟩:=z
 rw[i]
 exact aW (c p S a j x v _ k r Q) λ_ l q=>q
theorem kP{i:Nat}{x:Str}{e:Expr}{t:TE}{p:Pos}(a:X.N.Nodup)(b:X.N[i]?=some x)(c:oC X.env.scope x)(d:PE X e t)(f:swapsWith e (some (.Name x p)) pos.line X.env=pure false:=by rfl)(g:X.fn x=true∨X.env.scope.names.lookup x=some .local:=by first |exact .inl Z |exact .inr Z |assumption):
  PS X (.Assign [.Name x p] e pos) (dC t (bK i)):=by
 intro P s j H D I h
 refine wpAny_Assign_Name (aW (d P s j H _ I h) λv S z=>?_) f
 obtain⟨y,k,l,r,q⟩:=z
 exact zq l a b c r (λn m=>#[_,k,m,q]) g
def Et(i:Nat)(t:TE)(T:DC):TS:=λD a H=>∃x,a[i]?=some (some x)/\t a H λy h=>T x y h λz b=>D.nx (a.set i (some z)) b
theorem AN{i:Nat}(q:X.N.Nodup)(g:X.N[i]?=some x)(f:oC X.env.scope x)(t:PE X e T)(B:EL X o C)(E:X.fn x=true∨X.env.scope.names.lookup x=some .local:=by first |exact .inl Z |exact .inr Z |assumption):
  PS X (.AugAssign (.Name x j) o e pos) (Et i T C):=by
 intro p s n H D I h
 obtain⟨v,F,h⟩:=h
 obtain⟨m,J,K⟩:=I.loc
 have V:DG X.env.scope x:=by rcases f with k |k;exact .inl k;exact .inr (.inl k)
 obtain⟨u,r,l⟩:=K i x v g F V
 refine wpAny_AugAssign_Name ?_
 have G:wpAny (model X.prog X.w) X.A (eval e X.env) (λw S=>wpAny (model X.prog X.w) X.A (inplaceOp o u w) (λr d=>wpAny (model X.prog X.w) X.A (storeName X.env x r) (λ_=>SP X p D .next) X.xe d) X.xe S) X.xe s:=by
  refine aW (t p s n H _ I h) λw L a=>?_
  obtain⟨y,M,O,R,Q⟩:=a
  refine aW (B p L n M v y u w _ O r R Q) λz s2 a=>?_
  obtain⟨zv,P,U,W,Y⟩:=a
  exact zq U q g f W (λs3 I3=>#[_,P,I3,Y]) E
 rcases l with ⟨hk,hm⟩ | ⟨hk,c,hc,b⟩
 ·exact wpAny_loadName_local I.ok.kind hk J hm G
 ·rcases hk with hk |hk
  ·exact wpAny_loadName_cell I.ok.kind hk hc b G
  ·rcases f with k |k
   ·have:X.env.scope.names.lookup x=some .free:=hk
    rw[k]at this;cases this
   ·have:X.env.scope.names.lookup x=some .free:=hk
    rw[k]at this;cases this
def EY(f:Int->Int->Int):DC:=λx y H Q=>∃i j,x= .int i/\y= .int j/\Q (.int (f i j)) H
theorem yJ:EL X .Add (EY λi j=>i+j):=by
 intro p s a H x y v u Q I r R h
 obtain⟨i,j,e,E,q⟩:=h
 subst e;subst E
 obtain⟨t,rfl⟩:=r
 obtain⟨T,rfl⟩:=R
 exact iadd_int #[.int _,H,I.tok _,#[_,Z],q]
end
section
variable {X:Cx}{pos:Pos}
def tJ(c:TT)(t:TS):TS:=λD a H=>∃W:Nat->St->Hp->Prop,(∃m,W m a H)/\∀m a H,W m a H->
 c a H λb h=>if b=true then ∃N:St->Hp->Prop,(∀d e,N d e->∃M,M < m/\W M d e)/\t { D with nx:=N,ct:=N,bk:=D.nx } a h else D.nx a h
theorem Xa(o:PassesOwn (model X.prog X.w) X.A X.env X.xe)(E:PT X c T)(F:ls X B G):PS X (.While c B [] pos) (tJ T G):=by
 intro p s J H D I h
 obtain⟨W,⟨M,K⟩,t⟩:=h
 refine wpAny_While (codeAny_whileLoop (λn S=>∃e r,ap X p e r S/\W n e r) ?_ M #[J,H,I,K])
 rintro n L ⟨d,u,O,P⟩
 refine Io o (aW (E p L d u _ O (t n d u P)) λb R z=>?_)
 obtain⟨x,y,q⟩:=z
 cases b with
 |true=>
  obtain⟨N,C,q⟩:=q
  rw[FQ Z]
  refine Io o (aW (F p R d x _ y q) λf U Q=>?_)
  cases f with
  |next=>
   obtain⟨a,g,i,j⟩:=Q
   obtain⟨m,k,l⟩:=C a g j
   exact#[m,k,a,g,i,l]
  |cont=>
   obtain⟨a,g,i,j⟩:=Q
   obtain⟨m,k,l⟩:=C a g j
   exact#[m,k,a,g,i,l]
  |brk=>exact Q
  |ret v=>exact Q
 |false=>
  rw[FV FH]
  exact Ie #[d,x,y,q]
end
structure It where
 go:Nat->Hp->Prop
 yld:Nat->Hp->V->Hp->Prop
 stop:Nat->Hp->Prop
def fc(X:Cx)(P:List (Addr×Obj))(H:Hp)(b:Addr):Prop:=
 H b=none/\b≠X.env.locals/\b∉X.fs/\(b∈X.ex∨X.s₀.heap.objs.size<=b)/\(∀x c,X.env.cells.lookup x=some c->c≠b)/\∀p∈X.pn++P,p.1≠b
theorem ap.fpOk{X:Cx}{d:Hp}(I:ap X a i H s)(h:s.heap.objs.size<=b)(f:d b=none):fc X a d b:=by
 refine#[f,GJ (FM I.lt h),I.nofs h,.inr (FL I.sz h),λx c e z=>?_,λp g z=>?_]
 ·obtain⟨v,q⟩:=I.cell x c e
  exact absurd (FM q.lt (by rw[z];exact h)) (G7 _)
 ·exact absurd (FM (FF (I.pin p g).1) (by rw[z];exact h)) (G7 _)
structure me(P:Program)(w:World)(K:Frag)(tg:Expr)(J:It)(fp:List Addr)(it:Addr)(tn:Nat->Heap->Prop):Prop where
 mem:it∈fp
 obj:∀i h,tn i h->∀b∈fp,∃o,h.get? b=some o/\∀v,o.data≠ .cell v
 keep:∀i h h',tn i h->(∀b∈fp,∀o,h.get? b=some o->h'.get? b=some o)->tn i h'
 item:∀(X:Cx),X.prog=P->X.w=w->X.K=K->X.calm=true->∀(i:Nat) (pins:List (Addr×Obj)) (s:Shared) (σ:St) (H:Hp) (E:Value->Shared->Prop),ap X pins σ H s->(∀b∈fp,fc X pins H b)->tn i s.heap->J.go i H->
  wpAny (model P w) X.A (pyNext (.ref it)) (λr s1=>∃u,r=some u/\
   wpAny (model P w) X.A (letOwnedTupleGo tg (.ref it) u) (λ_ s2=>∃x H',ap X pins σ H' s2/\ax x u/\J.yld i H x H'/\tn (i+1) s2.heap/\∀b∈fp,H' b=none) E s1) E s
 done:∀(X:Cx),X.prog=P->X.w=w->X.K=K->X.calm=true->∀(i:Nat) (pins:List (Addr×Obj)) (s:Shared) (σ:St) (H:Hp) (E:Value->Shared->Prop),ap X pins σ H s->(∀b∈fp,fc X pins H b)->tn i s.heap->J.stop i H->
  wpAny (model P w) X.A (pyNext (.ref it)) (λr s1=>r=none/\ap X pins σ H s1) E s
 self:∀(A:Around) (i:Nat) (s:Shared) (Q:Value->Shared->Prop) (E:Value->Shared->Prop),tn i s.heap->Q (.ref it) s->wpAny (model P w) A (pyIter (.ref it)) Q E s
abbrev TI:=St->Hp->(It->Hp->Prop)->Prop
def EK(X:Cx)(p:List (Addr×Obj))(a:St)(T:Expr)(R:It->Hp->Prop)(i:Value)(s:Shared):Prop:=
 ∃(I:Addr) (f:List Addr) (t:Nat->Heap->Prop) (J:It) (H:Hp),i= .ref I/\ap X p a H s/\me X.prog X.w X.K T J f I t/\t 0 s.heap/\(∀b∈f,fc X p H b)/\R J H
def PI(X:Cx)(t iter:Expr)(W:TI):Prop:=
 ∀(p:List (Addr×Obj)) (s:Shared) (a:St) (H:Hp) (R:It->Hp->Prop),ap X p a H s->W a H R->
  wpAny (model X.prog X.w) X.A (eval iter X.env) (λv S=>wpAny (model X.prog X.w) X.A (pyIter v) (EK X p a t R) X.xe S) X.xe s
theorem YB{s : Shared}{n : String}{Q : Unit -> Shared -> Prop}(a : s.heap.get? i = some o)(b : o.cls = .type n)(c : o.data = .fields v)
    (d : ["enumerate", "zip", "dict_itemiterator", "dict_reverseitemiterator", "odict_iterator", "itertools.zip_longest", "itertools.pairwise"].contains n = false) (H : Q () s) : wpAny M A (letOwnedTupleGo t (.ref i) u) Q E s := by
  unfold letOwnedTupleGo
  cases t <;> first
    | exact Fv H
    | (cases u <;> first
        | exact Fv H
        | (refine Ft (wpAny_load a ?_)
           rw [b, c]
           show wpAny M A (if (["enumerate", "zip", "dict_itemiterator", "dict_reverseitemiterator", "odict_iterator", "itertools.zip_longest", "itertools.pairwise"].contains n && v[0]? == some (rawInt _)) = true then _ else _) Q E s
           rw [FV (by intro h; rw [d, Bool.false_and] at h; cases h)]
           exact Fv H))
noncomputable def xj(K:Frag)(a:Addr):It:=
 #[λi H=>∃X x,aP K H a X/\X[i]?=some x,λi H x h=>h=H/\∀X,aP K H a X->X[i]?=some x,λi H=>∃X,aP K H a X/\X.length<=i]
noncomputable def uu(K:Frag)(a:Addr):It:=
 #[λi H=>∃X x,aA K H a X/\X[i]?=some x,λi H x h=>h=H/\∀X,aA K H a X->X[i]?=some x,λi H=>∃X,aA K H a X/\X.length<=i]
noncomputable def ut(lo:Int)(n:Nat):It:=#[λi _=>i < n,λi H x h=>h=H/\x= .int (lo+i),λi _=>n<=i]
theorem Zr{P:Program}{K:Frag}(a g:Addr):me P w K tg (xj K a) [g] g (λi h=>h.IsListIter g a i) where
 mem:=by simp
 obj:=λi h st b j=>by
  have e:b=g:=by simpa using j
  subst e
  obtain⟨o,e,c,d⟩:=st
  exact#[o,e,λv z=>by rw[d]at z;cases z]
 keep:=λi h l st k=>st.at λo e=>k g MQ o e
 item:=by
  intro X q r t L i f s M H E I m st y
  subst q r t
  obtain⟨N,x,n,A⟩:=y
  obtain⟨B,R,p,O⟩:=I.list n
  obtain⟨u,Q,T⟩:=R.get A
  obtain⟨F,C,U,D,G,J⟩:=m g MQ
  refine wpAny_pyNext_list_item st p.isList (x:=u) (by simpa using Q) λl S V=>?_
  have W:ap X f M H { s with heap:=l }:=I.turned (t':=s.toks) (λb o j e=>(V.2 b j).trans e) F C D G J
  obtain⟨o,e,c,d⟩:=id S
  exact#[u,Z,YB (s:={ s with heap:=l }) e c d MO #[x,H,W,T,#[Z,λys Y=>by rw[I.list_inj Y n];exact A],S,λb j=>(m b j).1]]
 done:=by
  intro X q r t L i f s M H E I m st y
  subst q r t
  obtain⟨N,n,A⟩:=y
  obtain⟨B,R,p,O⟩:=I.list n
  obtain⟨F,C,U,D,G,J⟩:=m g MQ
  have hl:=R.length
  exact wpAny_pyNext_list_end (I.ok.hd L) st p.isList (by simp;omega) λl eb=>#[Z,I.turned (t':=s.toks) (λb o j e=>eb b o j e) F C D G J]
 self:=λ_ _ _ _ _ st h=>wpAny_pyIter_listiter st h
theorem X2{P:Program}{K:Frag}(a g:Addr):me P w K tg (uu K a) [g] g (λi h=>h.IsTupleIter g a i) where
 mem:=by simp
 obj:=λi h st b j=>by
  have e:b=g:=by simpa using j
  subst e
  obtain⟨o,e,c,d⟩:=st
  exact#[o,e,λv z=>by rw[d]at z;cases z]
 keep:=λi h m st k=>st.at λo e=>k g MQ o e
 item:=by
  intro X r t y L i f s M H E I n st A
  subst r t y
  obtain⟨N,x,q,B⟩:=A
  obtain⟨l,R,p,O⟩:=I.tuple q
  obtain⟨u,Q,T⟩:=R.get B
  obtain⟨F,C,U,D,G,J⟩:=n g MQ
  refine wpAny_pyNext_tuple_item st (show s.heap.IsTuple a l.toArray from p) (x:=u) (by simpa using Q) λm S V=>?_
  have W:ap X f M H { s with heap:=m }:=I.turned (t':=s.toks) (λb o j e=>(V.2 b j).trans e) F C D G J
  obtain⟨o,e,c,d⟩:=id S
  exact#[u,Z,YB (s:={ s with heap:=m }) e c d MO #[x,H,W,T,#[Z,λys Y=>by rw[I.tuple_inj Y q];exact B],S,λb j=>(n b j).1]]
 done:=by
  intro X r t y L i f s M H E I n st A
  subst r t y
  obtain⟨N,q,B⟩:=A
  obtain⟨l,R,p,O⟩:=I.tuple q
  obtain⟨F,C,U,D,G,J⟩:=n g MQ
  have hl:=R.length
  exact wpAny_pyNext_tuple_end (I.ok.hd L) st (show s.heap.IsTuple a l.toArray from p) (by simp;omega) λm eb=>#[Z,I.turned (t':=s.toks) (λb o j e=>eb b o j e) F C D G J]
 self:=λ_ _ _ _ _ st h=>wpAny_pyIter_tupleiter st h
theorem X3{P:Program}{K:Frag}(a:Addr)(lo:Int)(n:Nat):me P w K M (ut lo n) [a] a (λi h=>IsRangeIter h a (lo+(i:Nat)*1) ((n:Int) - (i:Nat)) 1) where
 mem:=by simp
 obj:=λi h st b c=>by
  have e:b=a:=by simpa using c
  subst e
  exact#[_,st,λv z=>by
   have B:Data.fields _=Data.cell v:=z
   cases B]
 keep:=λi h d st k=>k a MQ _ st
 item:=by
  intro X g j l m i p s A H E I f st q
  subst g j l
  obtain⟨F,r,C,u,x,y⟩:=f a MQ
  have W:=Walks.range (prog:=X.prog) (w:=X.w) (I.ok.hd m) a lo 1 n
  refine W.item i s _ _ q st λv d T D S G=>?_
  obtain⟨t,rfl⟩:=D
  have J:ap X p A H { s with heap:=d,toks:=T }:=I.turned (λb o c e=>G b o (by simpa using c) e) F r u x y
  refine#[_,Z,YB (s:={ s with heap:=d,toks:=T }) (n:="range_iterator") S Z Z MO #[.int (lo+i),H,J,#[t,?_],#[Z,Z],S,λb c=>(f b c).1]]
  rw[Int.mul_one]
 done:=by
  intro X g j l m i p s A H E I f st q
  subst g j l
  obtain⟨F,r,C,u,x,y⟩:=f a MQ
  exact wpAny_pyNext_range_end (I.ok.hd m) st (by have:n<=i:=q;omega) λd L=>#[Z,I.turned (t':=s.toks) (λb o c e=>L b o c e) F r u x y]
 self:=λ_ _ _ _ _ st h=>wpAny_pyIter_rangeiter st h
section
variable {X:Cx}{tg:Expr}
def xG(K:Frag)(t:TE):TI:=λb H R=>t b H λx h=>∃a,x= .ref a/\(∃c,aP K h a c)/\R (xj K a) h
def D6(K:Frag)(t:TE):TI:=λb H R=>t b H λx h=>∃a,x= .ref a/\(∃c,aA K h a c)/\R (uu K a) h
theorem qt(c:PE X l t):PI X tg l (xG X.K t):=by
 intro P s d H R I h
 refine aW (c P s d H _ I h) λv S z=>?_
 obtain⟨x,f,i,r,Q⟩:=z
 obtain⟨a,e,⟨m,g⟩,q⟩:=Q
 subst e
 cases r
 obtain⟨j,n,p,u⟩:=i.list g
 refine Lq p.isList ?_
 refine#[S.heap.objs.size,[S.heap.objs.size],_,_,f,Z,i.kept (t':=S.toks) λb o e=>Fx _ e,Zr a _,#[_,FG _ Z,Z,Z],λb k=>?_,q]
 have e:b=S.heap.objs.size:=by simpa using k
 subst e
 exact i.fpOk (Fz _) (i.hok.fresh (Fz _))
theorem zT(d:PE X l t):PI X tg l (D6 X.K t):=by
 intro P s f H R I h
 refine aW (d P s f H _ I h) λv S z=>?_
 obtain⟨x,g,i,r,Q⟩:=z
 obtain⟨a,e,⟨m,j⟩,q⟩:=Q
 subst e
 cases r
 obtain⟨c,n,p,u⟩:=i.tuple j
 refine IQ (show S.heap.IsTuple a c.toArray from p) ?_
 refine#[S.heap.objs.size,[S.heap.objs.size],_,_,g,Z,i.kept (t':=S.toks) λb o e=>Fx _ e,X2 a _,#[_,FG _ Z,Z,Z],λb k=>?_,q]
 have e:b=S.heap.objs.size:=by simpa using k
 subst e
 exact i.fpOk (Fz _) (i.hok.fresh (Fz _))
theorem rK{R:It->Hp->Prop}{lo:Int}(I:ap X p a H s)(c: -(2 ^ 62)<=lo)(d:lo < 2 ^ 62)(f: -(2 ^ 62)<=h)(g:h < 2 ^ 62)
  (q:R (ut lo (h - lo).toNat) H):wpAny (model X.prog X.w) X.A (pyIter (.ref s.heap.objs.size)) (EK X p a tg R) E { s with heap:=s.heap.push { cls:=.type "range",data:=.fields (List.toArray [.int lo t,.int h u,.int 1 v]) },toks:=T }:=by
 refine wpAny_pyIter_range (IsRange.new ..) (small_one c d f g) ?_
 have i:ap X p a H { s with heap:=s.heap.push { cls:=.type "range",data:=.fields (List.toArray [.int lo t,.int h u,.int 1 v]) },toks:=T }:=I.kept λb o e=>Fx _ e
 refine#[(s.heap.push { cls:=.type "range",data:=.fields (List.toArray [.int lo t,.int h u,.int 1 v]) }).objs.size,[(s.heap.push { cls:=.type "range",data:=.fields (List.toArray [.int lo t,.int h u,.int 1 v]) }).objs.size],_,_,H,Z,
  i.kept (t':=T) λb o e=>Fx _ e,X3 _ lo (h - lo).toNat,?_,λb j=>?_,q]
 ·have k:lo+((0:Nat):Int)*1=lo:=by simp
  have l:(((h - lo).toNat:Nat):Int) - ((0:Nat):Int)=Builtin.Range.rangeSize lo h 1:=by rw[rangeSize_one];split<;>omega
  show IsRangeIter _ _ (lo+((0:Nat):Int)*1) ((((h - lo).toNat:Nat):Int) - ((0:Nat):Int)) 1
  rw[k,l]
  exact FG _ Z
 ·have e:b=(s.heap.push { cls:=.type "range",data:=.fields (List.toArray [.int lo t,.int h u,.int 1 v]) }).objs.size:=by simpa using j
  subst e
  exact i.fpOk (Fz _) (i.hok.fresh (Fz _))
def Cr(t:TA):TI:=λa H R=>t a H λv h=>∃j:Int,v=[.int j]/\ -(2 ^ 62)<=j/\j < 2 ^ 62/\R (ut 0 j.toNat) h
theorem kM{a:Expr}{T:TA}{p P:Pos}(c:Gl X "range")(d:X.mg "range"=none)(f:PA X [a] T)(g:starEach [a] X.env=[(false,eval a X.env)]:=by rfl):PI X tg (.Call (.Name "range" p) [a] [] P) (Cr T):=by
 intro b s i H R I h
 refine Call_ (zR I c d boot_range (GF (aW (f P b s i H _ I h) λu S z=>?_) g Z))
 obtain⟨v,o,k,l,Q⟩:=z
 obtain⟨j,e,Q,m,q⟩:=Q
 subst e
 cases l with
 |cons r n=>
  cases n
  obtain⟨t,rfl⟩:=r
  exact call_range_1 (rK k MP MP Q m (by simpa using q))
def Bk(w:TI)(g:TG)(t:TS):TS:=λD a H=>w a H λJ d=>∃W:Nat->Nat->St->Hp->Prop,(∃m,W 0 m a d)/\∀i m a H,W i m a H->
 (J.stop i H/\D.nx a H)∨(J.go i H/\∃N:St->Hp->Prop,(∀b h,N b h->∃M,M < m/\W (i+1) M b h)/\∀x h,J.yld i H x h->g x a h λc e=>t { D with nx:=N,ct:=N,bk:=D.nx } c e)
noncomputable def iM(f:List Addr)(h:Heap):List (Addr×Obj):=f.filterMap λb=>(h.get? b).map λo=>(b,o)
theorem kX{h:Heap}(H:b∈f)(e:h.get? b=some o):(b,o)∈iM f h:=List.mem_filterMap.mpr #[b,H,by rw[e];rfl]
theorem Zs(H:p∈iM f h):p.1∈f/\h.get? p.1=some p.2:=by
 obtain⟨b,a,e⟩:=List.mem_filterMap.mp H
 cases q:h.get? b with
 |none=>rw[q]at e;cases e
 |some o=>
  rw[q]at e
  have E:(b,o)=p:=GK e
  subst E
  exact#[a,q]
theorem ap.pinned(I:ap X a c H s)(g:∀b∈f,fc X a H b)(i:∀b∈f,∃o,s.heap.get? b=some o/\∀v,o.data≠ .cell v):ap X (a++iM f s.heap) c H s:=
 I.pins_of λp j=>(List.mem_append.mp j).elim (λz=>I.pin p (FR _ z)) λz=>by
  obtain⟨h,e⟩:=Zs z
  obtain⟨F,k,l,_⟩:=g p.1 h
  obtain⟨o,E,d⟩:=i p.1 h
  rw[e]at E;cases E
  exact#[e,F,k,l,d]
theorem ap.unpinned(I:ap X (a++c) b H s):ap X a b H s:=I.pins_of λp h=>I.pin p (FR _ (Hk _ h))
theorem j9{iter:Expr}{B:List Stmt}{wi:TI}{g:TG}{tb:TS}{P:Pos}(C:PassesOwn (model X.prog X.w) X.A X.env X.xe)(hc:X.calm=true)(hi:PI X tg iter wi)(hg:PG X tg g)(c:ls X B tb)
  (hs:∀x,foldedSetIterable iter X.env x=pure x:=by intro _;rfl):PS X (.For tg iter B [] P) (Bk wi g tb):=by
 intro p s σ H D I h
 refine wpAny_For (aW (hi p s σ H _ I h) λv s1 h1=>aW h1 λi0 s2 h2=>?_) hs
 obtain⟨it,F,tn,J,H2,e,I2,T,O,f2,W,⟨m0,w0⟩,E⟩:=h2
 subst e
 have S:∀{t:Hp},(∀b∈F,t b=none)->∀b∈F,fc X p t b:=λhn b c=>#[hn b c,(f2 b c).2]
 refine codeAny_forLoop_any (λn s'=>∃i j t,ap X p j t s'/\tn i s'.heap/\(∀b∈F,t b=none)/\W i n j t) ?_ m0 #[0,σ,H2,I2,O,λb c=>(f2 b c).1,w0]
 rintro n s3 ⟨i,k,M,I3,G,K,w3⟩
 rcases E i n k M w3 with ⟨stop,qn⟩ | ⟨go,N,hN,step⟩
 ·refine Io C (aW (T.done X Z Z Z hc i p s3 k M X.xe I3 (S K) G stop) λr s4 z=>?_)
  obtain⟨R,I4⟩:=z
  subst R
  exact Ie #[k,M,I4,qn]
 ·refine Io C (aW (T.item X Z Z Z hc i p s3 k M X.xe I3 (S K) G go) λr s4 z=>?_)
  obtain⟨u,R,h4⟩:=z
  subst R
  refine Io C (aW h4 λ_ s5 z=>?_)
  obtain⟨x,H5,I5,r5,y5,y,U⟩:=z
  have V:=I5.pinned (S U) (T.obj _ _ y)
  refine Io C (aW (hg _ s5 k H5 x u _ V r5 (step x H5 y5)) λ_ s6 z=>?_)
  obtain⟨Y,H6,I6,q6⟩:=z
  refine Io C (aW (c _ s6 Y H6 _ I6 q6) λf s7 Q=>?_)
  have again:∀{a:St} {l:Hp},ap X (p++iM F s5.heap) a l s7->N a l->∃m,m < n/\∃i j t,ap X p j t s7/\tn i s7.heap/\(∀b∈F,t b=none)/\W i m j t:=λ{a l} q L=>by
   obtain⟨m',hm,w7⟩:=hN a l L
   refine#[m',hm,i+1,a,l,q.unpinned,T.keep _ _ _ y λb c o e=>(q.pin (b,o) (FR _ (FR _ (kX c e)))).1,λb c=>?_,w7]
   obtain⟨o,e,d⟩:=T.obj _ _ y b c
   exact(q.pin (b,o) (FR _ (FR _ (kX c e)))).2.1
  cases f with
  |next=>obtain⟨a,l,q,L⟩:=Q;exact again q L
  |cont=>obtain⟨a,l,q,L⟩:=Q;exact again q L
  |brk=>obtain⟨a,l,q,Q⟩:=Q;exact#[a,l,q.unpinned,Q]
  |ret v=>obtain⟨x7,a,l,q,r7,Q⟩:=Q;exact#[x7,a,l,q.unpinned,r7,Q]
end
theorem ph{K:Frag}{a:Addr}{X:List V}{g:TG}{t:TS}{D:bu}{b:St}{H:Hp}(Pv:Nat->St->Hp->Prop)(k:Pv 0 b H)(l:∀i b H,i<=X.length->Pv i b H->aP K H a X)
  (n:∀i x b H,X[i]?=some x->Pv i b H->g x b H λc j=>t { D with nx:=Pv (i+1),ct:=Pv (i+1),bk:=D.nx } c j) (o:∀b H,Pv X.length b H->D.nx b H):
  ∃W:Nat->Nat->St->Hp->Prop,(∃m,W 0 m b H)/\∀i m b H,W i m b H->
   ((xj K a).stop i H/\D.nx b H)∨((xj K a).go i H/\∃N:St->Hp->Prop,(∀d h,N d h->∃M,M < m/\W (i+1) M d h)/\∀x h,(xj K a).yld i H x h->g x b h λc j=>t { D with nx:=N,ct:=N,bk:=D.nx } c j):=by
 refine#[λi m b H=>m=X.length - i/\i<=X.length/\Pv i b H,#[X.length,MQ,FN _,k],?_]
 rintro i m b H ⟨rfl,r,p⟩
 have q:=l i b H r p
 by_cases f:i < X.length
 ·refine .inr #[#[X,X[i],q,by simp [f]],Pv (i+1),λd h P=>#[X.length - (i+1),MP,Z,f,P],λx h y=>?_]
  obtain⟨e,y⟩:=y
  subst e
  exact n i x b _ (y X q) p
 ·have e:i=X.length:=by omega
  subst e
  exact .inl #[#[X,q,Fz _],o b H p]
theorem uT{K:Frag}{a:Addr}{X:List V}{g:TG}{t:TS}{D:bu}{b:St}{H:Hp}(Pv:Nat->St->Hp->Prop)(k:Pv 0 b H)(l:∀i b H,i<=X.length->Pv i b H->aA K H a X)
  (n:∀i x b H,X[i]?=some x->Pv i b H->g x b H λc j=>t { D with nx:=Pv (i+1),ct:=Pv (i+1),bk:=D.nx } c j) (o:∀b H,Pv X.length b H->D.nx b H):
  ∃W:Nat->Nat->St->Hp->Prop,(∃m,W 0 m b H)/\∀i m b H,W i m b H->
   ((uu K a).stop i H/\D.nx b H)∨((uu K a).go i H/\∃N:St->Hp->Prop,(∀d h,N d h->∃M,M < m/\W (i+1) M d h)/\∀x h,(uu K a).yld i H x h->g x b h λc j=>t { D with nx:=N,ct:=N,bk:=D.nx } c j):=by
 refine#[λi m b H=>m=X.length - i/\i<=X.length/\Pv i b H,#[X.length,MQ,FN _,k],?_]
 rintro i m b H ⟨rfl,r,p⟩
 have q:=l i b H r p
 by_cases f:i < X.length
 ·refine .inr #[#[X,X[i],q,by simp [f]],Pv (i+1),λd h P=>#[X.length - (i+1),MP,Z,f,P],λx h y=>?_]
  obtain⟨e,y⟩:=y
  subst e
  exact n i x b _ (y X q) p
 ·have e:i=X.length:=by omega
  subst e
  exact .inl #[#[X,q,Fz _],o b H p]
theorem Qe{lo:Int}{n:Nat}{g:TG}{t:TS}{D:bu}{a:St}{H:Hp}(Pv:Nat->St->Hp->Prop)(j:Pv 0 a H)
  (k:∀i a H,i < n->Pv i a H->g (.int (lo+i)) a H λb f=>t { D with nx:=Pv (i+1),ct:=Pv (i+1),bk:=D.nx } b f) (l:∀a H,Pv n a H->D.nx a H):
  ∃W:Nat->Nat->St->Hp->Prop,(∃m,W 0 m a H)/\∀i m a H,W i m a H->
   ((ut lo n).stop i H/\D.nx a H)∨((ut lo n).go i H/\∃N:St->Hp->Prop,(∀c h,N c h->∃M,M < m/\W (i+1) M c h)/\∀x h,(ut lo n).yld i H x h->g x a h λb f=>t { D with nx:=N,ct:=N,bk:=D.nx } b f):=by
 refine#[λi m a H=>m=n - i/\i<=n/\Pv i a H,#[n,MQ,FN _,j],?_]
 rintro i m a H ⟨rfl,o,p⟩
 by_cases d:i < n
 ·refine .inr #[d,Pv (i+1),λc h P=>#[n - (i+1),MP,Z,d,P],λx h y=>?_]
  obtain⟨e,y⟩:=y
  subst e y
  exact k i a _ d p
 ·have e:i=n:=by omega
  subst e
  exact .inl #[Fz _,l a H p]
abbrev R2:=V->V->Hp->VK->Prop
def em(X:Cx)(f:Value->Value->Sem Value)(r:R2):Prop:=
 ∀(p:List (Addr×Obj)) (s:Shared) (a:St) (H:Hp) (x y:V) (v u:Value) (Q:VK),ap X p a H s->ax x v->ax y u->r x y H Q->
  wpAny (model X.prog X.w) X.A (f v u) (EP X p a Q) X.xe s
def DX(X:Cx)(f:Value->Sem Value)(r:V->Hp->VK->Prop):Prop:=
 ∀(p:List (Addr×Obj)) (s:Shared) (a:St) (H:Hp) (x:V) (v:Value) (Q:VK),ap X p a H s->ax x v->r x H Q->
  wpAny (model X.prog X.w) X.A (f v) (EP X p a Q) X.xe s
def eG(X:Cx)(f:Value)(r:List V->Hp->VK->Prop):Prop:=
 ∀(p:List (Addr×Obj)) (s:Shared) (a:St) (H:Hp) (x:List V) (u:List Value) (Q:VK),ap X p a H s->aw x u->r x H Q->
  wpAny (model X.prog X.w) X.A (call f u) (EP X p a Q) X.xe s
def DW(X:Cx)(r:V->Hp->(Bool->Hp->Prop)->Prop):Prop:=
 ∀(p:List (Addr×Obj)) (s:Shared) (a:St) (H:Hp) (x:V) (v:Value) (Q:Bool->Hp->Prop),ap X p a H s->ax x v->r x H Q->
  wpAny (model X.prog X.w) X.A (truthy v) (TP X p a Q) X.xe s
def dJ(r:R2)(t T:TE):TE:=λa H Q=>t a H λx h=>T a h λy b=>r x y b Q
def Fj(r:V->Hp->VK->Prop)(t:TE):TE:=λa H Q=>t a H λx h=>r x h Q
def rI(C:Int->Int->Prop)(g:Int->Int->V):R2:=λx y H Q=>∃i j,x= .int i/\y= .int j/\C i j/\Q (g i j) H
def wc(g:Int->Int->V):R2:=λx y H Q=>∃i j,x= .int i/\y= .int j/\Q (g i j) H
def rU(g:Int->V):V->Hp->VK->Prop:=λx H Q=>∃i,x= .int i/\Q (g i) H
section
variable {X:Cx}{a b c:Expr}{ta tb tc:TE}{pos:Pos}
theorem yp(k:PE X a ta)(l:PE X b tb){R:V->V->Hp->Prop}(I:ap X p e H s)
  (h:ta e H λx j=>tb e j λy d=>R x y d)  {f:Value->Value->Sem Value}
  (m:∀v u i x y d,ap X p e d i->ax x v->ax y u->R x y d->wpAny (model X.prog X.w) X.A (f v u) Q X.xe i):
  wpAny (model X.prog X.w) X.A (eval a X.env) (λv S=>wpAny (model X.prog X.w) X.A (eval b X.env) (λu g=>wpAny (model X.prog X.w) X.A (f v u) Q X.xe g) X.xe S) X.xe s:=by
 refine aW (k p s e H _ I h) λv n z=>?_
 obtain⟨x,j,o,r,q⟩:=z
 refine aW (l p n e j _ o q) λu i z=>?_
 obtain⟨y,d,t,B,C⟩:=z
 exact m v u i x y d t r B C
theorem ju{o:Operator}{r:R2}(d:em X (binaryOp o) r)(e:PE X a ta)(f:PE X b tb):PE X (.BinOp a o b pos) (dJ r ta tb):=by
 intro p s g H Q I h
 exact wpAny_BinOp (yp e f I h λv u S x y i j R k q=>d p S g i x y v u Q j R k q)
theorem xM(e:DX X (unaryOp o) r)(f:PE X a ta):PE X (.UnaryOp o a pos) (Fj r ta):=by
 intro p s d H Q I h
 exact UnaryOp_ (aW (f p s d H _ I h) λv S #[x,g,i,R,q]=>e p S d g x v Q i R q)
theorem DJ{f:Value->Value->Sem Value}{C:Int->Int->Prop}{g:Int->Int->Int}
  (rule:∀(i j:Int) (t u:Tok) (s:Shared) (Q:Value->Shared->Prop) (E:Value->Shared->Prop),C i j->Q (.int (g i j) s.toks) { s with toks:=s.toks+1 }->wpAny (model X.prog X.w) X.A (f (.int i t) (.int j u)) Q E s):
  em X f (rI C λi j=>.int (g i j)):=by
 intro p s e H x y v u Q I r R h
 obtain⟨i,j,rfl,rfl,d,q⟩:=h
 obtain⟨t,rfl⟩:=r
 obtain⟨T,rfl⟩:=R
 exact rule i j t T s _ _ d #[.int (g i j),H,I.tok _,#[_,Z],q]
theorem CJ{f:Value->Value->Sem Value}{g:Int->Int->Int}
  (rule:∀(i j:Int) (t u:Tok) (s:Shared) (Q:Value->Shared->Prop) (E:Value->Shared->Prop),Q (.int (g i j) s.toks) { s with toks:=s.toks+1 }->wpAny (model X.prog X.w) X.A (f (.int i t) (.int j u)) Q E s):
  em X f (wc λi j=>.int (g i j)):=by
 intro p s d H x y v u Q I r R h
 obtain⟨i,j,rfl,rfl,q⟩:=h
 obtain⟨t,rfl⟩:=r
 obtain⟨T,rfl⟩:=R
 exact rule i j t T s _ _ #[.int (g i j),H,I.tok _,#[_,Z],q]
theorem At{f:Value->Value->Sem Value}{g:Int->Int->Bool}
  (rule:∀(i j:Int) (t u:Tok) (s:Shared) (Q:Value->Shared->Prop) (E:Value->Shared->Prop),Q (.bool (g i j)) s->wpAny (model X.prog X.w) X.A (f (.int i t) (.int j u)) Q E s):
  em X f (wc λi j=>.bl (g i j)):=by
 intro p s d H x y v u Q I r R h
 obtain⟨i,j,rfl,rfl,q⟩:=h
 obtain⟨t,rfl⟩:=r
 obtain⟨T,rfl⟩:=R
 exact rule i j t T s _ _ #[.bl (g i j),H,I,Z,q]
def DP(i j:Int):Prop:=0<=j/\j<=1000000/\i.natAbs < 2 ^ 64
def uk(i j:Int):Prop:=(-(2 ^ 64) < i/\i < 2 ^ 64)∨(-(2 ^ 64) < j/\j < 2 ^ 64)
theorem uk.ok(h:uk i j):IntMulOk i j:=by
 rcases h with ⟨H,d⟩ | ⟨H,d⟩
 ·exact .of_left (intBits_le_64 H d)
 ·exact .of_right (intBits_le_64 H d)
theorem jX:em X (binaryOp .Add) (wc λi j=>.int (i+j)):=CJ λ_ _ _ _ _ _ _ q=>add_int q
theorem kL:em X (binaryOp .Sub) (wc λi j=>.int (i - j)):=CJ λ_ _ _ _ _ _ _ q=>sub_int q
theorem zn:em X (binaryOp .Mult) (rI uk λi j=>.int (i*j)):=DJ λ_ _ _ _ _ _ _ h q=>mul_int q h.ok
theorem kW:em X (binaryOp .Mod) (rI (λ_ j=>0 < j) λi j=>.int (i % j)):=DJ λi j _ _ _ _ _ h q=>by
 have H:(0:Int) < j:=h
 exact mod_int' MP (by rw[Int.fmod_eq_emod_of_nonneg i MP];exact q)
theorem Jl:em X (binaryOp .Pow) (rI DP λi j=>.int (i ^ j.toNat)):=DJ λ_ _ _ _ _ _ _ h q=>pow_int_small h.1 h.2.1 h.2.2 q
theorem Fm{f:Value->Sem Value}{g:Int->Int}
  (rule:∀(i:Int) (t:Tok) (s:Shared) (Q:Value->Shared->Prop) (E:Value->Shared->Prop),Q (.int (g i) s.toks) { s with toks:=s.toks+1 }->wpAny (model X.prog X.w) X.A (f (.int i t)) Q E s):
  DX X f (rU λi=>.int (g i)):=by
 intro p s d H x v Q I r h
 obtain⟨i,rfl,q⟩:=h
 obtain⟨t,rfl⟩:=r
 exact rule i t s _ _ #[.int (g i),H,I.tok _,#[_,Z],q]
theorem tQ:DX X (unaryOp .USub) (rU λi=>.int (-i)):=Fm λ_ _ _ _ _ q=>neg_int q
end
noncomputable def C8:V->V->Bool
 | .non,.non=>true | .non,.int _=>true | .int _,.non=>true | .non,.bl _=>true | .bl _,.non=>true | .non,.str _=>true | .str _,.non=>true
 | .int _,.int _=>true | .bl _,.bl _=>true | .str _,.str _=>true | .byt _,.byt _=>true
 | .int _,.str _=>true | .str _,.int _=>true | .bl _,.str _=>true | .str _,.bl _=>true
 |_,_=>false
def CV:R2:=λx y H Q=>C8 x y=true/\Q (.bl (decide (x=y))) H
def Fd:R2:=λx y H Q=>C8 x y=true/\Q (.bl (!decide (x=y))) H
theorem YL:decide (V.int i=V.int j)=(i==j):=by
 rw[Lz]
 simp
theorem oR:decide (V.bl i=V.bl j)=(i==j):=by
 rw[Lz]
 simp
theorem YM:decide (V.str i=V.str j)=(i==j):=by
 rw[Lz]
 simp
theorem YN:decide (V.byt i=V.byt j)=(i.toList==j.toList):=by
 rw[Lz]
 cases i
 cases j
 simp
section
variable {X:Cx}{a b c:Expr}{ta tb tc:TE}{pos:Pos}
theorem jL{Q:VK}(I:ap X p d H s)(q:Q (.bl k) H)(e:k=f):EP X p d Q (.bool f) s:=by
 subst e
 exact#[.bl k,H,I,Z,q]
theorem qO:em X (compareOp .Eq) CV:=by
 intro p s e H x y v u Q I R r h
 obtain⟨d,q⟩:=h
 cases x with
 |non=>
  cases R
  cases y with
  |non=>cases r;exact PySem.EqNone.eq_none_none (jL I q MQ)
  |bl j=>cases r;exact PySem.EqNone.eq_none_bool (jL I q MQ)
  |int j=>obtain⟨T,rfl⟩:=r;exact PySem.EqNone.eq_none_int (jL I q MQ)
  |str j=>obtain⟨T,rfl⟩:=r;exact PySem.EqNone.eq_none_str (jL I q MQ)
  |_=>exact absurd (show false=true from d) FH
 |bl i=>
  cases R
  cases y with
  |non=>cases r;exact PySem.EqNone.eq_bool_none (jL I q MQ)
  |bl j=>cases r;exact eq_bool (jL I q oR)
  |str j=>obtain⟨T,rfl⟩:=r;exact PySem.EqMixed.eq_bool_str (jL I q MQ)
  |_=>exact absurd (show false=true from d) FH
 |int i=>
  obtain⟨t,rfl⟩:=R
  cases y with
  |non=>cases r;exact PySem.EqNone.eq_int_none (jL I q MQ)
  |int j=>obtain⟨T,rfl⟩:=r;exact eq_int (jL I q YL)
  |str j=>obtain⟨T,rfl⟩:=r;exact PySem.EqMixed.eq_int_str (jL I q MQ)
  |_=>exact absurd (show false=true from d) FH
 |str i=>
  obtain⟨t,rfl⟩:=R
  cases y with
  |non=>cases r;exact PySem.EqNone.eq_str_none (jL I q MQ)
  |bl j=>cases r;exact PySem.EqMixed.eq_str_bool (jL I q MQ)
  |int j=>obtain⟨T,rfl⟩:=r;exact PySem.EqMixed.eq_str_int (jL I q MQ)
  |str j=>obtain⟨T,rfl⟩:=r;exact eq_str (jL I q YM)
  |_=>exact absurd (show false=true from d) FH
 |byt i=>
  obtain⟨t,rfl⟩:=R
  cases y with
  |byt j=>obtain⟨T,rfl⟩:=r;exact PySem.W.eq_bytes (jL I q YN)
  |_=>exact absurd (show false=true from d) FH
 |_=>cases y<;>exact absurd (show false=true from d) FH
theorem J4:em X (compareOp .NotEq) Fd:=by
 intro p s e H x y v u Q I R r h
 obtain⟨d,q⟩:=h
 cases x with
 |non=>
  cases R
  cases y with
  |non=>cases r;exact PySem.EqNone.ne_none_none (jL I q MQ)
  |bl j=>cases r;exact PySem.EqNone.ne_none_bool (jL I q MQ)
  |int j=>obtain⟨T,rfl⟩:=r;exact PySem.EqNone.ne_none_int (jL I q MQ)
  |str j=>obtain⟨T,rfl⟩:=r;exact PySem.EqNone.ne_none_str (jL I q MQ)
  |_=>exact absurd (show false=true from d) FH
 |bl i=>
  cases R
  cases y with
  |non=>cases r;exact PySem.EqNone.ne_bool_none (jL I q MQ)
  |bl j=>cases r;exact ne_bool (jL I q (Hf not oR))
  |str j=>obtain⟨T,rfl⟩:=r;exact PySem.EqMixed.ne_bool_str (jL I q MQ)
  |_=>exact absurd (show false=true from d) FH
 |int i=>
  obtain⟨t,rfl⟩:=R
  cases y with
  |non=>cases r;exact PySem.EqNone.ne_int_none (jL I q MQ)
  |int j=>obtain⟨T,rfl⟩:=r;exact ne_int (jL I q (Hf not YL))
  |str j=>obtain⟨T,rfl⟩:=r;exact PySem.EqMixed.ne_int_str (jL I q MQ)
  |_=>exact absurd (show false=true from d) FH
 |str i=>
  obtain⟨t,rfl⟩:=R
  cases y with
  |non=>cases r;exact PySem.EqNone.ne_str_none (jL I q MQ)
  |bl j=>cases r;exact PySem.EqMixed.ne_str_bool (jL I q MQ)
  |int j=>obtain⟨T,rfl⟩:=r;exact PySem.EqMixed.ne_str_int (jL I q MQ)
  |str j=>obtain⟨T,rfl⟩:=r;exact ne_str (jL I q (Hf not YM))
  |_=>exact absurd (show false=true from d) FH
 |byt i=>
  obtain⟨t,rfl⟩:=R
  cases y with
  |byt j=>obtain⟨T,rfl⟩:=r;exact PySem.W.ne_bytes (jL I q (Hf not YN))
  |_=>exact absurd (show false=true from d) FH
 |_=>cases y<;>exact absurd (show false=true from d) FH
theorem Qb:em X (compareOp .Lt) (wc λi j=>.bl (decide (i < j))):=At λ_ _ _ _ _ _ _ q=>lt_int q
theorem Jz:em X (compareOp .Gt) (wc λi j=>.bl (decide (j < i))):=At λ_ _ _ _ _ _ _ q=>gt_int q
theorem Z8:em X (compareOp .GtE) (wc λi j=>.bl (decide (j<=i))):=At λ_ _ _ _ _ _ _ q=>ge_int q
theorem aK(b:Expr)(h:o≠ .In:=by decide)(H:o≠ .NotIn:=by decide):behindInMarks o b=false:=by
 have e:(o==CmpOp.In)=false:=by cases o<;>first |rfl |exact absurd Z h
 have E:(o==CmpOp.NotIn)=false:=by cases o<;>first |rfl |exact absurd Z H
 cases b<;>simp [behindInMarks,e,E]
theorem qu(d:em X (compareOp o) r)(e:PE X a ta)(f:PE X b tb)(g:behindInMarks o b=false):PE X (.Compare a [o] [b] pos) (dJ r ta tb):=by
 intro p s i H Q I h
 exact wpAny_Compare1 (yp e f I h λv u S x y j k R l q=>d p S i j x y v u Q k R l q) g
def iI(t:TE):TT:=λd H Q=>t d H λx h=>∃k,x= .bl k/\Q k h
theorem jB{o:CmpOp}{r:R2}(f:em X (compareOp o) r)(g:PE X a ta)(i:PE X b tb)(j:behindInMarks o b=false):PT X (.Compare a [o] [b] pos) (iI (dJ r ta tb)):=by
 intro p s d H Q I h
 refine wpAny_isTrue_Compare1 (aW (g p s d H _ I h) λv S #[x,l,m,R,q]=>aW (i p S d l _ m q) λu n #[y,t,w,A,B]=>
  aW (f p n d t x y v u _ w R A B) λc G #[z,C,D,E,k,e,F]=>?_) j
 subst e
 cases E
 exact IW #[C,D,F]
def BQ(K:Frag)(x:V)(H:Hp)(k:Bool):Prop:=
 match x with
 | .non=>k=false
 | .bl b=>k=b
 | .int i=>k=(i != 0)
 | .str y=>y.length<=sizeLine/\k=((y.length:Int) != 0)
 | .byt y=>y.size<=sizeLine/\k=((y.size:Int) != 0)
 | .ref p=>(∃d,aP K H p d/\k=!d.isEmpty)∨(∃d,aA K H p d/\k=!d.isEmpty)∨∃e,H p=some (.dK e)/\k=!e.isEmpty
 |_=>False
theorem X4{d:Type}{k:List (d×V)}{v:List (d×Value)}(r:KV k v):(!v.isEmpty)=!k.isEmpty:=by
 cases r<;>rfl
theorem Kv(r:aw x i):(!i.toArray.isEmpty)=!x.isEmpty:=by
 cases r<;>simp
theorem dS:(sizeLine:Nat) < 2 ^ 63:=by rw[LY];decide
theorem Bn:DW X (λx H Q=>∃k,BQ X.K x H k/\Q k H):=by
 intro o s B H x v Q I R h
 obtain⟨k,e,q⟩:=h
 have C:=dS
 have D:sizeLine=16777216:=LY
 cases x with
 |non=>
  cases R
  have E:k=false:=e
  subst E
  exact truthy_none #[H,I,q]
 |bl b=>
  cases R
  have E:k=b:=e
  subst E
  exact IW #[H,I,q]
 |int i=>
  obtain⟨t,rfl⟩:=R
  have E:k=(i != 0):=e
  subst E
  exact PySem.P.truthy_int #[H,I,q]
 |str y=>
  obtain⟨t,rfl⟩:=R
  obtain⟨z,E⟩:y.length<=sizeLine/\k=((y.length:Int) != 0):=e
  subst E
  exact PySem.P.truthy_str MP #[H,I.tok _,q]
 |byt y=>
  obtain⟨t,rfl⟩:=R
  obtain⟨z,E⟩:y.size<=sizeLine/\k=((y.size:Int) != 0):=e
  subst E
  exact PySem.W.truthy_bytes MP #[H,I.tok _,q]
 |ref p=>
  cases R
  have E:(∃g,aP X.K H p g/\k=!g.isEmpty)∨(∃g,aA X.K H p g/\k=!g.isEmpty)∨∃d,H p=some (.dK d)/\k=!d.isEmpty:=e
  rcases E with ⟨g,j,E⟩ | ⟨g,j,E⟩ | ⟨d,j,E⟩
  ·subst E
   obtain⟨l,r,n,u⟩:=I.list j
   have f:=r.length
   exact wpAny_truthy_list n.isList (by simp only[FE];omega) #[H,I.tok _,by rw[Kv r];exact q]
  ·subst E
   obtain⟨l,r,n,u⟩:=I.tuple j
   have f:=r.length
   exact truthy_tuple n (by simp only[FE];omega) #[H,I.tok _,by rw[Kv r];exact q]
  ·subst E
   obtain⟨u,A,V,r,m⟩:d.length<=sizeLine/\(p==sysModules)=false/\∃V,KV d V/\s.heap.DictOf (a6 X.prog X.w) p V:=I.hok p _ j
   have f:d.length=V.length:=Paired.length r
   exact wpAny_truthy_dict A m MP #[H,I.tok _,by rw[X4 r];exact q]
 |_=>exact(show False from e).elim
theorem rB(f:PE X a ta)(g:∀w,isTrue a X.env w=(do let v <- w;standAt a.pos;holding [v] (truthy v))):
  PT X a (λd H Q=>ta d H λx e=>∃k,BQ X.K x e k/\Q k e):=by
 intro p s d H Q I h
 exact isTrue_plain (aW (f p s d H _ I h) λv S #[x,i,j,r,q]=>Bn p S d i x v Q j r q) (g _)
theorem zD:em X (binaryOp .Add) (λx y H Q=>∃i j,x= .str i/\y= .str j/\i.length+j.length<=sizeLine/\Q (.str (i++j)) H):=by
 intro p s e H x y v u Q I r R h
 obtain⟨i,j,rfl,rfl,d,q⟩:=h
 obtain⟨t,rfl⟩:=r
 obtain⟨T,rfl⟩:=R
 exact add_str (λT f=>#[.str (i++j),H,I.tok _,#[_,Z],q]) d
theorem eN(r:aw [x] U):∃u,U=[u]/\ax x u:=by
 cases r with
 |cons R d=>cases d;exact#[_,Z,R]
theorem Js:eG X (.type "int") (λx H Q=>(∃i,x=[.int i]/\Q (.int i) H)∨∃k,x=[.bl k]/\Q (.int (if k then 1 else 0)) H):=by
 intro p s d H x U Q I r h
 rcases h with ⟨i,rfl,q⟩ | ⟨k,rfl,q⟩
 ·obtain⟨u,rfl,t,rfl⟩:=eN r
  exact call_int_int #[.int i,H,I,#[_,Z],q]
 ·obtain⟨u,rfl,R⟩:=eN r
  cases R
  exact call_int_bool #[.int (if k then 1 else 0),H,I.tok _,#[_,Z],q]
end
structure md(h:Heap)(x dx C:Addr)(mA:Str->Option Value):Prop where
 obj:h.get? x=some (instObj C dx)
 ns:h.Ns1 dx mA
 ne:dx≠x
theorem Zt{h:Heap}(n:h.Ns1 d m):∃O,h.get? d=some O/\∀name,lookIn name O=some (m name):=by
 obtain⟨o,E,j,b,c,f,_,g⟩:=n
 refine#[o,b,λname=>?_]
 have e:=g name
 unfold nsFind findBy at e
 rw[<- Array.find?_toList]at e
 unfold lookIn
 rw[c]
 dsimp only
 split
 ·rename_i y q
  rw[q]at e
  exact Hf some e
 ·rename_i q
  rw[q]at e
  have a:E.toList.any (·.refKey)=false:=by
   rw[List.any_eq_false]
   intro y i
   obtain⟨z,t,H⟩:=f y (Array.mem_toList_iff.mp i)
   simp [DictEntry.refKey,H]
  have A:¬E.toList.any (·.refKey)=true:=by rw[a];exact FH
  rw[FV A]
  exact Hf some e
theorem md.look(I:md h x d C m):∃o,PySem.W.InstAt h x (instObj C d) C (some o)/\∀name,lookIn name o=some (m name):=
 let #[o,H,a]:=Zt I.ns
 #[o,#[I.obj,Z,Z,H],a]
section
variable {prog:Program}{w:World}{A:Around}{E:Value->Shared->Prop}{s:Shared}{K:Frag}{x dx C f:Addr}{mA:Str->Option Value}{name:Str}{v:Value}
theorem uW{Q:Value->Shared->Prop}(X:K.In s.heap)(I:md s.heap x dx C mA)(a:plainGet K C name=true)(b:hasDictIn K C=true)
  (c:findIn K (.ref C) name=some none) (d:mA name=some v) (H:PySem.W.handedIn v=true) (h:Q v { s with toks:=s.toks+1 }):
  wpAny (model prog w) A (getAttr (.ref x) name e) Q E s:=by
 obtain⟨o,J,g⟩:=I.look
 exact PySem.W.get_value X J (LM a).1 (PySem.W.findObj_own b c Z (by rw[g,d])) H h
theorem pk{Q:Value×List Value->Shared->Prop}(X:K.In s.heap)(I:md s.heap x dx C mA)(H:plainGet K C name=true)
  (a:findIn K (.ref C) name=some (some (.ref f))) (b:isFn K (.ref f)=true) (c:mA name=none) (h:Q (.ref f,[.ref x]) s):
  wpAny (model prog w) A (getMethod (.ref x) name p) Q E s:=by
 obtain⟨o,J,d⟩:=I.look
 exact PySem.W.method_fn X J (LM H).1 (LM H).2 a (beq_iff_eq.mp b) (by show(lookIn name o).map (·.isSome)=some false;rw[d,c];rfl) h
theorem wH{Q:Unit->Shared->Prop}(X:K.In s.heap)(I:md s.heap x dx C mA)
  (k:findIn K (.ref C) "__setattr__"=some (some (.builtin "object.__setattr__"))) (l:PySem.W.plainOver K C=true) (m:PySem.W.takerIn K C name=some none) (n:hasDictIn K C=true)
  (o:PySem.Within mA N) (p:N.length<=sizeLine)
  (h:∀d,md d x dx C (λy=>if y=name then some v else mA y)->Heap.SameBut dx s.heap d->Q () { s with heap:=d,toks:=s.toks+2 }):
  wpAny (model prog w) A (setAttr (.ref x) name v) Q E s:=by
 obtain⟨O,J,B⟩:=I.look
 refine PySem.W.set_plain X J k (PySem.W.osa_open (s:={ s with toks:=s.toks+1 }) (r:=none) X J l m λb=>?_)
 obtain⟨D,q,e⟩:=PySem.W.any_some n
 have t:s.heap.get? x=some #[.ref C,some dx,.plain,(List.toArray [])]:=I.obj
 refine Ft (Fv (Ft (Ft (LW t (Ft (PySem.W.Looks.here (s:={ s with toks:=s.toks+1 }) (PySem.W.looks_clsIn X q) ?_))))))
 rw[e]
 refine Fv (a:=some dx) (Ft (Fv (Ft ?_)))
 refine wpAny_nsSet1 (s:={ s with toks:=s.toks+1 }) I.ns λd H c=>?_
 obtain⟨F,u,z,g,i,j⟩:=H.count (PySem.Within.cons name v o)
 refine Ft (wpAny_lookBehind g (by rw[i];exact pastItsLine_dict (FL j (by rw[Gi];omega))) ?_)
 exact Fv (h _ #[(c.2 _ (Gp I.ne)).trans I.obj,H,I.ne] c)
theorem pH{R:Result->Shared->Prop}(X:K.In s.heap)(H:PySem.W.makesIn K C=true)
  (b:findIn K (.ref C) "__init__"=some (some (.ref f))) (c:typeIn K (.ref f)=some (.type "function"))
  (h:codeAny (model prog w) (A.under (.builtin "type.__call__" #[.ref C::a,k])) (.call (.ref f) #[.ref (s.heap.objs.size+1)::a,k]) (PySem.W.InitBack (s.heap.objs.size+1) R)
   { s with heap:=(s.heap.push emptyDict).push (instObj C s.heap.objs.size) }):
  codeAny (model prog w) A (.call (.ref C) #[a,k]) R s:=by
 obtain⟨e,g,d,t,os⟩:=s
 exact PySem.W.make_core (PySem.W.makes_of X H) (PySem.W.looks_findIn X b) (λS=>PySem.W.bind_fn X S c) (.inl Z) h
end
noncomputable def dW(f:Str)(v:V):List (Str×V)->List (Str×V)
 | []=>[(f,v)]
 | (g,x)::r=>if g=f then (g,v)::r else (g,x)::dW f v r
theorem JE(f g:Str)(v:V):∀F:List (Str×V),(dW f v F).lookup g=if g=f then some v else F.lookup g
 | []=>by
  show List.lookup g [(f,v)]=_
  by_cases h:g=f
  ·have H:(g==f)=true:=beq_iff_eq.mpr h
   simp only[List.lookup,H,FQ h]
  ·have H:(g==f)=false:=beq_eq_false_iff_ne.mpr h
   simp only[List.lookup,H,FV h]
 | (k,x)::r=>by
  have i:=JE f g v r
  rw[show dW f v ((k,x)::r)=(if k=f then (k,v)::r else (k,x)::dW f v r) from Z]
  by_cases a:k=f
  ·rw[FQ a]
   by_cases h:g=k
   ·have H:(g==k)=true:=beq_iff_eq.mpr h
    simp only[List.lookup,H,FQ (h.trans a)]
   ·have H:(g==k)=false:=beq_eq_false_iff_ne.mpr h
    simp only[List.lookup,H,FV (λe:g=f=>h (e.trans a.symm))]
  ·rw[FV a]
   by_cases h:g=k
   ·have H:(g==k)=true:=beq_iff_eq.mpr h
    simp only[List.lookup,H,FV (λe:g=f=>a (h.symm.trans e))]
   ·have H:(g==k)=false:=beq_eq_false_iff_ne.mpr h
    simp only[List.lookup,H]
    exact i
theorem Jt(f:Str)(v:V):∀F:List (Str×V),f∈(dW f v F).map (·.1)/\∀g,g∈F.map (·.1)->g∈(dW f v F).map (·.1)
 | []=>#[by simp [dW],λg h=>by simp at h]
 | (k,x)::r=>by
  obtain⟨i,I⟩:=Jt f v r
  rw[show dW f v ((k,x)::r)=(if k=f then (k,v)::r else (k,x)::dW f v r) from Z]
  by_cases H:k=f
  ·rw[FQ H]
   subst H
   exact#[MQ,λg h=>by simpa using h]
  ·rw[FV H]
   refine#[?_,λg h=>?_]
   ·rw[Hr]
    exact Ge _ i
   ·rw[Hr]at h ⊢
    rcases List.mem_cons.mp h with e |e
    ·exact List.mem_cons.mpr (.inl e)
    ·exact Ge _ (I g e)
theorem JF(f:Str)(v:V):∀F:List (Str×V),(dW f v F).length<=F.length+1
 | []=>by simp [dW]
 | (k,x)::r=>by
  have i:=JF f v r
  rw[show dW f v ((k,x)::r)=(if k=f then (k,v)::r else (k,x)::dW f v r) from Z]
  by_cases h:k=f
  ·rw[FQ h,Gi,Gi];omega
  ·rw[FV h,Gi,Gi];omega
theorem dM.some_of{v:V}{o:Option Value}(r:dM (some v) o):∃u,o=some u/\ax v u:=by
 cases o with
 |none=>exact(show False from r).elim
 |some u=>exact#[u,Z,r]
theorem dM.none_of(r:dM none o):o=none:=by
 cases o with
 |none=>rfl
 |some u=>exact(show False from r).elim
theorem Zu(r:ax v u):PySem.W.handedIn u=true:=by
 cases v with
 |non=>cases (show u=Value.none from r);rfl
 |bl b=>cases (show u=Value.bool b from r);rfl
 |int i=>obtain⟨t,e⟩:=(show ∃t,u=Value.int i t from r);cases e;rfl
 |str x=>obtain⟨t,e⟩:=(show ∃t,u=Value.str x t from r);cases e;rfl
 |byt b=>obtain⟨t,e⟩:=(show ∃t,u=Value.bytes b t from r);cases e;rfl
 |flt b=>obtain⟨t,e⟩:=(show ∃t,u=Value.float b t from r);cases e;rfl
 |ref a=>cases (show u=Value.ref a from r);rfl
 |ty n=>cases (show u=Value.type n from r);rfl
section
variable {P:Program}{w:World}{H H':Hp}{h h':Heap}{a C dx:Addr}{fs fs':List (Str×V)}
theorem QM(b:eJ P w H h)(e:H a=some (.ins C dx fs)):∃m,md h a dx C m/\(∀f,dM (fs.lookup f) (m f))/\PySem.Within m (fs.map (·.1))/\fs.length<=1000/\H dx=some (.own a):=by
 obtain⟨d,z,N,o,m,n,r,q⟩:=(show aX P w H h a (.ins C dx fs) from b a _ e)
 exact#[m,#[o,n,N],r,q,z,d]
end
structure ou(K:Frag)(C:Addr):Prop where
 pg:plainGet K C Str.empty=true
 hd:hasDictIn K C=true
 po:PySem.W.plainOver K C=true
 sa:findIn K (.ref C) "__setattr__"=some (some (.builtin "object.__setattr__"))
theorem ou.get{K:Frag}(c:ou K C)(f:Str):plainGet K C f=true:=c.pg
def bN(K:Frag)(C:Addr)(f:Str):Prop:=findIn K (.ref C) f=some none
theorem bN.taker{K:Frag}(n:bN K C f):PySem.W.takerIn K C f=some none:=by
 unfold PySem.W.takerIn
 rw[show findIn K (.ref C) f=some none from n]
 rfl
structure ci(K:Frag)(C:Addr)(m:Str)(f:Addr):Prop where
 at_:findIn K (.ref C) m=some (some (.ref f))
 fn:isFn K (.ref f)=true
 kp:keepIn K (.ref f)=true
section
variable {X:Cx}{pins:List (Addr×Obj)}{σ:St}{H:Hp}{s:Shared}{a C dx:Addr}{fs:List (Str×V)}{f:Str}{v:V}{A:Around}{E:Value->Shared->Prop}
theorem Kw{Q:Value->Shared->Prop}(I:ap X pins σ H s)(e:H a=some (.ins C dx fs))(c:ou X.K C)(n:bN X.K C f)(l:fs.lookup f=some v)
  (h:∀u S,ap X pins σ H S->ax v u->Q u S):wpAny (model X.prog X.w) A (getAttr (.ref a) f b) Q E s:=by
 obtain⟨m,O,r,_,_,_⟩:=QM I.hok e
 obtain⟨u,d,R⟩:=dM.some_of (v:=v) (o:=m f) (by rw[<- l];exact r f)
 exact uW I.kIn O (c.get f) c.hd n d (Zu R) (h u _ (I.tok _) R)
theorem Kx{Q:Value×List Value->Shared->Prop}(I:ap X pins σ H s)(e:H a=some (.ins C dx fs))(c:ou X.K C)(k:ci X.K C m g)(l:fs.lookup m=none)
  (h:Q (.ref g,[.ref a]) s):wpAny (model X.prog X.w) A (getMethod (.ref a) m p) Q E s:=by
 obtain⟨M,O,r,_,_,_⟩:=QM I.hok e
 have b:M m=none:=dM.none_of (by rw[<- l];exact r m)
 exact pk I.kIn O (c.get m) k.at_ k.fn b h
theorem Ky{Q:Unit->Shared->Prop}(I:ap X pins σ H s)(e:H a=some (.ins C dx fs))(c:ou X.K C)(n:bN X.K C f)(F:fs.length < 1000)(R:ax y u)
  (h:∀S,ap X pins σ (af H a (.ins C dx (dW f y fs))) S->Q () S):wpAny (model X.prog X.w) A (setAttr (.ref a) f u) Q E s:=by
 obtain⟨m,O,r,W,_,i⟩:=QM I.hok e
 have j:(fs.map (·.1)).length<=sizeLine:=by rw[Fy,LY];omega
 refine wH I.kIn O c.sa c.po n.taker c.hd W j λk d l=>h _ ?_
 have p:∃o,k.get? dx=some o:=let #[o,_,_,t,_]:=d.ns;#[o,t]
 refine I.write (x:=a) (e:=dx) (by rw[e];exact True.intro) (.inr i) (λb q B z=>(l.2 b B).trans z) p ?_
 refine#[by rw[jk O.ne];exact i,?_,O.ne,d.obj,_,d.ns,λg=>?_,λg D=>?_]
 ·have:=JF f y fs;omega
 ·show dM ((dW f y fs).lookup g) (if g=f then some u else m g)
  rw[JE]
  by_cases q:g=f
  ·rw[FQ q,FQ q];exact R
  ·rw[FV q,FV q];exact r g
 ·by_cases q:g=f
  ·rw[q];exact(Jt f y fs).1
  ·refine(Jt f y fs).2 g (W g λz=>D ?_)
   show(if g=f then some u else m g)=none
   rw[FV q];exact z
theorem ap.made(I:ap X pins σ H s):ap X pins σ (af (af H s.heap.objs.size (.own (s.heap.objs.size+1))) (s.heap.objs.size+1) (.ins C s.heap.objs.size []))
  { s with heap:=(s.heap.push emptyDict).push (instObj C s.heap.objs.size) }:=by
 have c:(s.heap.push emptyDict).get? s.heap.objs.size=some emptyDict:=FG s.heap Z
 have d:((s.heap.push emptyDict).push (instObj C s.heap.objs.size)).get? (s.heap.objs.size+1)=some (instObj C s.heap.objs.size):=by
  have:=FG (s.heap.push emptyDict) (o:=instObj C s.heap.objs.size) Z
  rwa [GH]at this
 have g:(s.heap.push emptyDict).Ns s.heap.objs.size (λ_=>none):=#[emptyDict,(List.toArray []),_,c,Z,(λe h=>absurd h MQ),λ_=>Z]
 have i:=I.laid (a:=s.heap.objs.size) (o:=.own (s.heap.objs.size+1)) (h':=s.heap.push emptyDict) (t':=s.toks) (λb u q=>Fx _ q) (Fz _) #[_,c]
 refine i.laid (a:=s.heap.objs.size+1) (o:=.ins C s.heap.objs.size []) (t':=s.toks) (λb u q=>Fx _ q) (Md (GH _ _)) ?_
 have n:s.heap.objs.size≠s.heap.objs.size+1:=FJ (Hj _)
 refine#[by rw[jk n,jc],FN _,n,d,λ_=>none,(Heap.Ns1.of_empty g).at λo q=>Fx _ q,λ_=>True.intro,λy j=>absurd Z j]
theorem uG{f:Str}{s:Shared}(c:attributeBase e f b (eval e b)=eval e b)
  (h:wpAny (model p w) A (eval e b) (λo S=>wpAny (model p w) A (getAttr o f true) Q E S) E s):wpAny (model p w) A (eval (.Attribute e f d) b) Q E s:=
 Attribute_any_ h (by rw[arm_eval_Attribute,c])
end
def Ey(K:Frag)(t:TE)(f:Str):TE:=λb H Q=>t b H λx h=>∃a C d F v,x= .ref a/\h a=some (.ins C d F)/\ou K C/\bN K C f/\F.lookup f=some v/\Q v h
def Ek(K:Frag)(t T:TE)(f:Str):TS:=λD b H=>T b H λy c=>t b c λx h=>∃a C d F,x= .ref a/\h a=some (.ins C d F)/\ou K C/\bN K C f/\F.length < 1000/\
 D.nx b (af h a (.ins C d (dW f y F)))
def BK(X:Cx)(o:Operator)(r:V->V->Hp->VK->Prop):Prop:=
 ∀(p:List (Addr×Obj)) (s:Shared) (a:St) (H:Hp) (x y:V) (u v:Value) (Q:VK),ap X p a H s->ax x u->ax y v->r x y H Q->wpAny (model X.prog X.w) X.A (inplaceOp o u v) (EP X p a Q) X.xe s
def wn(K:Frag)(t T:TE)(r:V->V->Hp->VK->Prop)(f:Str):TS:=λD b H=>t b H λx h=>∃a C g c v,x= .ref a/\h a=some (.ins C g c)/\ou K C/\bN K C f/\c.lookup f=some v/\
 T b h λy i=>r v y i λz e=>∃d F,e a=some (.ins C d F)/\F.length < 1000/\D.nx b (af e a (.ins C d (dW f z F)))
section
variable {X:Cx}{o e value:Expr}{f:Str}{pos pos' tpos:Pos}{ta tv:TE}
theorem zo(b:PE X e ta)(d:attributeBase e f X.env (eval e X.env)=eval e X.env):PE X (.Attribute e f pos) (Ey X.K ta f):=by
 intro p s g H Q I h
 refine uG d (aW (b p s g H _ I h) λu S z=>?_)
 obtain⟨x,i,j,r,a,C,D,F,v,E,k,c,n,l,q⟩:=z
 subst E
 obtain rfl:u=Value.ref a:=r
 exact Kw j k c n l λU t m R=>#[v,i,m,R,q]
theorem qI(d:PE X o ta)(g:PE X value tv)(i:swapsWith value (some (.Attribute o f pos')) pos.line X.env=pure false):PS X (.Assign [.Attribute o f pos'] value pos) (Ek X.K ta tv f):=by
 intro p s b H D I h
 refine plainObj_wpAny_Assign_Attribute (aW (g p s b H _ I h) λu S #[y,j,k,r,q]=>aW (d p S b j _ k q) λO w z=>?_) i
 obtain⟨x,A,m,R,a,C,B,F,E,t,c,n,l,Q⟩:=z
 subst E
 obtain rfl:O=Value.ref a:=R
 exact Ky m t c n l r λG v=>#[b,_,v,Q]
theorem Zv{O:Operator}{r:V->V->Hp->VK->Prop}(i:PE X o ta)(j:PE X value tv)(g:BK X O r):PS X (.AugAssign (.Attribute o f tpos) O value pos) (wn X.K ta tv r f):=by
 intro p s d H D I h
 refine wpAny_AugAssign_AttributeAny (aW (i p s d H _ I h) λk s1 b=>?_)
 obtain⟨x,m,t,R,a,C,dx,fs,v,w,A,c,n,l,q⟩:=b
 subst w
 obtain rfl:k=Value.ref a:=R
 refine Kw t A c n l λu S B F=>aW (j p S d m _ B q) λW G #[y,J,L,M,Q]=>aW (g p G d J v y u W _ L F M Q) λw4 s4 b=>?_
 obtain⟨z,H3,N,P,T,U,E,Y,q4⟩:=b
 exact Ky N E c n Y P λs5 I5=>#[d,_,I5,q4]
def Ed:V->V->Hp->VK->Prop:=λx y H Q=>∃i j,x= .int i/\y= .int j/\Q (.int (i+j)) H
theorem yI:BK X .Add Ed:=by
 rintro p s a H x y u v Q I r R ⟨i,j,rfl,rfl,q⟩
 obtain⟨t,rfl⟩:=(show ∃t,u=Value.int i t from r)
 obtain⟨T,rfl⟩:=(show ∃T,v=Value.int j T from R)
 exact PyProof.Rows.iadd_int #[.int (i+j),H,I.tok _,#[_,Z],q]
end
structure bH(k:Nat)(A:Around):Prop where
 hd:A.handled=none
 dp:A.depth+3*k+5 < recursionLimit
 un:A.units+16*k+200 < cLine
theorem bH.mono(r:bH k A)(h:j<=k):bH j A:=#[r.hd,by have:=r.dp;omega,by have:=r.un;omega]
theorem bH.deeper(r:bH (k+1) A)(e:Env):bH k (A.deeper e):=
 #[r.hd,by have:=r.dp;show A.depth+1+3*k+5 < _;omega,by have:=r.un;show A.units+3+16*k+200 < _;omega]
theorem X5{A:Around}:(A.under (.builtin "type.__call__" #[.ref C::u,k])).depth=A.depth+1:=by
 first |rfl |simp [Around.under,Code.weight,Code.isCreation,Code.isGuard,Code.isCaller,Code.frames,Code.isFrame,guardIds]
theorem X6{A:Around}:(A.under (.builtin "type.__call__" #[.ref C::u,k])).units=A.units+1:=by
 first |rfl |simp [Around.under,Code.cUnits,Code.frames,Code.isFrame]
theorem bH.make(r:bH (k+1) A)(C:Addr)(u:List Value)(K:List (Str×Value)):bH k (A.under (.builtin "type.__call__" #[.ref C::u,K])):=
 #[r.hd,by have:=r.dp;rw[X5];omega,by have:=r.un;rw[X6];omega]
theorem bH.depth(r:bH k A):A.depth < recursionLimit:=by have:=r.dp;omega
theorem bH.units(r:bH k A):A.units+64 < cLine:=by have:=r.un;omega
def aT:TA:=λ_ H Q=>Q [] H
def am(t:TE)(T:TA):TA:=λa H Q=>t a H λx h=>T a h λX b=>Q (x::X) b
section
variable {X:Cx}{e:Expr}{es:List Expr}{te:TE}{t:TA}{pos:Pos}
theorem jb:PA X [] aT:=λ_ _ _ _ H Q I h=>Iy #[[],H,I,.nil,h]
theorem ja(b:PE X e te)(c:PA X es t)(d:starEach (e::es) X.env=(false,eval e X.env)::starEach es X.env:=by rfl):PA X (e::es) (am te t):=by
 intro pos p s a H Q I h
 rw[d]
 show wpAny _ _ (spliced ((false,eval e X.env)::backTo pos (starEach es X.env))) _ _ s
 refine Ia (aW (b p s a H _ I h) λu S z=>?_)
 obtain⟨x,f,i,r,q⟩:=z
 exact aW (c pos p S a f _ i q) λU m #[g,j,k,R,l]=>#[x::g,j,k,.cons r R,l]
def b6(t:TA):TE:=λa H Q=>t a H λx h=>x.length<=sizeLine/\∀p,h p=none->Q (.ref p) (af h p (.tup x))
def lQ(t:TA):TE:=λa H Q=>t a H λx h=>x.length<=sizeLine/\∀p,h p=none->Q (.ref p) (af h p (.lst x))
theorem jh{x}(h:PA X es t):PE X (.Tuple es x pos) (b6 t):=by
 intro p s c H Q I d
 refine wpAny_Tuple_spliced (aW (h pos p s c H _ I d) λU S #[f,a,i,r,z,q]=>#[by rw[<- r.length];exact z,?_])
 have g:a S.heap.objs.size=none:=i.hok.fresh (Fz _)
 refine#[.ref S.heap.objs.size,af a S.heap.objs.size (.tup f),i.laid (t':=S.toks) (λb u e=>Fx _ e) (Fz _) ?_,Z,q _ g]
 exact#[z,U,r,#[_,FG _ Z,Z,_,Z]]
theorem jF(h:PA X es t):PE X (.List es pos) (lQ t):=by
 intro p s c H Q I d
 refine wpAny_List_spliced (aW (h pos p s c H _ I d) λU S #[x,a,i,r,z,q]=>#[by rw[<- r.length];exact z,?_])
 have f:a S.heap.objs.size=none:=i.hok.fresh (Fz _)
 refine#[.ref S.heap.objs.size,af a S.heap.objs.size (.lst x),i.laid (t':=S.toks) (λb u e=>Fx _ e) (Fz _) ?_,Z,q _ f]
 exact#[z,U,0,r,FG _ Z]
end
abbrev Sp:=List V->Hp->VK->XK->Prop
abbrev nh:=List Env->Hp->Shared->XK->Value->Shared->Prop
structure l7(P:Program)(w:World)(K:Frag)(mg:Str->Option Value)(base:Heap)(A:Around)(outer:List Env)(s:Shared)(H:Hp):Prop where
 frames:A.frames=some outer
 mod:Mod K mg base
 bs:∀b o,base.get? b=some o->s.heap.get? b=some o/\H b=none
 bsz:base.objs.size<=s.heap.objs.size
 funs:s.heap.FunFrames base outer
 frf:∀b∈iB outer,H b=none
 hok:eJ P w H s.heap
 bare:AllBare s.gens
def CE(o:List Env)(P:Program)(w:World)(H:Hp)(s:Shared)(Q:VK)(u:Value)(S:Shared):Prop:=
 ∃v h,S.os=s.os/\AllBare S.gens/\Un (iB o) [] H h s.heap S.heap/\eJ P w h S.heap/\ax v u/\Q v h
def CR(C:nh)(o:List Env)(P:Program)(w:World)(H:Hp)(s:Shared)(Q:VK)(E:XK)(r:Result)(S:Shared):Prop:=
 match r with
 | .ok (.ret u)=>CE o P w H s Q u S
 | .ok _=>False
 | .error e=>C o H s E e S
structure ah(P:Program)(w:World)(K:Frag)(mg:Str->Option Value)(base:Heap)(CX:nh)(k:Nat)(f:Addr)(fd:FuncData)(ps:List Str)(sp:Sp):Prop where
 len:∀vs H Q E,sp vs H Q E->vs.length=ps.length
 run:∀(A:Around) (outer:List Env) (s:Shared) (H:Hp) (args:Args) (us:List Value) (vs:List V) (Q:VK) (E:XK),bH k A->l7 P w K mg base A outer s H->BindsTo s fd args (ps.zip us)->aw vs us->sp vs H Q E->
  codeAny (model P w) A (.call (.ref f) args) (CR CX outer P w H s Q E) s
theorem l7.make{P:Program}{K:Frag}(e:l7 P w K m b A o s H)(C:Addr)(u:List Value)(k:List (Str×Value)):
  l7 P w K m b (A.under (.builtin "type.__call__" #[.ref C::u,k])) o s H:=#[by first |exact e.frames | (simpa [Around.under,Code.envs,Code.isFrame,pushEnvs] using e.frames),e.mod,e.bs,e.bsz,e.funs,e.frf,e.hok,e.bare]
section
variable {X:Cx}{pins:List (Addr×Obj)}{σ:St}{H:Hp}{s s':Shared}
theorem ap.env0(I:ap X pins σ H s):l7 X.prog X.w X.K X.mg X.base X.A X.stack s H:=
 #[I.ok.frames,I.ok.mod,I.bs,FL I.ok.bsz I.sz,I.stack,I.stkFree,I.hok,I.bare]
theorem ap.after(I:ap X pins σ H s)(h:CE X.stack X.prog X.w H s Q u s'):EP X pins σ Q u s':=by
 obtain⟨v,c,os,B,U,a,r,q⟩:=h
 obtain⟨e,g,d,t,o⟩:=s'
 obtain rfl:o=s.os:=os
 exact#[v,c,I.call (h':=e) (g':=g) (d':=d) (t':=t) (ch:=[]) U a B (λb z=>absurd z MQ),r,q]
end
def dI(s:Sp)(d:List V)(E:XK)(t:TA):TE:=λa H Q=>t a H λv h=>s (v++d) h Q E
def tG(C:Addr)(m:Str)(s:Sp)(d:List V)(E:XK)(T:TE)(t:TA):TE:=λb H Q=>T b H λx h=>∃a D f,x= .ref a/\h a=some (.ins C D f)/\f.lookup m=none/\
 t b h λv c=>s (x::(v++d)) c Q E
def Dp(C:Addr)(s:Sp)(D:List V)(E:XK)(t:TA):TE:=λa H Q=>t a H λb h=>∀x d,h x=none->h d=none->d≠x->
 s (.ref x::(b++D)) (af (af h d (.own x)) x (.ins C d [])) (λv c=>v= .non/\Q (.ref x) c) E
def ay(K:Frag)(f:FuncData)(p:List Str)(d:List Value):Prop:=
 ∀(s:Shared) (u:List Value),K.In s.heap->(u++d).length=p.length->BindsTo s f #[u,[]] (p.zip (u++d))
theorem ay.all{K:Frag}{p:List Str}(h:∀u:List Value,u.length=p.length->bindArgs f #[u,[]]=pure (p.zip u)):ay K f p []:=λs u _ H=>by
 rw[IZ]at H ⊢
 exact .of_eq (h u H)
def dm(C:nh)(X:Cx)(E:XK):Prop:=∀(p:List (Addr×Obj)) (a:St) (H:Hp) (s:Shared) (e:Value) (S:Shared),ap X p a H s->C X.stack H s E e S->X.xe e S
section
variable {X:Cx}{CX:nh}{k:Nat}{f C:Addr}{fd:FuncData}{ps:List Str}{sp:Sp}{dvs:List V}{ds:List Value}{E:XK}{x m:Str}{p pos apos:Pos}{e o:Expr}{es:List Expr}{ta:TE}{t:TA}
theorem QD{us:List Value}{vs:List V}(F:ah X.prog X.w X.K X.mg X.base CX k f fd ps sp)(d:bH k X.A)(g:ay X.K fd ps ds)(i:aw dvs ds)(j:dm CX X E)
  (I:ap X a c H s) (r:aw vs us) (h:sp (vs++dvs) H Q E):wpAny (model X.prog X.w) X.A (call (.ref f) us) (EP X a c Q) X.xe s:=by
 have R:aw (vs++dvs) (us++ds):=r.append i
 have l:(us++ds).length=ps.length:=by rw[<- R.length];exact F.len _ _ _ _ h
 refine wpAny_call (Im (F.run X.A X.stack s H #[us,[]] (us++ds) (vs++dvs) Q E d I.env0 (g s us I.kIn l) R h) λr S b=>?_)
 cases r with
 |error e=>exact j a c H s e S I b
 |ok n=>
  cases n with
  |ret u=>exact I.after b
  |next=>exact False.elim b
  |brk=>exact False.elim b
  |cont=>exact False.elim b
theorem kA(F:ah X.prog X.w X.K X.mg X.base CX k f fd ps sp)(c:bH k X.A)(d:Gl X x)(g:X.mg x=some (.ref f))(j:keepIn X.K (.ref f)=true)(l:ay X.K fd ps ds)(n:aw dvs ds)(u:dm CX X E)
  (v:PA X (e::es) t) (a:(x==("__debug__":Str))=false:=by decide) (y:starEach (e::es) X.env=(false,eval e X.env)::starEach es X.env:=by rfl) (b:(backTo pos (starEach es X.env)).any (·.1)=false:=by rfl):
  PE X (.Call (.Name x p) (e::es) [] pos) (dI sp dvs E t):=by
 intro P s z H Q I h
 refine GZ (zg I d g ?_ a)
 refine Mu (h₀:=X.base) I.ok.mod.kin j (aW (v pos P s z H _ I h) λU S #[B,D,i,r,q]=>#[i.kIn,?_]) y b
 exact QD F c l n u i r q
theorem kQ(v:PE X o ta)(c:ou X.K C)(g:ci X.K C m f)(F:ah X.prog X.w X.K X.mg X.base CX k f fd ps sp)(y:bH k X.A)(B:ay X.K fd ps ds)(D:aw dvs ds)(G:dm CX X E)(J:PA X (e::es) t)
  (b:starEach (e::es) X.env=(false,eval e X.env)::starEach es X.env:=by rfl) (d:(backTo pos (starEach es X.env)).any (·.1)=false:=by rfl)
  (L:eval (.Call (.Attribute o m apos) (e::es) [] pos) X.env=(do
   let O <- eval o X.env
   standAt apos.atName
   let (f,first) <- holding [O] (getMethod O m pl)
   callWith pos f first (backTo pos (starEach (e::es) X.env)) (backToKw pos (keywordEach [] X.env))):=by rfl):
  PE X (.Call (.Attribute o m apos) (e::es) [] pos) (tG C m sp dvs E ta t):=by
 intro P s i H Q I h
 refine LA (pl:=pl) (aW (v P s i H _ I h) λu S z=>?_) L
 obtain⟨x,M,j,R,a,W,Y,N,T,l,q⟩:=z
 subst N
 obtain rfl:u=Value.ref a:=R
 refine Kx j T c g l ?_
 refine Mu (first:=[.ref a]) (h₀:=X.base) I.ok.mod.kin g.kp (aW (J pos P S i M _ j q) λus s2 #[vs,H2,n,r,U]=>#[n.kIn,?_]) b d
 exact QD (us:=.ref a::us) (vs:=.ref a::vs) F y B D G n (.cons Z r) U
theorem rf(d:PE X o ta)(c:ou X.K C)(b:ci X.K C m f)(F:ah X.prog X.w X.K X.mg X.base CX k f fd ps sp)(g:bH k X.A)(j:ay X.K fd ps ds)(n:aw dvs ds)(r:dm CX X E)
  (v:eval (.Call (.Attribute o m apos) [] [] pos) X.env=(do
   let O <- eval o X.env
   standAt apos.atName
   let (f,first) <- holding [O] (getMethod O m pl)
   callWith pos f first (backTo pos (starEach [] X.env)) (backToKw pos (keywordEach [] X.env))):=by rfl):
  PE X (.Call (.Attribute o m apos) [] [] pos) (tG C m sp dvs E ta aT):=by
 intro P s y H Q I h
 refine LA (pl:=pl) (aW (d P s y H _ I h) λu S z=>?_) v
 obtain⟨x,G,i,R,a,J,L,B,D,l,q⟩:=z
 subst B
 obtain rfl:u=Value.ref a:=R
 refine Kx i D c b l ?_
 exact PySem.W.callWith_K0 (first:=[.ref a]) i.kIn b.kp (QD (us:=[.ref a]) (vs:=[.ref a]) F g j n r i (.cons Z .nil) q)
structure Mk(K:Frag)(C f:Addr):Prop where
 makes:PySem.W.makesIn K C=true
 init:findIn K (.ref C) "__init__"=some (some (.ref f))
 fn:isFn K (.ref f)=true
 kp:keepIn K (.ref C)=true
theorem rL(M:Mk X.K C f)(F:ah X.prog X.w X.K X.mg X.base CX k f fd ps sp)(l:bH (k+1) X.A)(n:ay X.K fd ps ds)(q:aw dvs ds)
  (y:dm CX X E) (I:ap X b c H s) (r:aw g U)
  (h:∀x d,H x=none->H d=none->d≠x->sp (.ref x::(g++dvs)) (af (af H d (.own x)) x (.ins C d [])) (λv z=>v= .non/\Q (.ref x) z) E):
  wpAny (model X.prog X.w) X.A (call (.ref C) U) (EP X b c Q) X.xe s:=by
 have j:=h (s.heap.objs.size+1) s.heap.objs.size (I.hok.fresh (Hs _)) (I.hok.fresh (Fz _)) (FJ (Hj _))
 have i:=ap.made (C:=C) I
 have R:aw (V.ref (s.heap.objs.size+1)::(g++dvs)) (Value.ref (s.heap.objs.size+1)::(U++ds)):=.cons Z (r.append q)
 have B:(Value.ref (s.heap.objs.size+1)::U++ds).length=ps.length:=by
  have e:=R.length
  rw[F.len _ _ _ _ j]at e
  exact e.symm
 refine wpAny_call (pH (f:=f) I.kIn M.makes M.init (beq_iff_eq.mp M.fn) (Im (F.run _ X.stack _ _ #[Value.ref (s.heap.objs.size+1)::U,[]] (Value.ref (s.heap.objs.size+1)::(U++ds)) _ _ E (l.make C U [])
  (i.env0.make C U []) (n _ (Value.ref (s.heap.objs.size+1)::U) i.kIn B) R j) λr S a=>?_))
 cases r with
 |error e=>exact y b c _ _ e S i a
 |ok D=>
  cases D with
  |ret u=>
   obtain⟨v,G,J,L,N,O⟩:=i.after a
   subst N
   exact#[L,#[V.ref (s.heap.objs.size+1),G,J,Z,O]]
  |next=>exact False.elim a
  |brk=>exact False.elim a
  |cont=>exact False.elim a
theorem YO(M:Mk X.K C f)(F:ah X.prog X.w X.K X.mg X.base CX k f fd ps sp)(c:bH (k+1) X.A)(d:Gl X x)(g:X.mg x=some (.ref C))(j:ay X.K fd ps ds)(l:aw dvs ds)(n:dm CX X E)
  (u:PA X (e::es) t) (a:(x==("__debug__":Str))=false:=by decide) (v:starEach (e::es) X.env=(false,eval e X.env)::starEach es X.env:=by rfl) (b:(backTo pos (starEach es X.env)).any (·.1)=false:=by rfl):
  PE X (.Call (.Name x p) (e::es) [] pos) (Dp C sp dvs E t):=by
 intro P s y H Q I h
 refine GZ (zg I d g ?_ a)
 refine Mu (h₀:=X.base) I.ok.mod.kin M.kp (aW (u pos P s y H _ I h) λU S #[z,B,i,r,q]=>#[i.kIn,?_]) v b
 exact rL M F c j l n i r q
end
structure al(N P:List Str)(sc:Scope):Prop where
 kind:sc.kind= .function
 co:sc.isCoroutine=false
 gen:sc.isGenerator=false
 nd:N.Nodup
 pre:N.take P.length=P
 par:∀x∈P,sc.names.lookup x=some .local∨sc.names.lookup x=some .cell
 nofree:∀y∈sc.names,y.2≠ .free
theorem Qg{kindOf:Str->Option NameKind}:∀{b:List (Str×Value)} {m:Str->Option Value},(∀v,(x,v)∉b)->bindL kindOf b m x=m x
 | [],_,_=>rfl
 | (n,v)::r,m,h=>by
  unfold bindL
  rw[Qg λw H=>h w (Ge _ H)]
  split
  ·have:x≠n:=by rintro rfl;exact h v FX
   simp [this]
  ·rfl
theorem Qh{kindOf:Str->Option NameKind}:∀{b:List (Str×Value)} {m:Str->Option Value},(∀v,(x,v)∉b)->bindC kindOf b m x=m x
 | [],_,_=>rfl
 | (n,v)::r,m,h=>by
  unfold bindC
  rw[Qh λw H=>h w (Ge _ H)]
  split
  ·rfl
  ·have:x≠n:=by rintro rfl;exact h v FX
   simp [this]
theorem Qi{kindOf:Str->Option NameKind}:∀{P:List Str} {V:List Value} {i:Nat} {m:Str->Option Value},P.Nodup->P[i]?=some x->V[i]?=some v->kindOf x=some .local->
  bindL kindOf (P.zip V) m x=some v
 | [],_,_,_,_,h,_,_=>by simp at h
 |_::_,[],_,_,_,_,h,_=>by simp at h
 |p::P,w::V,0,m,n,H,a,b=>by
  simp at H a;subst H;subst a
  show bindL kindOf ((p,w)::P.zip V) m p=_
  unfold bindL
  rw[Qg λv c=>(List.nodup_cons.mp n).1 (Lx c).1,FQ b]
  simp
 |p::P,w::V,i+1,m,n,H,a,b=>by
  show bindL kindOf ((p,w)::P.zip V) m x=_
  unfold bindL
  exact Qi (i:=i) (List.nodup_cons.mp n).2 (by simpa using H) (by simpa using a) b
theorem Qj{kindOf:Str->Option NameKind}:∀{P:List Str} {V:List Value} {i:Nat} {m:Str->Option Value},P.Nodup->P[i]?=some x->V[i]?=some v->kindOf x≠some .local->
  bindC kindOf (P.zip V) m x=some v
 | [],_,_,_,_,h,_,_=>by simp at h
 |_::_,[],_,_,_,_,h,_=>by simp at h
 |p::P,w::V,0,m,n,H,a,b=>by
  simp at H a;subst H;subst a
  show bindC kindOf ((p,w)::P.zip V) m p=_
  unfold bindC
  rw[Qh λv c=>(List.nodup_cons.mp n).1 (Lx c).1,FV b]
  simp
 |p::P,w::V,i+1,m,n,H,a,b=>by
  show bindC kindOf ((p,w)::P.zip V) m x=_
  unfold bindC
  exact Qj (i:=i) (List.nodup_cons.mp n).2 (by simpa using H) (by simpa using a) b
noncomputable def gf(N:List Str)(v:List V):St:=v.map some++List.replicate (N.length - v.length) none
noncomputable def ff(C:nh)(P:Program)(w:World)(K:Frag)(mg:Str->Option Value)(base:Heap)(N:List Str)(q:Str)(S:Scope)(f:Addr)(c:Value)(A:Around)(outer:List Env)(s:Shared)(H:Hp)(E:XK):Cx where
 prog:=P
 w:=w
 K:=K
 mg:=mg
 base:=base
 A:=A.deeper (envOfC q S s.heap.objs.size f c)
 N:=N
 s₀:=s
 H₀:=H
 env:=envOfC q S s.heap.objs.size f c
 outer:=outer
 stack:=envOfC q S s.heap.objs.size f c::outer
 ex:=[]
 calm:=true
 fn:=λ_=>true
 pn:=[]
 xe:=λe b=>wpAny (model P w) (A.deeper (envOfC q S s.heap.objs.size f c)) (leaving (envOfC q S s.heap.objs.size f c) e) (λ_ a=>C outer H s E e a) (λd a=>C outer H s E d a) b
theorem Xb{s:Scope}{n:Nat}(h:s.names.lookup x=some .cell):∃c,(cellsFrom n s.names []).lookup x=some c:=by
 have q:=PySem.W.cellsFrom_some s.names n [] (.inl h)
 exact Option.isSome_iff_exists.mp q
theorem Zw{P:Program}{K:Frag}{A:Around}{l:List V}
  (S:al N t d) (O:A.handled=none) (j:l7 P w K M B A o s H) (hl:l.length=t.length) (r:aw l U)
  (x:InCallC s s.heap.objs.size (bindL (envOfC Q d s.heap.objs.size f I).kindOf (t.zip U) λ_=>none) (cellsFrom (s.heap.objs.size+1) d.names []) (bindC (envOfC Q d s.heap.objs.size f I).kindOf (t.zip U) λ_=>none) T):
  ap (ff Y P w K M B N Q d f I A o s H E) [] (gf N l) H T:=by
 have R:t.length<=N.length:=by have:=Hf List.length S.pre;rw[Gf]at this;omega
 obtain⟨F,tk,rfl,J⟩:=x.done
 have m:∀b:Addr,b∉(ff Y P w K M B N Q d f I A o s H E).ex:=λb z=>absurd (show b∈([]:List Addr) from z) MQ
 refine#[#[j.mod,S.kind,Z,Z,Fz _,λy z c F g=>?_,λy hy=>?_,λy c _ h=>?_,λ_=>O,Around.frames_deeper j.frames,.inr #[Z,Z],λb z=>absurd z (m b),j.bs,j.bsz,λb _ _=>m b,λb z=>absurd z (m b),j.funs,j.frf],
  rfl,j.bare,Un.kept J,#[_,x.toInCall.ns,λi y v F g h3=>?_],λy c h=>#[_,x.cell y c h],j.hok.fresh (Fz _),λy c h=>?_,λp C=>absurd (show p∈([]:List (Addr×Obj)) from C) MQ,j.hok.kept J,?_]
 ·exact name_of_addr x.apart (Hn F) (Hn g)
 ·have hy:d.names.lookup y=some .cell∨d.names.lookup y=some .free:=hy
  rcases hy with hy |hy
  ·exact Xb hy
  ·exact absurd Z (S.nofree _ (Hn hy))
 ·exact Iv (x.above y c (Hn h))
 ·have G:i < l.length:=by
   unfold gf at g
   by_cases G:i < l.length
   ·exact G
   ·rw[HM (by simpa using G)]at g
    rw[ML]at g
    split at g<;>cases g
  have W:l[i]?=some v:=by
   unfold gf at g
   rw[HR (by simpa using G),FT]at g
   cases e:l[i]? with
   |none=>rw[e]at g;cases g
   |some a=>rw[e]at g;cases g;rfl
  obtain⟨u,L,X⟩:=r.get W
  have C:t[i]?=some y:=by
   rw[<- S.pre,List.getElem?_take_of_lt MP];exact F
  have D:t.Nodup:=by rw[<- S.pre];exact S.nd.sublist (HW _ _)
  refine#[u,X,?_]
  rcases S.par y (F' C) with k |k
  ·exact .inl #[k,Qi D C L k]
  ·obtain⟨c,e⟩:=Xb (n:=s.heap.objs.size+1) k
   refine .inr #[.inl k,c,e,?_]
   have q:=x.cell y c e
   rw[Qj D C L (by show d.names.lookup y≠_;rw[k];decide)]at q
   exact q
 ·exact j.hok.fresh (Iv (x.above y c (Hn h)))
 ·unfold gf
  show _=N.length
  rw[FD,Fy,LF]
  omega
theorem xF{P:Program}{K:Frag}{kV:Value}
    {G:Sp} (lk:K.lookup f=some #[oc,od,.func (fnOf name c p h a dV kV L pm an C ct),o1]) (M:codeIn K C c=true) (S:al N T a)
  (len:∀d H Q E,G d H Q E->d.length=T.length)
  (j:∀(A:Around) (O:List Env) (s:Shared) (H:Hp) (d:List V) (Q:VK) (E:XK),bH k (A.deeper (envOfC c a s.heap.objs.size f C))->G d H Q E->
   ∃t,ls (ff U P w K Y B N c a f C A O s H E) h t/\t { nx:=λ_ i=>Q .non i,rt:=Q } (gf N d) H):
  ah P w K Y B U (k+1) f (fnOf name c p h a dV kV L pm an C ct) T G:=by
 refine#[len,λA O s H a0 us d Q E R z hb r D=>?_]
 have hl:=len _ _ _ _ D
 have KX:K.In s.heap:=z.mod.kin.keeps λb o e=>(z.bs b o e).1
 have X:s.heap.NoLimit:=z.mod.nolimit.keeps λb o e=>(z.bs b o e).1
 have l:∀y∈T.zip us,a.names.lookup y.1=some .local∨(a.names.lookup y.1=some .cell/\((cellsFrom (s.heap.objs.size+1) a.names []).lookup y.1).isSome=true):=λ#[n,v] hy=>by
  rcases S.par n (Lx hy).1 with q |q
  ·exact .inl q
  ·exact .inr #[q,PySem.W.cellsFrom_some _ _ _ (.inl q)]
 refine codeAny_call_function R.depth (KX _ _ lk) Z S.co S.gen Z (PySem.W.codeRec_of KX M) (hb _ _ _ _ ?_)
 refine wpAny_newFunctionEnv_cells S.kind l λe1 he s1 x=>?_
 subst he
 refine#[X.keeps x.toInCall.keep,codeAny_func ?_]
 obtain⟨t,ht,hq⟩:=j A O s H d Q E (R.deeper _) D
 have I:ap (ff U P w K Y B N c a f C A O s H E) [] (gf N d) H s1:=Zw S R.hd z hl r x
 refine GY (ht [] s1 (gf N d) H _ I hq) (λfl s' m=>?_) λe s' m=>m
 have F:∀{g:St} {i:Hp} {v:V} {u:Value},ap (ff U P w K Y B N c a f C A O s H E) [] g i s'->ax v u->Q v i->CE O P w H s Q u s':=
  λ{g i v u} J rv q=>#[v,i,J.os,J.bare,J.base,J.hok,rv,q]
 cases fl with
 |ret u=>
  obtain⟨v,g,i,J,rv,q⟩:=m
  exact F J rv q
 |next=>
  obtain⟨g,i,J,q⟩:=m
  exact F (v:=V.non) (u:=Value.none) J Z q
 |brk=>
  obtain⟨_,_,_,q⟩:=m
  exact False.elim q
 |cont=>
  obtain⟨_,_,_,q⟩:=m
  exact False.elim q
section
variable {X:Cx}{x:Str}{p pos:Pos}{e:Expr}{es:List Expr}{t:TA}{id T:String}{r:List V->Hp->VK->Prop}
def DM(r:List V->Hp->VK->Prop)(t:TA):TE:=λa H Q=>t a H λv h=>r v h Q
theorem jP(d:eG X (.builtin id) r)(f:Gl X x)(g:X.mg x=none)(i:bootBuiltins x=some (.builtin id))(j:PA X (e::es) t)(k:x≠"__name__":=by decide)(a:(x==("__debug__":Str))=false:=by decide)
  (l:starEach (e::es) X.env=(false,eval e X.env)::starEach es X.env:=by rfl) (b:(backTo pos (starEach es X.env)).any (·.1)=false:=by rfl):PE X (.Call (.Name x p) (e::es) [] pos) (DM r t):=by
 intro P s c H Q I h
 refine GZ (zR I f g i ?_ k a)
 exact PyProof.Rows.callWith_builtin1 (aW (j pos P s c H _ I h) λu S #[v,m,n,R,q]=>d P S c m v u Q n R q) l b
theorem jE(d:eG X (.type T) r)(f:Gl X x)(g:X.mg x=none)(i:bootBuiltins x=some (.type T))(j:PA X (e::es) t)(k:x≠"__name__":=by decide)(a:(x==("__debug__":Str))=false:=by decide)
  (l:starEach (e::es) X.env=(false,eval e X.env)::starEach es X.env:=by rfl) (b:(backTo pos (starEach es X.env)).any (·.1)=false:=by rfl):PE X (.Call (.Name x p) (e::es) [] pos) (DM r t):=by
 intro P s c H Q I h
 refine GZ (zR I f g i ?_ k a)
 exact GF (aW (j pos P s c H _ I h) λu S #[v,m,n,R,q]=>d P S c m v u Q n R q) l b
end
end L2
namespace HT
open PySem PyProof.Rows
section
variable {prog:Program}{w:World}{A:Around}{E:Value->Shared->Prop}{s:Shared}
theorem cat_tup{v W:List Value}{Q:Value->Shared->Prop}(m:IsTup s.heap t v.toArray)(o:IsTup s.heap b W.toArray)(i:v≠[])
  (p:W=[]->Q (.ref t) s) (q:W≠[]->Q (.ref s.heap.objs.size) { s with heap:=s.heap.push { cls:=.type "tuple",data:=.seq (v++W).toArray } })
  (g:v.length+W.length<=sizeLine):wpAny (model prog w) A (binaryOp .Add (.ref t) (.ref b)) Q E s:=by
 obtain⟨⟨cls,D,data,j⟩,c,k,n,l⟩:=id m
 obtain⟨⟨C,d,data2,S⟩,h,H,N,a⟩:=id o
 simp only at k l H a
 subst k l H a
 have e:v.toArray++W.toArray=(v++W).toArray:=by simp
 by_cases f:W=[]
 ·exact concat_meets #[_,c,Z] #[_,h,Z] ME seq_tuple_add Ll Lh (Lc _ _)
   (tuple_addW1 t b v.toArray W.toArray n N D d j S (by simpa using i) (by simp [f])) #[c,h,p f]
 ·refine concat_meets #[_,c,Z] #[_,h,Z] ME seq_tuple_add Ll Lh (Lc _ _)
   (tuple_addW2 t b v.toArray W.toArray n N D d j S (by simpa using i) (by simpa using f) (by rw[FE,FE];exact g)) #[c,h,?_]
  rw[e]
  exact q f
noncomputable def sIx(n d:Nat):Option Int->Nat
 |none=>d
 |some v=>if v < 0 then (v+(n:Int)).toNat else min v.toNat n
theorem sIx_none(n d:Nat):sIx n d none=d:=rfl
theorem sIx_nat(n d k:Nat):sIx n d (some (k:Int))=min k n:=by
 show(if (k:Int) < 0 then ((k:Int)+(n:Int)).toNat else min (k:Int).toNat n)=min k n
 rw[FV MP,GQ]
theorem AZ(n d:Nat)(H:d<=n)(o:Option Int):sIx n d o<=n:=by
 cases o with
 |none=>exact H
 |some v=>
  show(if v < 0 then (v+(n:Int)).toNat else min v.toNat n)<=n
  by_cases h:v < 0
  ·rw[FQ h];omega
  ·rw[FV h];exact Nat.min_le_right _ _
theorem YQ(v:Int)(n d:Nat):(if v < 0 then max (v+(n:Int)) 0 else min v (n:Int))=((sIx n d (some v):Nat):Int):=by
 show(if v < 0 then max (v+(n:Int)) 0 else min v (n:Int))=(((if v < 0 then (v+(n:Int)).toNat else min v.toNat n):Nat):Int)
 by_cases h:v < 0
 ·simp only[FQ h];omega
 ·simp only[FV h];omega
theorem X7(lo h:Option Int)(n:Nat):Builtin.Slice.sliceAdjust lo h 1 (n:Int)=(((sIx n 0 lo:Nat):Int),((sIx n n h:Nat):Int)):=by
 have H:¬((1:Int) < 0):=by omega
 unfold Builtin.Slice.sliceAdjust
 simp only[H,Hg]
 refine Prod.ext ?_ ?_
 ·cases lo with
  |none=>rfl
  |some v=>exact YQ v n 0
 ·cases h with
  |none=>rfl
  |some v=>exact YQ v n n
theorem X8(i j:Nat):Builtin.Slice.slicePlaces (i:Int) (j:Int) 1=j - i:=by
 unfold Builtin.Slice.slicePlaces
 have h:(1:Int) > 0:=by omega
 simp only[h,IL,Int.ediv_one]
 split<;>omega
theorem Kz{Q:Option Int->Shared->Prop}(p:IsPart v o)(h:Q o s):wpAny (model prog w) A (Builtin.Slice.slicePartIndex v) Q E s:=by
 cases p with
 |none=>exact slicePart_none h
 |int i t=>exact slicePart_int h
theorem sliceApplied_gen{lo:Option Int}{Q:Int×Int×Nat->Shared->Prop}(d:s.heap.IsSliceOf e v c .none)(p:IsPart v lo)(P:IsPart c b)
  (h:Q (((sIx n 0 lo:Nat):Int),1,sIx n n b - sIx n 0 lo) s):wpAny (model prog w) A (Builtin.Slice.sliceApplied (.ref e) (pure (n:Int))) Q E s:=by
 obtain⟨os,H,f,a⟩:=id d
 unfold Builtin.Slice.sliceApplied Builtin.Slice.sliceFields
 refine Ft (Ft (Gb H a (x:=v) Z (Ft (Gb H a (x:=c) Z (Ft (Gb H a (x:=.none) Z (Fv ?_)))))))
 refine Ft (slicePart_none ?_)
 show wpAny _ _ (if ((1:Int)==0)=true then _ else _) _ _ s
 rw[FV MO]
 refine Ft (Kz p (Ft (Kz P (Ft (Fv ?_)))))
 show wpAny _ _ (match Builtin.Slice.sliceAdjust lo b 1 (n:Int) with | (lo,b)=>pure (lo,(1:Int),Builtin.Slice.slicePlaces lo b 1)) _ _ s
 rw[X7 lo b n]
 show wpAny _ _ (pure (((sIx n 0 lo:Nat):Int),(1:Int),Builtin.Slice.slicePlaces ((sIx n 0 lo:Nat):Int) ((sIx n n b:Nat):Int) 1)) _ _ s
 rw[X8]
 exact Fv h
theorem rj(X:Array Value)(i k:Nat):((List.range k).filterMap λ(m:Nat)=>X[((i:Int)+(m:Int)*1).toNat]?).toArray=((X.toList.drop i).take k).toArray:=by
 have e:(λ(m:Nat)=>X[((i:Int)+(m:Int)*1).toNat]?)=λm=>X[i+m]?:=by
  funext m
  have:((i:Int)+(m:Int)*1).toNat=i+m:=by omega
  rw[this]
 rw[e]
 have:=pick_run X i k
 rw[List.filterMap_map]at this
 have a:((λx=>X[x]?) ∘ λx=>i+x)=λm=>X[i+m]?:=rfl
 rw[a]at this
 rw[this]
theorem getItem_tuple_cut{lo:Option Int}{Q:Value->Shared->Prop}(ht:IsTup s.heap t items)(hs:s.heap.IsSliceOf sl vl vu .none)(pl:IsPart vl lo)(pu:IsPart vu hi)
  (hw:¬(sIx items.size 0 lo=0/\sIx items.size items.size hi=items.size))
  (h:Q (.ref s.heap.objs.size) { s with heap:=s.heap.push { cls:=.type "tuple",data:=.seq ((items.toList.drop (sIx items.size 0 lo)).take (sIx items.size items.size hi - sIx items.size 0 lo)).toArray } })
  (hsz:items.size<=sizeLine):wpAny (model prog w) A (getItem (.ref t) (.ref sl)) Q E s:=by
 have htake:sizeOk (.seq ((items.toList.drop (sIx items.size 0 lo)).take (sIx items.size items.size hi - sIx items.size 0 lo)).toArray):=by
  show((items.toList.drop (sIx items.size 0 lo)).take (sIx items.size items.size hi - sIx items.size 0 lo)).toArray.size<=sizeLine
  rw[FE,Gf,HL,Ga]
  omega
 have hj:sIx items.size items.size hi<=items.size:=AZ _ _ (Fz _) hi
 obtain⟨os,hos,hcs,hds⟩:=id hs
 have hTs:s.TypeIs (.ref sl) "slice":=#[os,hos,hcs]
 unfold getItem
 try with_reducible refine Gc ?_
 first |refine Ft (Fv ?_) |skip
 refine Ft (Ms ht.typeIs MO ?_)
 refine Ft (Gr (name:=Str.ofString "__getitem__") ht.typeIs Ic
  (Gw Ic ht.typeIs entry_tuple_getitem ?_ (args_tuple_getitem _ _)))
 show wpAny _ _ (Builtin.Tuple.tupleItemsOf (.ref t) >>= _) _ _ s
 refine Ft (tupleItemsOf_ ht ?_)
 refine Ft (HQ hTs ?_)
 rw[FQ MO]
 refine Ft (sliceApplied_gen hs pl pu ?_)
 have hno:¬((((sIx items.size 0 lo:Nat):Int)==0&&(1:Int)==1&&(sIx items.size items.size hi - sIx items.size 0 lo)==items.size)=true):=by
  intro q
  rw[GL,GL]at q
  have q1:((sIx items.size 0 lo:Nat):Int)=0:=eq_of_beq q.1.1
  have q2:sIx items.size items.size hi - sIx items.size 0 lo=items.size:=eq_of_beq q.2
  exact hw #[MP,MP]
 show wpAny _ _ (if (((sIx items.size 0 lo:Nat):Int)==0&&(1:Int)==1&&(sIx items.size items.size hi - sIx items.size 0 lo)==items.size)=true then _ else _) _ _ s
 rw[FV hno,rj]
 first
  |exact Ft (m:=Builtin.Tuple.tupleExact _) (Gu (Fv #[_,Z,Fv h]) htake)
  |exact Ft (m:=Builtin.Tuple.tupleExact _) (Gu (Ft (Fv (Fv #[_,Z,Fv h]))) htake)
  |exact Ft (Ft (m:=Builtin.Tuple.tupleExact _) (Gu (Fv (Fv #[_,Z,Fv h])) htake))
  |exact Ft (Ft (m:=Builtin.Tuple.tupleExact _) (Gu (Fv #[_,Z,Fv h]) htake))
end
end HT
namespace L2
open PySem PySem.Spec PyProof.Rows
abbrev TO:=St->Hp->(Option Int->Hp->Prop)->Prop
def PO(X:Cx)(e:Option Expr)(t:TO):Prop:=
 ∀(p:List (Addr×Obj)) (s:Shared) (a:St) (H:Hp) (Q:Option Int->Hp->Prop),ap X p a H s->t a H Q->
  wpAny (model X.prog X.w) X.A (evalPart e X.env) (λu S=>∃o h,ap X p a h S/\IsPart u o/\Q o h) X.xe s
def lh:TO:=λ_ H Q=>Q none H
def lR(t:TE):TO:=λa H Q=>t a H λx h=>∃i,x= .int i/\Q (some i) h
section
variable {X:Cx}{e:Expr}{te:TE}{lo hi:Option Expr}{tl th:TO}{pos p2:Pos}
theorem j7:PO X none lh:=by
 intro p s a H Q I h
 rw[evalPart_none]
 exact Fv #[none,H,I,.none,h]
theorem jG(h:PE X e te):PO X (some e) (lR te):=by
 intro p s a H Q I b
 rw[evalPart_some]
 refine aW (h p s a H _ I b) λu S z=>?_
 obtain⟨x,c,d,r,f⟩:=z
 obtain⟨i,rfl,q⟩:=f
 obtain⟨t,rfl⟩:=r
 exact#[some i,c,d,.int i t,q]
def DB(X:Cx)(r:V->Option Int->Option Int->Hp->VK->Prop):Prop:=
 ∀(p:List (Addr×Obj)) (s:Shared) (a:St) (H:Hp) (x:V) (v b c:Value) (lo hi:Option Int) (S:Addr) (Q:VK),ap X p a H s->ax x v->s.heap.IsSliceOf S b c .none->IsPart b lo->IsPart c hi->r x lo hi H Q->
  ∃T id,typeLookup (.type T) "__getitem__"=pure (some (.builtin id))/\s.TypeIs v T/\wpAny (model X.prog X.w) X.A (getItem v (.ref S)) (EP X p a Q) X.xe s
def DN(r:V->Option Int->Option Int->Hp->VK->Prop)(te:TE)(tl th:TO):TE:=λa H Q=>te a H λx h=>tl a h λl b=>th a b λu c=>r x l u c Q
theorem jJ{r:V->Option Int->Option Int->Hp->VK->Prop}(g:DB X r)(i:PE X e te)(j:PO X lo tl)(k:PO X hi th):PE X (.Subscript e (.Slice lo hi none p2) pos) (DN r te tl th):=by
 intro p s a H Q I h
 refine Subscript_ (aW (i p s a H _ I h) λv m z=>?_)
 obtain⟨x,n,o,R,t⟩:=z
 refine wpAny_Slice (aW (j p m a n _ o t) λc y #[l,B,C,P,D]=>aW (k p y a B _ C D) λd S z=>?_)
 obtain⟨u,f,E,F,G⟩:=z
 rw[evalPart_none]
 refine Fv ?_
 have J:ap X p a f { S with heap:=S.heap.push { cls:=.type "slice",data:=.fields (List.toArray [c,d,.none]) } }:=E.kept (t':=S.toks) λb O q=>Fx _ q
 obtain⟨T,id,K,L,M⟩:=g p { S with heap:=S.heap.push { cls:=.type "slice",data:=.fields (List.toArray [c,d,.none]) } } a f x v c d l u S.heap.objs.size Q J R (Heap.IsSliceOf.new ..) P F G
 show wpAny (model X.prog X.w) X.A (subscriptTail e (.Slice lo hi none p2) v (.ref S.heap.objs.size)) (EP X p a Q) X.xe { S with heap:=S.heap.push { cls:=.type "slice",data:=.fields (List.toArray [c,d,.none]) } }
 exact tail_any (ops:=[.ref S.heap.objs.size,v]) L K M (by with_unfolding_all rfl)
noncomputable def a8(x:List V)(lo hi:Option Int):List V:=(x.drop (HT.sIx x.length 0 lo)).take (HT.sIx x.length x.length hi - HT.sIx x.length 0 lo)
theorem zd(x:List V)(lo hi:Option Int):(a8 x lo hi).length<=x.length:=by
 unfold a8
 rw[Gf,HL]
 omega
def Ej(K:Frag):V->Option Int->Option Int->Hp->VK->Prop:=λx lo hi H Q=>∃a b,x= .ref a/\aA K H a b/\
 ¬(HT.sIx b.length 0 lo=0/\HT.sIx b.length b.length hi=b.length)/\∀p,H p=none->Q (.ref p) (af H p (.tup (a8 b lo hi)))
theorem Be:DB X (Ej X.K):=by
 intro p s n H x v V t lo hi S Q I R j P k h
 obtain⟨a,d,rfl,l,m,q⟩:=h
 cases R
 obtain⟨i,r,f,g⟩:=I.tuple l
 have c:i.toArray.size=d.length:=by rw[FE];exact r.length.symm
 refine#["tuple",_,PyProof.Rows.slot_tuple_getitem.lookup,f.typeIs,?_]
 refine HT.getItem_tuple_cut f j P k (by rw[c];exact m) ?_ (by rw[c];exact g)
 rw[c]
 refine#[.ref s.heap.objs.size,_,I.laid (t':=s.toks) (o:=.tup (a8 d lo hi)) (λb O q=>Fx _ q) (Fz _) ?_,Z,q _ (I.hok.fresh (Fz _))]
 exact#[FL (zd d lo hi) g,_,(r.drop (HT.sIx d.length 0 lo)).take (HT.sIx d.length d.length hi - HT.sIx d.length 0 lo),IsTup.new _ _]
def CU(K:Frag):R2:=λx y H Q=>∃a b c Y,x= .ref a/\y= .ref b/\aA K H a c/\aA K H b Y/\c≠[]/\c.length+Y.length<=sizeLine/\
 (Y=[]->Q (.ref a) H)/\(Y≠[]->∀p,H p=none->Q (.ref p) (af H p (.tup (c++Y))))
theorem aw.nil_iff(r:aw x u):u=[]↔x=[]:=by
 cases r with
 |nil=>simp
 |cons _ _=>simp
theorem vO:em X (binaryOp .Add) (CU X.K):=by
 intro p s A H x y v u Q I d f h
 obtain⟨a,b,g,Y,rfl,rfl,j,k,l,c,m,n⟩:=h
 cases d
 cases f
 obtain⟨t,R,P,_⟩:=I.tuple j
 obtain⟨i,r,p2,_⟩:=I.tuple k
 refine HT.cat_tup P p2 (λz=>l (R.nil_iff.mp z)) (λz=>#[.ref a,H,I,Z,m (r.nil_iff.mp z)]) (λz=>?_) (by rw[<- R.length,<- r.length];exact c)
 refine#[.ref s.heap.objs.size,_,I.laid (t':=s.toks) (o:=.tup (g++Y)) (λb O q=>Fx _ q) (Fz _) ?_,Z,n (λw=>z (r.nil_iff.mpr w)) _ (I.hok.fresh (Fz _))]
 exact#[by rw[FD];exact c,_,R.append r,IsTup.new _ _]
end
noncomputable def mj(n:Nat)(i:Int):Option Nat:=if 0<=i then (if i < n then some i.toNat else none) else if -(n:Int)<=i then some (i+n).toNat else none
noncomputable def dF{a:Type}(x:List a)(i:Int):Option a:=(mj x.length i).bind λj=>x[j]?
theorem YR(h:mj n i=some j):seqIndex? i n=some j/\j < n/\ -(n:Int)<=i/\i < n:=by
 unfold mj at h
 by_cases a:0<=i
 ·rw[FQ a]at h
  by_cases H:i < n
  ·rw[FQ H]at h
   have e:i.toNat=j:=GK h
   exact#[by rw[seqIndex_of a H,e],MP,MP,H]
  ·rw[FV H]at h;cases h
 ·rw[FV a]at h
  by_cases H: -(n:Int)<=i
  ·rw[FQ H]at h
   have e:(i+n).toNat=j:=GK h
   exact#[by rw[seqIndex_neg MP H,e],MP,H,MP]
  ·rw[FV H]at h;cases h
theorem QN{a:Type}{x:List a}{v:a}(h:dF x i=some v):∃j,seqIndex? i x.length=some j/\x[j]?=some v/\j < x.length/\ -(x.length:Int)<=i/\i < x.length:=by
 unfold dF at h
 cases e:mj x.length i with
 |none=>rw[e]at h;cases h
 |some j=>
  rw[e]at h
  obtain⟨H,b,c,d⟩:=YR e
  exact#[j,H,h,b,c,d]
theorem jN{a:Type}{x:List a}{j:Nat}{v:a}(h:x[j]?=some v):dF x (j:Int)=some v:=by
 have H:j < x.length:=(List.getElem?_eq_some_iff.mp h).1
 have e:mj x.length (j:Int)=some j:=by
  unfold mj
  rw[FQ MP,FQ MP];simp
 unfold dF;rw[e];exact h
def uC(b:Expr):Prop:=∀o i,subscripted b false o i=operate [o,i] (getItem o i)
def Dy(X:Cx)(r:R2):Prop:=
 ∀(a S:Expr) (p:List (Addr×Obj)) (s:Shared) (b:St) (H:Hp) (x y:V) (v u:Value) (Q:VK),ap X p b H s->ax x v->ax y u->r x y H Q->
  subscripted S false v u=operate [v,u] (getItem v u)->wpAny (model X.prog X.w) X.A (subscriptTail a S v u) (EP X p b Q) X.xe s
def DT(X:Cx)(id:String)(r:V->List V->Hp->VK->Prop):Prop:=
 ∀(p:List (Addr×Obj)) (s:Shared) (a:St) (H:Hp) (x:V) (b:List V) (v:Value) (u:List Value) (Q:VK),ap X p a H s->ax x v->aw b u->r x b H Q->
  wpAny (model X.prog X.w) X.A (call (.builtin id) (v::u)) (EP X p a Q) X.xe s
section
variable {X:Cx}{a b:Expr}{ta tb:TE}{pos:Pos}
theorem jv{r:R2}(c:Dy X r)(d:PE X a ta)(e:PE X b tb)(f:uC b):PE X (.Subscript a b pos) (dJ r ta tb):=by
 intro p s g H Q I h
 exact Subscript_ (yp d e I h λv u S x y i j R k q=>c a b p S g i x y v u Q j R k q (f _ _))
def iN(K:Frag):R2:=λx y H Q=>∃p c i v,x= .ref p/\y= .int i/\aP K H p c/\dF c i=some v/\Q v H
def gr(K:Frag):R2:=λx y H Q=>∃p c i v,x= .ref p/\y= .int i/\aA K H p c/\dF c i=some v/\Q v H
def AQ:R2:=λx y H Q=>∃z i c,x= .str z/\y= .int i/\z.length<=sizeLine/\dF z.cps.toList i=some c/\Q (.str #[(List.toArray [c])]) H
theorem jr:Dy X (iN X.K):=by
 intro V S P s k H x y v u Q I n o h l
 obtain⟨p,L,i,z,rfl,rfl,A,B,q⟩:=h
 cases n
 obtain⟨t,rfl⟩:=o
 obtain⟨d,r,e,M⟩:=I.list A
 obtain⟨j,c,C,N,D,F⟩:=QN B
 obtain⟨w,E,R⟩:=r.get C
 have G:=r.length
 have O:=dS
 have f:EP X P k Q w s:=#[z,H,I,R,q]
 by_cases m:0<=i
 ·have g:i.toNat=j:=by
   rw[seqIndex_of m F]at c
   exact GK c
  exact item_listR e.isList m MP (by rw[g];simpa using E) f l
 ·have g:(i+(d.toArray.size:Int)).toNat=j:=by
   rw[seqIndex_neg MP D]at c
   rw[FE,<- G]
   exact GK c
  exact subscriptTail_builtinR (x:=w) e.isList.typeIs slot_list_getitem.lookup
   (wpAny_getItem_list_neg (Q:=λr J=>r=w/\EP X P k Q r J) e.isList MP (by rw[FE]<;>omega) MP (by rw[g];simpa using E) #[Z,f]) l
theorem j5:Dy X (gr X.K):=by
 intro V S P s c H x y v u Q I e g h k
 obtain⟨p,D,i,z,rfl,rfl,l,m,q⟩:=h
 cases e
 obtain⟨t,rfl⟩:=g
 obtain⟨n,r,d,F⟩:=I.tuple l
 obtain⟨j,o,A,G,J,L⟩:=QN m
 obtain⟨w,E,R⟩:=r.get A
 have B:=r.length
 have M:=dS
 have f:EP X P c Q w s:=#[z,H,I,R,q]
 exact subscriptTail_builtinR (x:=w) d.typeIs slot_tuple_getitem.lookup
  (getItem_tuple (j:=j) (Q:=λr C=>r=w/\EP X P c Q r C) d MP MP (by rw[FE,<- B];exact o) (by simpa using E) #[Z,f]) k
theorem Kd:Dy X AQ:=by
 intro V S p s o H x y v u Q I r R h e
 obtain⟨z,i,c,rfl,rfl,w,f,q⟩:=h
 obtain⟨t,rfl⟩:=r
 obtain⟨T,rfl⟩:=R
 obtain⟨j,d,g,A,k,l⟩:=QN f
 have m:z.cps.toList.length=z.length:=by simp [Str.length]
 rw[m]at d k l
 have B:=dS
 exact tail_any (typeIs_str s z t) slot_str_getitem.lookup (getItem_str (c:=c) (by
  have E:decide (i < -(2 ^ 63:Int))=false:=FY MP
  have n:decide (i≥2 ^ 63)=false:=FY MP
  rw[E,n,MG]) (by rw[d];simpa using g) #[.str #[(List.toArray [c])],H,I.tok _,#[_,Z],q]) e
theorem X9(i:List Value)(n j:Nat)(u:Value):Obj.mapSeq (·.setIfInBounds j u) { cls:=.type "list",data:=.seq i.toArray n }={ cls:=.type "list",data:=.seq (i.set j u).toArray n }:=by
 simp [Obj.mapSeq]
theorem ap.lst(I:ap X c d H s)(h:H p=some (.lst x)):
  ∃(i:List Value) (n:Nat),aw x i/\s.heap.get? p=some { cls:=.type "list",data:=.seq i.toArray n }/\x.length<=sizeLine:=by
 obtain⟨z,i,n,r,e⟩:=I.hok p _ h
 exact#[i,n,r,e,z]
theorem ap.lstUpd{c i:List Value}{f:Obj->Obj}(I:ap X d j H s)(h:H p=some (.lst o))
  (k:s.heap.get? p=some { cls:=.type "list",data:=.seq c.toArray n }) (g:f { cls:=.type "list",data:=.seq c.toArray n }={ cls:=.type "list",data:=.seq i.toArray N }) (r:aw y i) (l:y.length<=sizeLine) (t:Nat):
  ap X d j (af H p (.lst y)) { s with heap:=s.heap.update p f,toks:=t }:=by
 have e:(s.heap.update p f).get? p=some { cls:=.type "list",data:=.seq i.toArray N }:=by
  rw[Heap.get?_update_self f k (by rw[g]<;>rfl),g]
 refine I.write (x:=p) (e:=p) (by rw[h];trivial) (.inl Z) (λb u m q=>(Heap.get?_update_other _ _ (Ne.symm m)).trans q) #[_,e] ?_
 exact#[l,i,N,r,e]
def rJ:V->V->V->Hp->(Hp->Prop)->Prop:=λo i v H Q=>∃p x k j,o= .ref p/\i= .int k/\H p=some (.lst x)/\mj x.length k=some j/\Q (af H p (.lst (x.set j v)))
theorem zr:BO X rJ:=by
 intro P s z H o i v O F u Q I R A B h
 obtain⟨p,C,k,j,rfl,rfl,l,D,q⟩:=h
 cases R
 obtain⟨t,rfl⟩:=A
 obtain⟨c,n,r,e,E⟩:=I.lst l
 obtain⟨d,G,m,w⟩:=YR D
 have f:=r.length
 have J:=dS
 have x:ap X P z (af H p (.lst (C.set j v))) { s with heap:=s.heap.update p (Obj.mapSeq (·.setIfInBounds j u)) }:=
  I.lstUpd l e (X9 c n j u) (r.set B j) (by rw[Ly];exact E) s.toks
 by_cases y:0<=k
 ·have g:k.toNat=j:=by
   rw[seqIndex_of y w]at d
   exact GK d
  exact PySem.W.ki_setAt e y MP (by rw[FE,<- f];exact w) (by rw[g];exact#[_,x,q])
 ·have g:(k+(c.toArray.size:Int)).toNat=j:=by
   rw[seqIndex_neg MP m]at d
   rw[FE,<- f]
   exact GK d
  exact PySem.W.ki_setBack e MP (by rw[FE,<- f];exact m) MP (by rw[g];exact#[_,x,q])
theorem QW(lo H:Option Int)(n:Nat):(sliceBounds lo H none n).1=((HT.sIx n 0 lo:Nat):Int)/\(sliceBounds lo H none n).2.1=((HT.sIx n n H:Nat):Int)/\(sliceBounds lo H none n).2.2=1:=by
 refine#[?_,?_,Z]
 ·cases lo with
  |none=>simp [sliceBounds,HT.sIx]
  |some i=>
   simp only[sliceBounds,HT.sIx,Mj,show(1:Int) > 0 by decide,IL]
   by_cases h:i < 0
   ·simp only[h,IL]<;>omega
   ·simp only[h,Hg]<;>omega
 ·cases H with
  |none=>simp [sliceBounds,HT.sIx]
  |some i=>
   simp only[sliceBounds,HT.sIx,Mj,show(1:Int) > 0 by decide,IL]
   by_cases h:i < 0
   ·simp only[h,IL]<;>omega
   ·simp only[h,Hg]<;>omega
theorem KQ(i:List Value)(lo h:Option Int):slicePick i.toArray lo h none=((i.drop (HT.sIx i.length 0 lo)).take (HT.sIx i.length i.length h - HT.sIx i.length 0 lo)).toArray:=by
 obtain⟨H,c,d⟩:=QW lo h i.toArray.size
 unfold slicePick
 rw[H,c,d]
 simp only[sliceRange_one,pick_run,FE]<;>rfl
def AR(K:Frag):V->Option Int->Option Int->Hp->VK->Prop:=λx lo h H Q=>∃a c,x= .ref a/\aP K H a c/\∀p,H p=none->Q (.ref p) (af H p (.lst (a8 c lo h)))
theorem kB:DB X (AR X.K):=by
 intro p s m H x v V n lo e S Q I R g P i h
 obtain⟨a,c,rfl,j,q⟩:=h
 cases R
 obtain⟨k,r,f,l⟩:=I.list j
 have d:=r.length
 refine#["list",_,slot_list_getitem.lookup,f.isList.typeIs,?_]
 refine wpAny_getItem_list_slice f.isList g P i .none MQ ?_ (by rw[FE]<;>omega)
 rw[KQ,<- d]
 refine#[.ref s.heap.objs.size,_,I.laid (t':=s.toks) (o:=.lst (a8 c lo e)) (λb O q=>Fx _ q) (Fz _) ?_,Z,q _ (I.hok.fresh (Fz _))]
 exact#[FL (zd c lo e) l,_,0,(r.drop (HT.sIx c.length 0 lo)).take (HT.sIx c.length c.length e - HT.sIx c.length 0 lo),FG _ Z]
noncomputable def cV:V->Bool
 | .non=>true
 | .bl _=>true
 | .int _=>true
 | .str _=>true
 |_=>false
noncomputable def lU:V->V->Bool
 | .non,.non=>true
 | .bl a,.bl b=>a==b
 | .bl a,.int b=>(if a then 1 else 0)==b
 | .int a,.bl b=>a==(if b then 1 else 0)
 | .int a,.int b=>a==b
 | .str a,.str b=>a==b
 |_,_=>false
theorem oX(R:ax y u)(r:ax x v)(F:cV y=true)(f:cV x=true):SeqAt.EqAt A s u v (lU y x):=by
 cases y with
 |non=>
  cases R
  cases x with
  |non=>cases r;exact SeqAt.EqAt.same _
  |bl b=>cases r;exact SeqAt.EqAt.none_bool b
  |int b=>obtain⟨t,rfl⟩:=r;exact SeqAt.EqAt.none_int b t
  |str b=>obtain⟨t,rfl⟩:=r;exact SeqAt.EqAt.none_str b t
  |_=>exact absurd (show false=true from f) FH
 |bl a=>
  cases R
  cases x with
  |non=>cases r;exact SeqAt.EqAt.bool_none a
  |bl b=>cases r;exact SeqAt.EqAt.bool_bool a b
  |int b=>obtain⟨t,rfl⟩:=r;exact SeqAt.EqAt.bool_int a b t
  |str b=>obtain⟨t,rfl⟩:=r;exact SeqAt.EqAt.bool_str a b t
  |_=>exact absurd (show false=true from f) FH
 |int a=>
  obtain⟨T,rfl⟩:=R
  cases x with
  |non=>cases r;exact SeqAt.EqAt.int_none a T
  |bl b=>cases r;exact SeqAt.EqAt.int_bool a T b
  |int b=>obtain⟨t,rfl⟩:=r;exact SeqAt.EqAt.int_int a T b t
  |str b=>obtain⟨t,rfl⟩:=r;exact SeqAt.EqAt.int_str a T b t
  |_=>exact absurd (show false=true from f) FH
 |str a=>
  obtain⟨T,rfl⟩:=R
  cases x with
  |non=>cases r;exact SeqAt.EqAt.str_none a T
  |bl b=>cases r;exact SeqAt.EqAt.str_bool a T b
  |int b=>obtain⟨t,rfl⟩:=r;exact SeqAt.EqAt.str_int a T b t
  |str b=>obtain⟨t,rfl⟩:=r;exact SeqAt.EqAt.str_str a T b t
  |_=>exact absurd (show false=true from f) FH
 |_=>exact absurd (show false=true from F) FH
noncomputable def mh(x:V)(u:Value):Bool:=match u with
 | .none=>lU .non x
 | .bool b=>lU (.bl b) x
 | .int i _=>lU (.int i) x
 | .str z _=>lU (.str z) x
 |_=>false
theorem oZ(r:ax y u)(f:cV y=true):mh x u=lU y x:=by
 cases y with
 |non=>cases r;rfl
 |bl b=>cases r;rfl
 |int i=>obtain⟨t,rfl⟩:=r;rfl
 |str z=>obtain⟨t,rfl⟩:=r;rfl
 |_=>exact absurd (show false=true from f) FH
theorem qS:∀{c:List V} {U:List Value},aw c U->c.all cV=true->U.any (mh x)=c.any λy=>lU y x
 |_,_,.nil,_=>rfl
 |y::c,u::U,.cons r t,f=>by
  rw[MF,GL]at f
  rw[Lg,Lg,oZ r f.1,qS t f.2]
theorem ql(R:ax x v)(F:cV x=true):∀{c:List V} {U:List Value},aw c U->c.all cV=true->∀u∈U,SeqAt.EqAt A s u v (mh x u)
 |_,_,.nil,_=>λu hu=>by cases hu
 |y::c,u::U,.cons r t,f=>λd hu=>by
  rw[MF,GL]at f
  rcases List.mem_cons.mp hu with rfl |hu
  ·rw[oZ r f.1];exact oX r R f.1 F
  ·exact ql R F t f.2 d hu
noncomputable def nq(x:V)(c:List V):Bool:=c.any λy=>lU y x
def DK(K:Frag)(n:Bool):R2:=λx y H Q=>∃p c,y= .ref p/\(aP K H p c∨aA K H p c)/\cV x=true/\c.all cV=true/\Q (.bl (if n then !nq x c else nq x c)) H
theorem zk:em X (compareOp .In) (DK X.K false):=by
 intro d s j H x y v u Q I R e h
 obtain⟨p,k,rfl,hq,F,f,q⟩:=h
 cases e
 rcases hq with hq |hq
 ·obtain⟨i,r,P,g⟩:=I.list hq
  refine SeqAt.in_listAt (mh x) P.isList (λw c=>ql R F r f w (by simpa using c)) #[.bl _,H,I,Z,?_]
  rw[show i.toArray.any (mh x)=i.any (mh x) by simp,qS r f]
  exact q
 ·obtain⟨i,r,P,g⟩:=I.tuple hq
  refine SeqAt.in_tupleAt (mh x) P (λw c=>ql R F r f w (by simpa using c)) #[.bl _,H,I,Z,?_]
  rw[show i.toArray.any (mh x)=i.any (mh x) by simp,qS r f]
  exact q
theorem Jb:em X (compareOp .NotIn) (DK X.K true):=by
 intro d s j H x y v u Q I R e h
 obtain⟨p,k,rfl,hq,F,f,q⟩:=h
 cases e
 rcases hq with hq |hq
 ·obtain⟨i,r,P,g⟩:=I.list hq
  refine SeqAt.notIn_listAt (mh x) P.isList (λw c=>ql R F r f w (by simpa using c)) #[.bl _,H,I,Z,?_]
  rw[show i.toArray.any (mh x)=i.any (mh x) by simp,qS r f]
  exact q
 ·obtain⟨i,r,P,g⟩:=I.tuple hq
  refine SeqAt.notIn_tupleAt (mh x) P (λw c=>ql R F r f w (by simpa using c)) #[.bl _,H,I,Z,?_]
  rw[show i.toArray.any (mh x)=i.any (mh x) by simp,qS r f]
  exact q
theorem jK:eG X (.builtin "len") (λx H Q=>∃p y,x=[.ref p]/\(aP X.K H p y∨aA X.K H p y)/\Q (.int y.length) H):=by
 intro d s g H x U Q I r h
 obtain⟨p,y,rfl,hq,q⟩:=h
 obtain⟨u,rfl,e⟩:=eN r
 cases e
 have j:=dS
 rcases hq with hq |hq
 ·obtain⟨i,R,P,f⟩:=I.list hq
  have c:=R.length
  exact Calls.call_len_list P.isList (by simp only[FE]<;>omega) #[.int y.length,H,I.tok _,#[s.toks+1,by rw[FE,c]],q]
 ·obtain⟨i,R,P,f⟩:=I.tuple hq
  have c:=R.length
  exact len_tuple P (by simp only[FE]<;>omega) #[.int y.length,H,I.tok _,#[s.toks+1,by rw[FE,c]],q]
theorem Jc:eG X (.type "list") (λx H Q=>∃p y,x=[.ref p]/\(aP X.K H p y∨aA X.K H p y)/\∀l,H l=none->Q (.ref l) (af H l (.lst y))):=by
 intro P s z H x U Q I r h
 obtain⟨p,y,rfl,hq,q⟩:=h
 obtain⟨u,rfl,A⟩:=eN r
 cases A
 have f:∀(i:List Value),aw y i->y.length<=sizeLine->∀(c:Heap) (C:Nat),(∀b O,s.heap.get? b=some O->c.get? b=some O)->
   c.get? s.heap.objs.size=some { cls:=.type "list",dict:=none,data:=.seq i.toArray C,slots:=(List.toArray []) }->EP X P z Q (.ref s.heap.objs.size) { s with heap:=c }:=λi R d c C k e=>
  #[.ref s.heap.objs.size,_,I.laid (t':=s.toks) k (Fz _) (show aX X.prog X.w _ c _ (.lst y) from #[d,i,C,R,e]),Z,q _ (I.hok.fresh (Fz _))]
 rcases hq with hq |hq
 ·obtain⟨i,R,j,d⟩:=I.list hq
  have g:=R.length
  obtain⟨o,m,t,n,v⟩:=j.isList
  exact call_list_seq p (.inl Z) m t v (λc C k e=>f i R d c C k e) (by simp only[FE]<;>omega)
 ·obtain⟨i,R,j,d⟩:=I.tuple hq
  have g:=R.length
  obtain⟨o,m,t,n,v⟩:=j
  exact call_list_seq p (.inr Z) m t v (λc C k e=>f i R d c C k e) (by simp only[FE]<;>omega)
theorem jH:eG X (.type "tuple") (λx H Q=>∃p y,x=[.ref p]/\((aP X.K H p y/\∀l,H l=none->Q (.ref l) (af H l (.tup y)))∨(aA X.K H p y/\Q (.ref p) H))):=by
 intro P s g H x U Q I r h
 obtain⟨p,y,rfl,h⟩:=h
 obtain⟨u,rfl,n⟩:=eN r
 cases n
 rcases h with ⟨d,q⟩ | ⟨d,q⟩
 ·obtain⟨i,R,f,j⟩:=I.list d
  have k:=R.length
  refine call_tuple_list f.isList (λc t=>?_) (by simp only[FE]<;>omega)
  have m:ap X P g H { s with heap:=c }:=I.kept (t':=s.toks) t
  have v:ap X P g (af H c.objs.size (.tup y)) { s with heap:=c.push { cls:=.type "tuple",data:=.seq i.toArray } }:=
   m.laid (t':=s.toks) (λb o e=>Fx _ e) (Fz _) (show aX X.prog X.w _ _ _ (.tup y) from #[j,i,R,IsTup.new _ _])
  exact#[.ref c.objs.size,_,v,Z,q _ (m.hok.fresh (Fz _))]
 ·obtain⟨i,R,f,j⟩:=I.tuple d
  exact call_tuple_same f #[.ref p,H,I,Z,q]
def EC(K:Frag)(T:String)(x:V)(H:Hp):Prop:=match x with
 | .str _=>T="str"
 | .int _=>T="int"
 | .ref p=>(T="list"/\∃c,aP K H p c)∨(T="tuple"/\∃o,K.lookup p=some o/\o.cls= .type "tuple"/\o.dict=none)∨
   (T="dict"/\((∃k,H p=some (.dK k))∨∃k,H p=some (.dT k)))∨(T="set"/\∃S n,H p=some (.set S n))
 |_=>False
theorem tP(I:ap X j u H s)(r:ax x v)(d:EC X.K T x H):
  s.TypeIs v T/\∀a,v= .ref a->∃O,s.heap.get? a=some O/\O.dict=none:=by
 cases x with
 |str z=>
  obtain⟨t,rfl⟩:=r
  cases (show T="str" from d)
  exact#[typeIs_str s z t,λ_ e=>nomatch e]
 |int i=>
  obtain⟨t,rfl⟩:=r
  cases (show T="int" from d)
  exact#[typeIs_int s i t,λ_ e=>nomatch e]
 |ref p=>
  cases r
  rcases d with ⟨rfl,w,l⟩ | ⟨rfl,o,h,m,f⟩ | ⟨rfl,h⟩ | ⟨rfl,S,n,h⟩
  ·obtain⟨q,_,P,_⟩:=I.list l
   refine#[P.isList.typeIs,λa e=>?_]
   cases e
   obtain⟨o,n,e,c,f,_⟩:=P
   exact#[o,e,f]
  ·refine#[#[o,I.kIn p o h,m],λa e=>?_]
   cases e
   exact#[o,I.kIn _ o h,f]
  ·have z:∃o,s.heap.get? p=some o/\o.ExactDict:=by
    rcases h with ⟨k,h⟩ | ⟨k,h⟩
    ·obtain⟨_,_,_,_,o,_,_,e,E,_⟩:=I.hok p _ h
     exact#[o,e,E]
    ·obtain⟨_,_,_,_,o,_,_,e,E,_⟩:=I.hok p _ h
     exact#[o,e,E]
   obtain⟨o,e,E⟩:=z
   refine#[#[o,e,E.1],λa g=>?_]
   cases g
   exact#[o,e,E.2.1]
  ·obtain⟨o,_,_,_,e,E,_⟩:=I.hok p _ h
   refine#[#[o,e,E.1],λa g=>?_]
   cases g
   exact#[o,e,E.2.1]
 |_=>exact False.elim d
def Ew(K:Frag)(T:String)(r:V->List V->Hp->VK->Prop)(t:TE):TE:=λc H Q=>t c H λx h=>EC K T x h/\r x [] h Q
def Eu(K:Frag)(T:String)(r:V->List V->Hp->VK->Prop)(d:TE)(t:TA):TE:=λc H Q=>d c H λx h=>EC K T x h/\t c h λe f=>r x e f Q
variable {o e:Expr}{es:List Expr}{to:TE}{t:TA}{name:Str}{apos cpos:Pos}{T id:String}{r:V->List V->Hp->VK->Prop}
theorem AE(P:PlainAttrs T)(S:Slot T name id)(f:typeOf (.builtin id)=pure (.type "method_descriptor"))(j:DT X id r)(k:PE X o to)
  (c:attributeBase o name X.env (eval o X.env)=eval o X.env:=by rfl) (d:(apos.endLine==cpos.line)=true:=by rfl):PE X (.Call (.Attribute o name apos) [] [] cpos) (Ew X.K T r to):=by
 intro p s g H Q I h
 refine wpAny_Call_method0_late c d (aW (k p s g H _ I h) λv l z=>?_)
 obtain⟨x,m,i,R,n,q⟩:=z
 obtain⟨u,w⟩:=tP i R n
 exact#[T,id,P,S,f,u,w,LP Z (PySem.evalArgs_none (j p l g m x [] v [] Q i R .nil q))]
theorem kN(P:PlainAttrs T)(S:Slot T name id)(i:typeOf (.builtin id)=pure (.type "method_descriptor"))(m:DT X id r)(n:PE X o to)(q:PA X (e::es) t)
  (d:attributeBase o name X.env (eval o X.env)=eval o X.env:=by rfl)
  (g:((backTo cpos (starEach (e::es) X.env)).all (λx=>!x.1)&&(backToKw cpos (keywordEach [] X.env)).all (λx=>x.1.isSome)
   &&decide ((e::es).length+([]:List Keyword).length+(if ([]:List Keyword).isEmpty then 0 else 1) < 30))=true:=by rfl)
  (f:(apos.endLine==cpos.line)=true:=by rfl) (u:starEach (e::es) X.env=(false,eval e X.env)::starEach es X.env:=by rfl) (c:(backTo cpos (starEach es X.env)).any (·.1)=false:=by rfl):
  PE X (.Call (.Attribute o name apos) (e::es) [] cpos) (Eu X.K T r to t):=by
 intro p s j H Q I h
 refine wpAny_Call_method_late d g f Z (aW (n p s j H _ I h) λv w z=>?_)
 obtain⟨x,y,k,R,A,B⟩:=z
 obtain⟨C,D⟩:=tP k R A
 refine#[T,id,P,S,i,C,D,?_]
 have l:=q cpos p w j y _ k B
 rw[u]at l ⊢
 refine LP (by show(false||(backTo cpos (starEach es X.env)).any (·.1))=false;rw[c]<;>rfl) (Calls.evalArgs_plain ?_)
 exact aW l λU E #[F,G,J,L,M]=>m p E j G x F v U Q J R L M
end
def DA(X:Cx)(id:String)(r:V->List V->Hp->VK->Prop):Prop:=
 ∀(p:List (Addr×Obj)) (s:Shared) (a:St) (H:Hp) (x:V) (b:List V) (v:Value) (u:List Value) (Q:VK),ap X p a H s->ax x v->aw b u->r x b H Q->
  wpAny (model X.prog X.w) X.A (call (.builtin id) (v::u)) (EP X p a Q) X.xe s
theorem aw.one:∀{x:V} {U:List Value},aw [x] U->∃u,U=[u]/\ax x u
 |_,_,.cons r .nil=>#[_,Z,r]
theorem aw.zero:∀{u:List Value},aw [] u->u=[]
 |_,.nil=>rfl
theorem aw.dropLast(h:aw x u):aw x.dropLast u.dropLast:=by
 induction h with
 |nil=>exact .nil
 |cons r t i=>
  cases t with
  |nil=>exact .nil
  |cons q T=>exact .cons r i
theorem aw.reverse(h:aw x u):aw x.reverse u.reverse:=by
 induction h with
 |nil=>exact .nil
 |cons r t i=>rw[K',K'];exact aw.append i (.cons r .nil)
theorem Ya{c:Type}(l:List c):l.eraseIdx (l.length - 1)=l.dropLast:=by
 induction l with
 |nil=>rfl
 |cons a r i=>
  cases r with
  |nil=>rfl
  |cons b r=>
   have e:(a::b::r).length - 1=((b::r).length - 1)+1:=by
    have h:(a::b::r).length=r.length+2:=rfl
    have H:(b::r).length=r.length+1:=rfl
    omega
   rw[e,List.eraseIdx_cons_succ,i]
   all_goals rfl
section
variable {X:Cx}{pins:List (Addr×Obj)}{σ:St}{H:Hp}{s:Shared}{l b:Addr}{xs ys zs:List V}
theorem ap.lset{i its':List Value}{f:Array Value->Array Value}{t':Nat}(I:ap X pins σ H s)(h:H l=some (.lst xs))
  (e:s.heap.get? l=some { cls:=.type "list",data:=.seq i.toArray n }) (a:f i.toArray=its'.toArray) (c:aw ys its') (d:ys.length<=sizeLine):
  ap X pins σ (af H l (.lst ys)) { s with heap:=s.heap.update l (Obj.mapSeq f),toks:=t' }:=by
 have q:=PySem.IsL.update e f
 rw[a]at q
 refine I.write (x:=l) (e:=l) (by rw[h];exact Gg) (.inl Z) (λB u g j=>(FP s.heap (Obj.mapSeq f) (Gp g)).trans j) #[_,q] ?_
 exact#[d,its',_,c,q]
theorem ap.lnew{t':Nat}(I:ap X pins σ H s)(h:aw ys i)(a:ys.length<=sizeLine):
  ap X pins σ (af H s.heap.objs.size (.lst ys)) { s with heap:=s.heap.push { cls:=.type "list",data:=.seq i.toArray },toks:=t' }:=
 I.laid (λ_ _ q=>Fx _ q) (Fz _) #[a,i,0,h,FG _ Z]
theorem ap.fresh(I:ap X pins σ H s):H s.heap.objs.size=none:=I.hok.fresh (Fz _)
theorem ap.lstM(I:ap X pins σ H s)(h:H l=some (.lst xs)):xs.length<=sizeLine/\∃(i:List Value) (n:Nat),aw xs i/\xs.length=i.length/\s.heap.get? l=some { cls:=.type "list",data:=.seq i.toArray n }:=by
 obtain⟨z,i,n,r,e⟩:=I.hok l _ h
 exact#[z,i,n,r,r.length,e]
theorem fi(h:n<=sizeLine):Builtin.List.listTooLong n=false:=by
 unfold Builtin.List.listTooLong
 exact FY MP
end
section
variable {X:Cx}
def nB:V->List V->Hp->VK->Prop:=λx v H Q=>∃l a y,x= .ref l/\v=[y]/\H l=some (.lst a)/\a.length < sizeLine/\Q .non (af H l (.lst (a++[y])))
theorem jR:DA X "list.append" nB:=by
 intro p s d H x V v U Q I R b h
 obtain⟨l,f,y,rfl,rfl,a,g,q⟩:=h
 cases R
 obtain⟨u,rfl,c⟩:=b.one
 obtain⟨z,i,n,r,j,e⟩:=I.lstM a
 refine Ml F.slot_list_append #[_,e,Z] F.entry_list_append (F.args_list_append_2 _ _) (PySem.list_append l i.toArray n u (by rw[FE];omega)) #[e,?_]
 refine#[.non,_,I.lset (its':=i++[u]) a e MQ (r.append (.cons c .nil)) ?_,Z,q]
 rw[FD,Ij]
 omega
def wb:V->List V->Hp->VK->Prop:=λx v H Q=>∃l b a z,x= .ref l/\v=[.ref b]/\H l=some (.lst a)/\H b=some (.lst z)/\a.length+z.length<=sizeLine/\Q .non (af H l (.lst (a++z)))
theorem Qk:DA X "list.extend" wb:=by
 intro p s t H x V v U Q I R g h
 obtain⟨l,b,w,y,rfl,rfl,f,j,A,q⟩:=h
 cases R
 obtain⟨u,rfl,k⟩:=g.one
 cases k
 obtain⟨z,a,n,r,B,e⟩:=I.lstM f
 obtain⟨C,i,N,m,o,E⟩:=I.lstM j
 have d:a.toArray.size+i.toArray.size<=sizeLine:=by rw[FE,FE];omega
 have c:¬(!a.toArray.isEmpty&&Builtin.List.listTooLong (a.toArray.size+i.toArray.size))=true:=by
  rw[fi d,LK]
  exact FH
 refine Ml F.slot_list_extend #[_,e,Z] F.entry_list_extend (F.args_list_extend_2 _ _)
  (AutoSeq1.list_extend_list_list_0 l a.toArray n b i.toArray N c (by rw[FE];omega) MP) #[e,E,?_]
 refine#[.non,_,I.lset (its':=a++i) f e MQ (r.append m) ?_,Z,q]
 rw[FD]
 omega
def Ei:V->List V->Hp->VK->Prop:=λx v H Q=>∃l a y,x= .ref l/\v=[]/\H l=some (.lst a)/\a[a.length - 1]?=some y/\Q y (af H l (.lst a.dropLast))
theorem yU:DA X "list.pop" Ei:=by
 intro p s m H x V v U Q I R d h
 obtain⟨l,o,y,rfl,rfl,c,f,q⟩:=h
 cases R
 have a:=d.zero
 subst a
 obtain⟨z,i,n,r,g,e⟩:=I.lstM c
 obtain⟨u,j,k⟩:=r.get f
 have b:i.toArray[i.toArray.size - 1]?=some u:=by
  show i.toArray[i.length - 1]?=some u
  rw[<- HP,<- g]
  exact j
 refine Ml F.slot_list_pop #[_,e,Z] F.entry_list_pop (F.args_list_pop_1 _) (MeetsSeq.list_pop_last l i.toArray n u b (by rw[FE];omega)) #[e,?_]
 refine#[y,_,I.lset (its':=i.dropLast) c e ?_ r.dropLast ?_,k,q]
 ·show i.toArray.eraseIdxIfInBounds (i.toArray.size - 1)=i.dropLast.toArray
  rw[FE,List.eraseIdxIfInBounds_toArray,Ya]
 ·rw[List.length_dropLast]
  omega
def AO:R2:=λx y H Q=>∃l b a z,x= .ref l/\y= .ref b/\H l=some (.lst a)/\H b=some (.lst z)/\a.length+z.length<=sizeLine/\∀p,H p=none->Q (.ref p) (af H p (.lst (a++z)))
theorem qi:em X (binaryOp .Add) AO:=by
 intro p s m H x y v u Q I R c h
 obtain⟨l,b,o,t,rfl,rfl,d,f,w,q⟩:=h
 cases R
 cases c
 obtain⟨z,a,n,r,A,e⟩:=I.lstM d
 obtain⟨B,i,N,g,j,E⟩:=I.lstM f
 refine PySem.P.add_list e E ?_ (by rw[FE,FE];omega)
 have k:a.toArray++i.toArray=(a++i).toArray:=by simp
 rw[k]
 exact#[.ref _,_,I.lnew (t':=s.toks) (r.append g) (by rw[FD];omega),Z,q _ I.fresh]
end
section
variable {prog:Program}{w:World}{A:Around}{E:Value->Shared->Prop}{s:Shared}
theorem Zx(i I : List Value)(a c : Nat) : i.toArray.extract 0 a ++ I.toArray ++ i.toArray.extract c i.toArray.size = (i.take a ++ I ++ i.drop c).toArray := by
  apply Array.toList_inj.mp
  first
    | (simp
       exact Hw MQ)
    | simp [Hw]
    | simp
theorem Yb{a c n:Nat}(hac:a<=c)(hc:c<=n):sliceBounds (some (a:Int)) (some (c:Int)) none n=((a:Int),(c:Int),1):=by
 simp only[sliceBounds,Mj]
 have h1:¬((a:Int) < 0):=by omega
 have h2:¬((c:Int) < 0):=by omega
 simp only[h1,h2,Hg,show(1:Int) > 0 by decide,IL]
 congr 1
 ·omega
 ·congr 1;omega
set_option maxRecDepth 100000 in
theorem KR{a c : Nat}{Q : Unit -> Shared -> Prop}
    (e : s.heap.get? l = some { cls := .type "list", data := .seq i n }) (y : s.heap.get? b = some { cls := .type "list", data := .seq N I }) (q : l ≠ b)
    (C : s.heap.IsSliceOf p z B .none) (P : IsPart z (some (a : Int))) (D : IsPart B (some (c : Int))) (r : a <= c) (F : c <= i.size)
    (f : i.size + N.size <= sizeLine) (h : Q () { s with heap := s.heap.update l (Obj.mapSeq λX => X.extract 0 a ++ N ++ X.extract c X.size) }) :
    wpAny (model prog w) A (setItem (.ref l) (.ref p) (.ref b)) Q E s := by
  have t : s.heap.IsList l i := PySem.IsL.isList e
  have G : s.heap.IsList b N := PySem.IsL.isList y
  obtain ⟨os, d, u, g⟩ := id C
  have k : s.TypeIs (.ref p) "slice" := #[os, d, u]
  have j : ¬ ((rawPart none == rawInt 0) = true) := FH
  have H : Builtin.List.listSameRef (.ref l) (.ref b) = false := by
    unfold Builtin.List.listSameRef
    exact beq_eq_false_iff_ne.mpr q
  have o : (max (a : Int) (c : Int)).toNat = c := by omega
  have v : ((λX : Array Value => X.extract 0 a ++ N ++ X.extract c X.size) i).size <= sizeLine + 1 := by
    simp only [Mf, Array.size_extract]
    omega
  unfold setItem
  try with_reducible refine Gc ?_
  first | refine Ft (Fv ?_) | skip
  refine Ft (Ms t.typeIs MO ?_)
  refine Ft (Gr (name := Str.ofString "__setitem__") t.typeIs slot_list_setitem
    (Gw slot_list_setitem t.typeIs entry_list_setitem ?_ (args_list_setitem _ _ _)))
  show wpAny _ _ (Builtin.List.listSubscript? (.ref p) >>= _) _ _ s
  refine Ft ?_
  unfold Builtin.List.listSubscript?
  refine Ft (Hz k slice_no_index ?_)
  simp only [Option.isNone_none, IL]
  refine Fv ?_
  show wpAny _ _ (typeOf (.ref p) >>= _) _ _ s
  refine Ft (HQ k ?_)
  first
    | rw [FV MO]
    | refine LU MO ?_
  rw [listSliceParts_eq]
  refine Ft (Ft (Gb d g (x := .none) Z (Ft (wpAny_listPart .none ?_))))
  rw [FV j]
  refine Ft (Gb d g (x := z) Z (Ft (wpAny_listPart P ?_)))
  refine Ft (Gb d g (x := B) Z (Ft (wpAny_listPart D (Fv ?_))))
  first
    | simp only [H, FK, Hg]
    | refine LU H ?_
    | (dsimp only
       rw [FV (by rw [H]; exact FH)])
  refine Ft (m := Builtin.List.listAllItems (.ref b) "must assign iterable to extended slice") ?_
  unfold Builtin.List.listAllItems
  refine Ft (HQ G.typeIs ?_)
  first
    | refine PySem.W.KFB.if_so MO ?_
    | rw [FQ MO]
    | simp only [HK, Bool.true_or, IL]
  unfold Builtin.List.listItems
  refine Ft (GS y Z (Fv ?_))
  refine Ft (Ft (GS e Z (Fv ?_)))
  refine Ft (Ls ((sliceIndices_raw (some (a : Int)) (some (c : Int)) none i.size MQ).trans (Hf (pure : Int × Int × Int -> Sem (Int × Int × Int)) (Yb r F))) ?_)
  show wpAny _ _ (if ((1 : Int) == 1) = true then _ else _) _ _ s
  rw [FQ MO]
  refine Ft (HU ?_)
  first
    | simp only [fi f, FK, Hg]
    | refine LU (fi f) ?_
  first | refine Ft (Fv ?_) | skip
  show wpAny _ _ (updateSeq l (λX => X.extract 0 ((a : Int)).toNat ++ N ++ X.extract (max (a : Int) (c : Int)).toNat X.size) >>= _) _ _ s
  rw [o, GQ]
  refine Ft (LQ (hz := FL (Iw _ _) f) (_hz' := v) e Z ?_)
  refine Ft (wpAny_letGo ?_)
  first
    | exact Ft (Fv (Fv #[.none, Z, Fv h]))
    | exact Fv #[.none, Z, Fv h]
end
section
variable {X:Cx}
theorem Zy{Q:Unit->Shared->Prop}(I:ap X p o H s)
  (k:H l=some (.lst x)) (q:H b=some (.lst y)) (f:l≠b) (t:s.heap.IsSliceOf u v B .none) (R:ax (.int a) v) (D:ax (.int c) B) (m:0<=a) (g:a<=c) (J:c<=x.length)
  (K:x.length+y.length<=sizeLine) (h:∀S,ap X p o (af H l (.lst (x.take a.toNat++y++x.drop c.toNat))) S->Q () S):
  wpAny (model X.prog X.w) X.A (setItem (.ref l) (.ref u) (.ref b)) Q X.xe s:=by
 obtain⟨T,rfl⟩:=R
 obtain⟨L,rfl⟩:=D
 obtain⟨z,d,n,r,M,e⟩:=I.lstM k
 obtain⟨N,i,O,E,F,G⟩:=I.lstM q
 obtain⟨j,rfl⟩:=MN m
 obtain⟨C,rfl⟩:=MN (Int.le_trans m g)
 simp only[GQ]at h
 refine KR (a:=j) (c:=C) e G f t (.int _ _) (.int _ _) MP (by rw[FE];omega) (by rw[FE,FE];omega) (h _ ?_)
 refine I.lset (its':=d.take j++i++d.drop C) (t':=s.toks) k e ?_ (aw.append (aw.append (r.take _) E) (r.drop _)) ?_
 ·exact Zx d i j C
 ·rw[FD,FD,Gf,HL]
  omega
end
end L2
namespace Att
open PySem PySem.W PySem.Calls PyProof.Rows
theorem JL{P:Params}:∀(N:List Int) (v:List Value),WellAll P h v (N.map WData.int)->IntsAre v N:=by
 intro N
 induction N with
 |nil=>
  intro v w
  rw[List.map_nil]at w
  cases w
  exact .nil
 |cons n N i=>
  intro v w
  rw[Hr]at w
  cases w with
  |cons a b=>
   cases a
   exact .cons _ _ (i _ b)
theorem Zz{l:OpenLaw}(k:l.most=some n){P:Params}
  (H:l.row.toRowW.claim.pre args=true) (g:WellAll P h v args):
  ∃a V N,v=[Value.ref a]/\args=[WData.list (N.map WData.int)]/\h.get? a=some { cls:=.type "list",data:=.seq V.toArray }/\IntsAre V N/\N.length<=n:=by
 have i:WShape.hasAll [] args [.list .int]=true:=(pre_splitW H).1
 have j:l.pre.holds [] { args:=args }=true:=(pre_splitW H).2
 obtain⟨d,r,rfl,m,o⟩:=hasAllW_cons i
 obtain rfl:=hasAllW_nil o
 obtain⟨x,rfl,p⟩:=hasW_list m
 obtain⟨N,rfl⟩:=items_int p
 have b:N.length<=n:=by
  unfold OpenLaw.pre at j
  have e:(WTm.not (.lt (.lit (.int (n:Int))) (.len (.arg 0)))).holds [] { args:=[.list (N.map .int)] }=true:=by
   have e:=(holds_andW j).1
   rw[k]at e
   exact e
  have f:=condW_of e (w_not (w_lt w_lit (w_len_list (w_arg Z))))
  rw[Fy]at f
  refine Li λq=>?_
  have Q:(n:Int) < ((N.length:Nat):Int):=by omega
  first
   | (rw[Gn Q]at f;exact absurd f MO)
   | (simp at f;omega)
 cases g with
 |cons w W=>
  cases W
  cases w with
  |list s c=>exact#[_,_,N,Z,Z,s,JL N _ c,b]
theorem ZA(l:OpenLaw)(args:List WData):l.row.toRowW.claim.post args (.bool true) args=true:=
 postW_of (r:=l.row.toRowW) (X:=(true==true))
  (show WShape.has [] (.bool true) .bool=true by first |rfl |decide |simp [WShape.has,WShape.arms,WShape.armsAll])
  (show(WTm.eq .res (.lit (.bool true))).value [] { args:=args,res:=some (.bool true),after:=args }=some (.bool (true==true)) from w_eq_bool (w_res Z) w_lit) Z
theorem attach_call{l:OpenLaw}{y:World->Heap->Prop}{d:DefRec}
  (x:l.most=some n) (g:d.params.defaults=[])
  (call:∀(w:World) (S s:Shared) (m M:Str->Option Value) (F:Addr) (o:Obj) (p C D:Value) (a:Addr) (v:List Value) (N:List Int),
   Ground q L [] z w S m M s.heap->y w s.heap->
   s.heap.get? F=some o->o.data= .func (docDef d.name d.params d.body d.scope p C D)->s.heap.CodeRec C d.name->m d.name=some (.ref F)->
   s.heap.get? a=some { cls:=.type "list",data:=.seq v.toArray }->IntsAre v N->N.length<=n->s.gens=(List.toArray [])->
   codeAny (model l.prog w) callerA (.call (.ref F) #[[.ref a],[]]) (λr e=>r= .ok (.ret (.bool true))/\OldK s.heap e.heap/\e.os=s.os/\AllBare e.gens) s):
  WalkO q L z y l.row.toRowW d [] (λf v=>PySem.call f v):=by
 intro w S s m M G Y F o p C D B kV E I i t j J A V W H u K k O
 obtain rfl:B= .none:=Dflts.none t g
 obtain rfl:kV= .none:=Dflts.noKw t
 obtain⟨a,v,N,rfl,rfl,b,h,c⟩:=Zz x H k
 refine enter_call (Im (call w S s m M F o p C D a v N G Y E (fd_plain I) i j b h c J) λr e P=>?_)
 obtain⟨rfl,Q,R,T⟩:=P
 exact#[.inl #[.bool true,.bool true,[],Z,λ_=>Z,.bool true,ZA l _,λ_=>#[List.Pairwise.nil,λ_ U=>(nomatch U)]],Q,R,T]
end Att
namespace L2
open PySem PySem.Spec PyProof.Rows
theorem Ql:∀{v:List Value} {N:List Int},IntsAre v N->aw (N.map V.int) v
 |_,_,.nil=>.nil
 |_,_,.cons n t h=>.cons #[t,Z] (Ql h)
def yh(H:Hp):Prop:=∀b,H b=none∨∃o x,H b=some (.frz o (.lst x))
theorem pF{P:Program}{K:Frag}{S:Shared}{i:List Value}
  (Y:K.In S.heap) (l:S.heap.Ns mainGlobals M) (c:S.heap.Ns builtinsNs mb) (Q:∀x:Str,x≠"__name__"->mb x=bootBuiltins x) (p:S.heap.NoLimit) (hg:S.gens=(List.toArray []))
  (J:S.heap.get? a=some { cls:=.type "list",data:=.seq i.toArray }) (hi:IntsAre i O) (hl:O.length<=sizeLine) (hr:bH k callerA)
  (F:∀f:Heap,K.In f->f.Ns mainGlobals M->ah P w K M f CX k fa fd [x] sp) (j:∀(s:Shared) (u:Value),BindsTo s fd #[[u],[]] [(x,u)])
  (R:∀H:Hp,yh H->aP K H a (O.map V.int)->sp [.ref a] H (λv _=>v= .bl true) λ_ _ _=>False)
  (T:∀H e g,CX [] H S (λ_ _ _=>False) e g->False):
  codeAny (model P w) callerA (.call (.ref fa) #[[.ref a],[]]) (λr g=>r= .ok (.ret (.bool true))/\OldK S.heap g.heap/\g.os=S.os/\AllBare g.gens) S:=by
 have rv:=Ql hi
 have L:=hi.length
 have C:∀H:Hp,yh H->aP K H a (O.map V.int)->eJ P w H S.heap->(∀b,H b≠none->b=a)->(H a≠none->K.lookup a=none)->
   codeAny (model P w) callerA (.call (.ref fa) #[[.ref a],[]]) (λr g=>r= .ok (.ret (.bool true))/\OldK S.heap g.heap/\g.os=S.os/\AllBare g.gens) S:=by
  intro H hO hS t hA hK
  have B:∀{b:Addr} {o:Obj},S.heap.get? b=some o->H b=none->(iJ S.heap H).get? b=some o:=λe n=>pw e n
  have U:∀{b:Addr} {o:Obj} {E:Array DictEntry} {y:Nat},S.heap.get? b=some o->o.data= .dict E y->H b=none:=λ{b o E y} e d=>by
   cases q:H b with
   |none=>rfl
   |some u=>
    have W:b=a:=hA b (by rw[q];simp)
    subst W
    rw[J]at e;cases e
    have d':Data.seq i.toArray _=Data.dict E y:=d
    cases d'
  have N:∀{b:Addr} {m:Str->Option Value},S.heap.Ns b m->(iJ S.heap H).Ns b m:=λ{b m} #[o,E,y,e,d,r]=>#[o,E,y,B e (U e d),d,r]
  have A:K.In (iJ S.heap H):=λb o e=>B (Y b o e) (by
   cases q:H b with
   |none=>rfl
   |some u=>
    have W:b=a:=hA b (by rw[q];simp)
    subst W
    rw[hK (by rw[q];simp)]at e;cases e)
  have hM:Mod K M (iJ S.heap H):=#[A,N l,#[mb,N c,Q],let #[mc,h1,h2]:=p;#[mc,N h1,h2]]
  have e0:l7 P w K M (iJ S.heap H) callerA [] S H:=#[Z,hM,λb o e=>vo e,Md (Zq _ _),Gg,λb c=>absurd (show b∈([]:List Addr) from c) MQ,t,.of_eq hg]
  refine Im ((F _ A (N l)).run callerA [] S H #[[.ref a],[]] [.ref a] [.ref a] _ _ hr e0 (j S (.ref a)) (.cons Z .nil) (R H hO hS)) λr g h=>?_
  cases r with
  |error e=>exact(T H e g h).elim
  |ok fl=>
   cases fl with
   |next=>exact False.elim h
   |brk=>exact False.elim h
   |cont=>exact False.elim h
   |ret u=>
    obtain⟨v,H',os,D,un,G,r',q⟩:=h
    have q':v= .bl true:=q
    subst q'
    obtain rfl:u=Value.bool true:=r'
    refine#[Z,OldK.of_keep λb o e=>?_,os,D]
    cases q:H b with
    |none=>exact un.keep b o e q (by intro z;exact absurd (show b∈([]:List Addr) from z) MQ) MQ
    |some u=>
     rcases hO b with z | ⟨ob,xs,z⟩
     ·rw[q]at z;cases z
     ·have z2:=un.frzs b ob _ z
      obtain⟨e1,_⟩:=t b _ z
      obtain⟨e2,_⟩:=G b _ z2
      rw[e]at e1;cases e1
      exact e2
 cases X:K.lookup a with
 |some o=>
  have e:=Y a o X
  rw[J]at e
  cases e
  refine C (λ_=>none) (λ_=>.inl Z) (.inr #[_,i.toArray,_,X,Z,Z,Z,by rw[FE,L];exact hl,by simpa using rv]) (λb u z=>by have I:(none:Option HO)=some u:=z;cases I) (λb z=>absurd Z z) λz=>absurd Z z
 |none=>
  refine C (λb=>if b=a then some (.frz { cls:=.type "list",data:=.seq i.toArray } (.lst (O.map V.int))) else none) (λb=>?_) (.inl (.inr #[{ cls:=.type "list",data:=.seq i.toArray },FQ Z])) (λb u z=>?_) (λb z=>?_) λ_=>X
  ·by_cases c:b=a
   ·exact .inr #[_,_,FQ c]
   ·exact .inl (FV c)
  ·by_cases c:b=a
   ·have I:=(FQ c).symm.trans z
    cases I
    subst c
    exact#[J,by rw[Fy];exact hl,i,_,rv,J]
   ·have I:=(FV c).symm.trans z
    cases I
  ·by_cases c:b=a
   ·exact c
   ·exact absurd (FV c) z
theorem wR{l:PySem.W.OpenLaw}{n k:Nat}{E:World->Heap->Prop}{d:DefRec}{K:Params->Frag}{CX:World->nh}{sp:World->Sp}{x:Str}
  (O:l.most=some n) (r:n<=sizeLine) (t:d.params.defaults=[]) (P:bH k callerA)
  (Q:∀(w:World) (h:Heap),E w h->(K w.params).In h)
  (F:∀(w:World) (m:Str->Option Value) (p:Addr) (h:Heap),(K w.params).In h->h.Ns mainGlobals m->m d.name=some (.ref p)->
   ∃y:FuncData,(∀(s:Shared) (u:Value),BindsTo s y #[[u],[]] [(x,u)])/\
    ∀B:Heap,(K w.params).In B->B.Ns mainGlobals m->ah l.prog w (K w.params) m B (CX w) k p y [x] (sp w))
  (z:∀(w:World) (H:Hp) (a:Addr) (N:List Int),N.length<=n->yh H->aP (K w.params) H a (N.map V.int)->sp w [.ref a] H (λv _=>v= .bl true) λ_ _ _=>False)
  (A:∀(w:World) (H:Hp) (s:Shared) (e:Value) (C:Shared),CX w [] H s (λ_ _ _=>False) e C->False):
  PySem.W.WalkO q L XP E l.row.toRowW d [] (λf I=>PySem.call f I):=by
 refine Att.attach_call O t λw J S m mb p o pm cd R a I N G Y ho hd U D j i c X=>?_
 have M:=Q w _ Y
 obtain⟨y,hb,hF⟩:=F w m p _ M G.T.g D
 exact pF M G.T.g G.T.b G.T.builtins G.T.nolimit X j i (FL c r) P hF hb (λH hO hS=>z w H a N c hO hS) λH e C=>A w H S e C
noncomputable def cj(s:Stmt)(j:Nat):Stmt:=match s with
 | .ClassDef _ _ _ b _ _ _ _ _ _ _=>b.getD j (.Pass #[0,0,0,0])
 |_=>.Pass #[0,0,0,0]
noncomputable def bJ(s:Stmt):Arguments:=match s with
 | .FunctionDef _ a _ _ _ _ _ _ _ _=>a
 |_=>{ posonlyargs:=[],args:=[],vararg:=none,kwonlyargs:=[],kw_defaults:=[],kwarg:=none,defaults:=[] }
noncomputable def bo(s:Stmt):List Stmt:=match s with
 | .FunctionDef _ _ b _ _ _ _ _ _ _=>b
 |_=>[]
noncomputable def aa(s:Stmt):Scope:=match s with
 | .FunctionDef _ _ _ _ _ _ S _ _ _=>S
 |_=>{ kind:=.function,names:=[],isGenerator:=false,isCoroutine:=false }
abbrev aE:nh:=λ_ _ _ _ _ _=>False
abbrev E0:XK:=λ_ _ _=>False
theorem bL{X:Cx}:dm aE X E0:=λ_ _ _ _ _ _ _ h=>h.elim
structure aU(K:Frag)(x qual:Str)(st:Stmt)(f:Addr)(fd:FuncData):Prop where
 ex:∃(oc:Value) (od:Option Addr) (kV doc pm:Value) (an:Option Addr) (cdv ct:Value) (osl:Array (Option Value)),
  fd=fnOf x qual (bJ st) (bo st) (aa st) .none kV doc pm an cdv ct/\K.lookup f=some #[oc,od,.func fd,osl]/\codeIn K cdv qual=true
 kp:keepIn K (.ref f)=true
section
variable {P:Program}{w:World}{K:Frag}{mg:Str->Option Value}{base:Heap}
theorem aU.ok{st:Stmt}{d:Sp}(F:aU K x a st f i)(S:al N p (aa st))(len:∀v H Q E,d v H Q E->v.length=p.length)
  (b:∀(c:Value) (A:Around) (o:List Env) (s:Shared) (H:Hp) (v:List V) (Q:VK) (E:XK),bH k (A.deeper (envOfC a (aa st) s.heap.objs.size f c))->d v H Q E->
   ∃t,ls (ff aE P w K mg base N a (aa st) f c A o s H E).nox (bo st) t/\t { nx:=λ_ j=>Q .non j,rt:=Q } (gf N v) H):ah P w K mg base aE (k+1) f i p d:=by
 obtain⟨m,n,kV,D,r,u,c,C,O,rfl,lk,e⟩:=F.ex
 refine xF lk e S len λA o s H v Q E l g=>?_
 obtain⟨t,h,q⟩:=b c A o s H v Q E l g
 exact#[t,h.nox,q]
theorem aU.binds{st:Stmt}{p:List Str}(F:aU K x q st f b)
  (h:∀(kV d a:Value) (A:Option Addr) (c C:Value) (u:List Value),u.length=p.length->bindArgs (fnOf x q (bJ st) (bo st) (aa st) .none kV d a A c C) #[u,[]]=pure (p.zip u)):ay K b p []:=by
 obtain⟨O,e,kV,d,a,A,c,C,o,rfl,lk,H⟩:=F.ex
 exact .all (h kV d a A c C)
theorem pj{st:Stmt}{kV:Value}(l:K.lookup f=some #[O,e,.func (fnOf x q (bJ st) (bo st) (aa st) .none kV d p a C b),o])
  (c:codeIn K C q=true) (k:keepIn K (.ref f)=true):aU K x q st f (fnOf x q (bJ st) (bo st) (aa st) .none kV d p a C b):=#[#[O,e,kV,d,p,a,C,b,o,Z,l,c],k]
end
theorem kU(h:bH k A):A.units+1 < cLine:=Hq (Nat.add_le_add_left (by decide:1<=64) _) h.units
section
variable {X:Cx}
theorem pv(i:Nat){x:Str}{p:Pos}(H:X.N[i]?=some x:=by rfl)(a:DG X.env.scope x:=by first |exact Or.inl Z |exact Or.inr (Or.inl Z) |exact Or.inr (Or.inr Z))(b:(x==("__debug__":Str))=false:=by decide)
  (h:(x==("__classdict__":Str))=false:=by decide):PE X (.Name x p) (be i):=AH H a b h
end
theorem og{A B:Prop}(h:B):if false=true then A else B:=by
 rw[FV FH]
 exact h
theorem oh{A B:Prop}(h:A):if true=true then A else B:=by
 rw[FQ Z]
 exact h
theorem bV{c A B:Prop}[Decidable c](H:c->A)(a:¬c->B):if c then A else B:=by
 by_cases h:c
 ·rw[FQ h]
  exact H h
 ·rw[FV h]
  exact a h
def ae(H h:Hp):Prop:=∀b o,H b=some o->h b=some o
theorem ae.refl(H:Hp):ae H H:=λ_ _ h=>h
theorem ae.trans(a:ae H d)(b:ae d e):ae H e:=λc o h=>b c o (a c o h)
theorem ae.free(e:ae H a)(h:a l=Option.none):H l=Option.none:=by
 cases q:H l with
 |none=>rfl
 |some o=>
  rw[e l o q]at h
  cases h
theorem ae.seq{K:Frag}(e:ae H b)(h:aP K H a x):aP K b a x:=by
 rcases h with (h | ⟨o,h⟩) |h
 ·exact .inl (.inl (e _ _ h))
 ·exact .inl (.inr #[o,e _ _ h])
 ·exact .inr h
section
variable {prog:Program}{w:World}{A:Around}{R:Result->Shared->Prop}{s:Shared}
abbrev xk:Value->Shared->Prop:=λ_ _=>False
theorem ZB{iter:Expr}(I:Nat->Shared->Prop)
  (T:∀n s,I n s->wpAny (model prog w) A (pyNext B) (λr S=>match r with
   |none=>R (.ok .next) S
   |some v=>wpAny (model prog w) A (letOwnedTupleGo t B v) (λ_ b=>wpAny (model prog w) A (assign t e v) (λ_ d=>
     wpAny (model prog w) A (forIn l true λc r=>if r=true then do let o <- isTrue c e (eval c e);pure (ForInStep.yield o) else pure (ForInStep.yield r)) (λo a=>
      if o=true then wpAny (model prog w) A (eval E e) (λx g=>
       wpAny (model prog w) A (call (.builtin "list.append") [p,x]) (λ_ i=>∃m,m < n/\I m i) xk g) xk a
      else ∃m,m < n/\I m a) xk d) xk b) xk S) xk s)
  (n:Nat) (h:I n s):
  codeAny (model prog w) A (.compLoop (.ListComp E [#[t,iter,l,0]] k C) 0 B p e) R s:=by
 refine codeAny_loop Z I (λn s D=>?_) n h
 show wpAny _ A ((compTurn (.ListComp E [#[t,iter,l,0]] k C) 0 B p e).onRaise (λx=>do noteFrame x e;theTreesLotGoes x)) _ _ s
 refine wpAny_noted ?_
 rw[compTurn_list]
 refine Ft (Iu (Ft (GY (T n s D) (λr S H=>?_) λ_ _ f=>f.elim)))
 cases r with
 |none=>exact Fv H
 |some v=>
  refine Ft (GY H (λ_ b q=>?_) λ_ _ f=>f.elim)
  refine Ft (GY q (λ_ d u=>Ft (GY u (λo a j=>?_) λ_ _ f=>f.elim)) λ_ _ f=>f.elim)
  cases o with
  |false=>exact Fv #[Z,j]
  |true=>
   exact Ft (Ft (GY j (λx g y=>Ft (GY y (λ_ i z=>Fv (Fv #[Z,z])) λ_ _ f=>f.elim)) λ_ _ f=>f.elim))
end
noncomputable def bg(X:Cx)(s:Scope)(M:List Str)(c:List (Str×Addr))(C:Addr)(f:List Addr)(S:Shared)(H:Hp):Cx where
 prog:=X.prog
 w:=X.w
 K:=X.K
 mg:=X.mg
 base:=X.base
 A:=X.A
 N:=M
 s₀:=S
 H₀:=H
 env:=compEnvC s c C X.env
 outer:=X.stack
 stack:=X.stack
 ex:=f
 fn:=λ_=>false
 calm:=X.calm
 pn:=[]
 xe:=λ_ _=>False
noncomputable def Bz(n:Nat)(I:List Nat)(a:St):St:=List.replicate n none++I.map λi=>(a[i]?).getD none
structure bM(N:List Str)(sc scope:Scope)(M:List Str)(nT:Nat)(ix:List Nat):Prop where
 cell:∀y∈scope.names,y.2≠ .cell
 kind:scope.kind= .function
 loc:∀y∈scope.names,y.2= .local->scope.names.lookup y.1=some .local
 fre:∀y∈scope.names,y.2= .free->sc.names.lookup y.1=some .cell
 nms:M.drop nT=ix.map λi=>N.getD i Str.empty
 len:M.length=nT+ix.length
 vis:∀i∈ix,scope.names.lookup (N.getD i Str.empty)=some .free
theorem Jd{E:Env}(c:E.scope.kind= .function):∀{N:List (Str×NameKind)} {y:Str},N.lookup y=some .free->E.kindOf y=some .cell->
  (N.map λ(n,k)=>if (k==NameKind.free&&E.scope.kind== .function&&E.kindOf n==some .cell) then (n,NameKind.cell) else (n,k)).lookup y=some .cell
 | [],_,h,_=>by simp at h
 | (n,k)::r,y,h,b=>by
  have i:=@Jd E c r y
  show List.lookup y ((if (k==NameKind.free&&E.scope.kind== .function&&E.kindOf n==some .cell)=true then (n,NameKind.cell) else (n,k))::_)=_
  cases H:y==n with
  |true=>
   simp only[G8,H]at h
   cases h
   have e:y=n:=by simpa using H
   subst e
   rw[FQ (by rw[c,b];rfl)]
   simp [G8]
  |false=>
   simp only[G8,H]at h
   by_cases a:(k==NameKind.free&&E.scope.kind== .function&&E.kindOf n==some .cell)=true
   ·rw[FQ a];simp only[G8,H];exact i h b
   ·rw[FV a];simp only[G8,H];exact i h b
theorem KA{E:Env}:∀{N:List (Str×NameKind)} {y:Str} {K:NameKind},
  (N.map λ(n,k)=>if (k==NameKind.free&&E.scope.kind== .function&&E.kindOf n==some .cell) then (n,NameKind.cell) else (n,k)).lookup y=some K->
  ∃k,N.lookup y=some k/\(K=k∨k= .free)
 | [],_,_,h=>by simp at h
 | (n,k)::r,y,K,h=>by
  have i:=@KA E r y K
  have h:List.lookup y ((if (k==NameKind.free&&E.scope.kind== .function&&E.kindOf n==some .cell)=true then (n,NameKind.cell) else (n,k))::_)=some K:=h
  cases a:y==n with
  |true=>
   refine#[k,by simp only[G8,a],?_]
   by_cases H:(k==NameKind.free&&E.scope.kind== .function&&E.kindOf n==some .cell)=true
   ·right
    simp only[GL]at H
    simpa using H.1.1
   ·rw[FV H]at h;simp only[G8,a]at h;left;exact(GK h).symm
  |false=>
   have b:List.lookup y (r.map λ(n,k)=>if (k==NameKind.free&&E.scope.kind== .function&&E.kindOf n==some .cell) then (n,NameKind.cell) else (n,k))=some K:=by
    by_cases H:(k==NameKind.free&&E.scope.kind== .function&&E.kindOf n==some .cell)=true
    ·rw[FQ H]at h;simp only[G8,a]at h;exact h
    ·rw[FV H]at h;simp only[G8,a]at h;exact h
   obtain⟨c,e,q⟩:=i b
   exact#[c,by simp only[G8,a];exact e,q]
noncomputable def aY(e:Env):List (Str×NameKind)->List (Str×Addr)->List (Str×Addr)
 | [],a=>a
 | (n,k)::r,a=>if k== .free then aY e r ((n,(e.cells.lookup n).getD 0)::a) else aY e r a
theorem zY{E:Env}:∀{N:List (Str×NameKind)} {acc:List (Str×Addr)},(∀y∈N,y.2= .free->∃c,E.cells.lookup y.1=some c)->(∀x c,acc.lookup x=some c->E.cells.lookup x=some c)->
  ∀x c,(aY E N acc).lookup x=some c->E.cells.lookup x=some c
 | [],_,_,b,x,c,h=>b x c h
 | (n,k)::r,acc,f,b,x,c,h=>by
  unfold aY at h
  by_cases g:(k==NameKind.free)=true
  ·rw[FQ g]at h
   refine zY (λy H=>f y (Ge _ H)) (λX j a=>?_) x c h
   obtain⟨C,d⟩:=f (n,k) FX (by simpa using g)
   have d:E.cells.lookup n=some C:=d
   simp only[G8]at a
   cases i:X==n with
   |true=>
    rw[i]at a
    have e:X=n:=by simpa using i
    subst e
    rw[d]at a
    rw[d]
    exact a
   |false=>rw[i]at a;exact b _ _ a
  ·rw[FV g]at h
   exact zY (λy H=>f y (Ge _ H)) b x c h
theorem qr:∀{a:List (Str×Addr)},(∃c,(x,c)∈a)->∃c,a.lookup x=some c
 | [],h=>by obtain⟨_,h⟩:=h;cases h
 | (n,c)::r,h=>by
  simp only[G8]
  cases H:x==n with
  |true=>exact#[c,Z]
  |false=>
   obtain⟨C,h⟩:=h
   rcases List.mem_cons.mp h with e |h
   ·injection e with E _
    subst E
    simp at H
   ·exact qr #[C,h]
theorem qL:∀{N:List (Str×NameKind)} {a:List (Str×Addr)},((∃c,(x,c)∈a)∨(x,NameKind.free)∈N)->∃c,(x,c)∈aY E N a
 | [],_,h=>by
  rcases h with h |h
  ·exact h
  ·cases h
 | (n,k)::r,a,h=>by
  unfold aY
  by_cases H:(k==NameKind.free)=true
  ·rw[FQ H]
   refine qL ?_
   rcases h with ⟨c,h⟩ |h
   ·exact .inl #[c,Ge _ h]
   ·rcases List.mem_cons.mp h with e |h
    ·injection e with b _
     subst b
     exact .inl #[_,FX]
    ·exact .inr h
  ·rw[FV H]
   refine qL ?_
   rcases h with h |h
   ·exact .inl h
   ·rcases List.mem_cons.mp h with e |h
    ·injection e with _ d
     subst d
     exact absurd Z H
    ·exact .inr h
theorem qA{e:Env}:∀(N:List (Str×NameKind)) (A:List (Str×Addr)),(∀y∈N,y.2= .free->∃c,e.cells.lookup y.1=some c)->
  (forIn N A (λx r=>match x with | (name,K)=>if (K==NameKind.free)=true then (do let a <- cellOf e name;pure (ForInStep.yield ((name,a)::r))) else pure (ForInStep.yield r)):Sem (List (Str×Addr)))=pure (aY e N A)
 | [],A,_=>rfl
 | (n,k)::r,A,b=>by
  have i:=λA=>qA r A λy H=>b y (Ge _ H)
  rw[Ht]
  unfold aY
  by_cases h:(k==NameKind.free)=true
  ·obtain⟨C,E⟩:=b (n,k) FX (by simpa using h)
   have E:e.cells.lookup n=some C:=E
   have d:cellOf e n=pure C:=by unfold cellOf;rw[E]
   rw[FQ h]
   simp only[h,IL,d,E]
   exact i _
  ·rw[FV h]
   simp only[h]
   exact i _
theorem qB{e:Env}{S:Scope}(H:∀y∈S.names,y.2= .free->∃c,e.cells.lookup y.1=some c):closureFor S e=pure (aY e S.names []):=by
 have h:=qA S.names [] H
 exact Hf (λt:Sem (List (Str×Addr))=>t >>= λs=>pure s) h
section
variable {X:Cx}{pins:List (Addr×Obj)}{σ:St}{H:Hp}{s:Shared}
theorem qX(I:ap X pins σ H s)(S:bM X.N X.env.scope a M n i):∀y∈a.names,y.2= .free->∃c,X.env.cells.lookup y.1=some c:=
 λy h e=>I.ok.has y.1 (.inl (S.fre y h e))
theorem oJ{g:Heap}(I:ap X pins σ H s)(F:∀b∈Y,fc X pins H b)(P:∀b∈Y,b < s.heap.objs.size)
  (S:bM X.N X.env.scope a M n G) (Q:s.heap.objs.size<=C) (O:∀b o,s.heap.get? b=some o->g.get? b=some o) (R:g.Ns C m):
  ap (bg X a M (aY X.env a.names []) C Y s H) [] (Bz n G σ) H { s with heap:=g,toks:=tk }:=by
 have sub:∀x c,(aY X.env a.names []).lookup x=some c->X.env.cells.lookup x=some c:=zY (qX I S) (λx c h=>by simp at h)
 have j:∀x,a.names.lookup x=some .free->∃c,(aY X.env a.names []).lookup x=some c:=λx e=>qr (qL (.inr (Hn e)))
 have hex:∀x K,(relabel a X.env).names.lookup x=some K->(K= .cell∨K= .free)->a.names.lookup x=some .free:=λx K e A=>by
  obtain⟨k,t,q⟩:=KA e
  rcases q with q |q
  ·rcases A with z |z
   ·exact absurd (q.symm.trans z) (S.cell (x,k) (Hn t))
   ·rw[t,<- q,z]
  ·rw[t,q]
 refine#[#[I.ok.mod,S.kind,I.ok.glob,I.ok.blt,Q,λx y c h1 h2=>I.ok.inj x y c (sub x c h1) (sub y c h2),λx hx=>?_,λx c hx=>?_,I.ok.hd,I.ok.frames,.inl Z,λb w=>#[λz=>?_,λx c e=>?_],I.bs,FL I.ok.bsz I.sz,λb o e w=>?_,λb w hz=>?_,I.stack,I.stkFree],
  rfl,I.bare,Un.kept O,#[m,R,λk y v t E _=>?_],λx c e=>?_,I.hok.fresh Q,λx c e=>I.freeC x c (sub x c e),λp hp=>absurd (show p∈([]:List (Addr×Obj)) from hp) MQ,I.hok.kept O,?_]
 ·rcases hx with hx |hx
  ·exact j x (hex x _ hx (.inl Z))
  ·exact j x (hex x _ hx (.inr Z))
 ·exact absurd (show false=true from hx) MO
 ·have z':b=C:=z
  have:=P b w
  rw[z']at this
  exact absurd this (Nat.not_lt.mpr Q)
 ·exact(F b w).2.2.2.2.1 x c (sub x c e)
 ·rcases(F b w).2.2.2.1 with z |z
  ·exact I.ok.noex b o e z
  ·exact absurd (FM (FF e) (FL I.ok.bsz z)) (G7 _)
 ·rcases List.mem_cons.mp (I.stkSub b hz) with z |z
  ·exact(F b w).2.1 z
  ·exact(F b w).2.2.1 z
 ·have E:(Bz n G σ)[k]?=some (some v):=E
  have t:M[k]?=some y:=t
  unfold Bz at E
  by_cases A:k < n
  ·rw[HR (by simpa using A),ML]at E
   simp [A]at E
  ·have B:n<=k:=Li A
   rw[HM (by simpa using B),LF,FT]at E
   cases J:G[k - n]? with
   |none=>rw[J]at E;cases E
   |some i=>
    rw[J]at E
    have L:(σ[i]?).getD none=some v:=GK E
    have V:σ[i]?=some (some v):=by
     cases W:σ[i]? with
     |none=>rw[W]at L;cases L
     |some o=>rw[W]at L;exact Hf some L
    have hi:i < X.N.length:=by rw[<- I.len];exact(List.getElem?_eq_some_iff.mp V).1
    have e7:y=X.N.getD i Str.empty:=by
     have q:(M.drop n)[k - n]?=some y:=by rw[List.getElem?_drop];rw[Nat.add_sub_cancel' B];exact t
     rw[S.nms,FT,J]at q
     exact(GK q).symm
    have e8:X.N[i]?=some y:=by rw[e7,Fu hi,Ir,Fu hi];rfl
    have d:a.names.lookup y=some .free:=by rw[e7];exact S.vis i (F' J)
    have f:X.env.scope.names.lookup y=some .cell:=S.fre (y,.free) (Hn d) Z
    obtain⟨m',_,hl⟩:=I.loc
    obtain⟨u,r,l⟩:=hl i y v e8 V (.inr (.inl f))
    refine#[u,r,?_]
    rcases l with ⟨l,_⟩ | ⟨_,c,ec,o,T,U⟩
    ·have l:X.env.scope.names.lookup y=some .local:=l
     rw[f]at l
     cases l
    ·obtain⟨c',D⟩:=j y d
     have q:=sub y c' D
     rw[ec]at q
     cases q
     exact .inr #[.inl (Jd I.ok.kind d f),c,D,o,O _ _ T,U]
 ·obtain⟨v,o,T,U⟩:=I.cell x c (sub x c e)
  exact#[v,o,O _ _ T,U]
 ·show(Bz n G σ).length=M.length
  rw[S.len]
  simp [Bz]
theorem ap.track(I:ap X pins σ H s)(f:fc X pins H D)(G:X.s₀.heap.objs.size<=D)(a:aX X.prog X.w (af H D o) s.heap D o):ap X pins σ (af H D o) s:=by
 have n:=f.1
 have N:∀b u,H b=some u->b≠D:=λb u e=>jm e n
 refine#[I.ok,I.os,I.bare,#[I.base.keep,I.base.slot,λb O e q i=>?_,I.base.there,λb d e=>?_,λb O u e=>?_,λb P e=>?_],I.loc,I.cell,?_,λx c e=>?_,λp h=>?_,λb u e=>?_,I.len]
 ·rw[jk (FJ (FM (FF e) G))]
  exact I.base.free b O e q i
 ·have q:=I.base.tups b d e
  rw[jk (N _ _ q)]
  exact q
 ·have q:=I.base.frzs b O u e
  rw[jk (N _ _ q)]
  exact q
 ·obtain⟨m,q⟩:=I.base.tbls b P e
  exact#[m,by rw[jk (N _ _ q)];exact q]
 ·rw[jk (Gp f.2.1)]
  exact I.free
 ·rw[jk (f.2.2.2.2.1 x c e)]
  exact I.freeC x c e
 ·obtain⟨e,q,r⟩:=I.pin p h
  exact#[e,by rw[jk (f.2.2.2.2.2 p h)];exact q,r]
 ·by_cases g:b=D
  ·subst g
   rw[jc]at e
   cases e
   exact a
  ·rw[jk g]at e
   exact(I.hok b u e).stay (λ_ _ _ q=>q) (λc q=>by rw[jk (N _ _ q)];exact q) λc d q=>by rw[jk (N _ _ q)];exact q
noncomputable abbrev iz(u:List Value):Obj:={ cls:=.type "list",data:=.seq u.toArray u.length }
theorem ZC(u:List Value)(y:Value):({ cls:=.type "list",data:=.seq (u.toArray.push y) (u.length+1) }:Obj)=iz (u++[y]):=by
 show({ cls:=.type "list",data:=.seq (u.toArray.push y) (u.length+1) }:Obj)={ cls:=.type "list",data:=.seq (u++[y]).toArray (u++[y]).length }
 rw[FD,Ij,List.push_toArray]
def PF(X:Cx)(i:List Expr)(t:TT):Prop:=
 ∀(pins:List (Addr×Obj)) (s:Shared) (σ:St) (H:Hp) (Q:Bool->Hp->Prop),ap X pins σ H s->t σ H Q->
  wpAny (model X.prog X.w) X.A (forIn i true λc r=>if r=true then do let o <- isTrue c X.env (eval c X.env);pure (ForInStep.yield o) else pure (ForInStep.yield r)) (TP X pins σ Q) X.xe s
def lP:TT:=λ_ H Q=>Q true H
theorem zU:PF X [] lP:=λ_ _ _ H _ I h=>wpAny_tests_nil #[H,I,h]
theorem AM{c:Expr}{t:TT}(h:PT X c t):PF X [c] t:=λpins s σ H Q I q=>wpAny_tests_one (h pins s σ H Q I q)
noncomputable def nG(I:List Nat)(σ:St):St:=I.map λi=>(σ[i]?).getD none
def fb(J:It)(n:Nat)(t:St)(g:TG)(j:TT)(k:TE)(Q:List V->Hp->Prop)(H:Hp):Prop:=
 ∃W:Nat->Nat->List V->Hp->Prop,(∃m,W 0 m [] H)/\∀i m Y H,W i m Y H->
  (J.stop i H/\Q Y H)∨(J.go i H/\Y.length < sizeLine/\∃N:List V->Hp->Prop,(∀c h,N c h->∃M,M < m/\W (i+1) M c h)/\
   ∀x d (e:St),e.length=n->J.yld i H x d->g x (e++t) d λa h=>(∃T:St,T.length=n/\a=T++t)/\j a h λb f=>if b=true then k a f λy l=>N (Y++[y]) l else N Y f)
theorem KB{iter:Expr}
  {RR:Value->Addr->Result->Shared->Prop} 
  (I:ap X pins σ H s) (hc:X.calm=true) (T:me X.prog X.w X.K tg J k it tn) (st:tn 0 s.heap) (hf:∀b∈k,fc X pins H b) (S:bM X.N X.env.scope scope M nT ix)
  (hg:∀cl C k s H,PG (bg X scope M cl C k s H) tg g) (hi:∀cl C k s H,PF (bg X scope M cl C k s H) i0 tt) (he:∀cl C k s H,PE (bg X scope M cl C k s H) e0 te)
  (h:fb J nT (nG ix σ) g tt te Qf H)
  (h':∀D C Y m t G,(∀b o u,H b=some (.frz o u)->t b=some (.frz o u))->t D=none->ap X pins σ (af t D (.lst Y)) G->fc X pins (af t D (.lst Y)) C->G.heap.Ns C m->Qf Y t->RR (.ref D) C (.ok .next) G):
  wpAny (model X.prog X.w) X.A (newList []) (λacc B=>wpAny (model X.prog X.w) X.A (newFunctionEnv scope X.env.globals (aY X.env scope.names []) [] X.env.qual none .none (some X.env)) (λc0 s0=>
   codeAny (model X.prog X.w) X.A (.compStart (.ListComp e0 [#[tg,iter,i0,0]] scope p1) 0 (.ref it) acc { c0 with scope:=relabel scope X.env }) (RR acc c0.locals) s0) E B) E s:=by
 obtain⟨W,⟨m0,w0⟩,t1⟩:=h
 have h3:∀b∈k,b < s.heap.objs.size:=λb a=>by
  obtain⟨o,e,_⟩:=T.obj 0 _ st b a
  exact FF e
 refine Gu (wpAny_newFunctionEnv S.cell (by intro y hy;simp at hy) (λF l f=>?_) S.kind)
 dsimp only at l f ⊢
 generalize h4:s.heap.push { cls:=.type "list",dict:=none,data:=.seq ([]:List Value).toArray }=H2 at l f ⊢
 have hC:H2.objs.size=s.heap.objs.size+1:=by rw[<- h4,GH]
 have P:s.heap.objs.size≠H2.objs.size:=by rw[hC];exact FJ (Hj _)
 have h0:s.heap.objs.size<=H2.objs.size:=by rw[hC];exact Hs _
 have b0:∀b,b < s.heap.objs.size->b≠H2.objs.size/\b≠s.heap.objs.size:=λb a=>#[by rw[hC];exact FJ (Ik a),FJ a]
 have o1:∀b o,s.heap.get? b=some o->F.get? b=some o:=λb o e=>f.extBut b o (b0 b (FF e)).1 (Fx _ (h4▸Fx _ e))
 have h5:F.get? s.heap.objs.size=some (iz []):=f.extBut _ _ P (Fx _ (h4▸FG _ Z))
 have a0:H s.heap.objs.size=none:=I.hok.fresh (Fz _)
 have h6:s.heap.objs.size∉iB X.stack:=λa=>(List.mem_cons.mp (I.stkSub _ a)).elim (λe=>absurd I.lt (by rw[<- e];exact G7 _)) (I.nofs (Fz _))
 generalize hD:s.heap.objs.size=D at*
 generalize b2:H2.objs.size=C at*
 have J0:∀tk,ap (bg X scope M (aY X.env scope.names []) C k s H) [] (Bz nT ix σ) H { s with heap:=F,toks:=tk }:=λtk=>oJ I hf (by rw[hD];exact h3) S (by rw[hD];exact h0) o1 l
 have c1:∀x c,(aY X.env scope.names []).lookup x=some c->c≠D:=λx c e z=>by
  have sub:=zY (qX I S) (acc:=[]) (λx c h=>by simp at h) x c e
  obtain⟨v,o,ho,_⟩:=I.cell x c sub
  have:=FF ho
  rw[z,hD]at this
  exact G7 _ this
 have p0:∀{σ0:St} {t:Hp} {G:Shared} {U:List Value},ap (bg X scope M (aY X.env scope.names []) C k s H) [] σ0 t G->G.heap.get? D=some (iz U)->t D=none->
   ap (bg X scope M (aY X.env scope.names []) C k s H) [(D,iz U)] σ0 t G:=λ{σ0 t G U} I' e n=>I'.pins_of λp hp=>by
  have ep:p=(D,iz U):=by simpa using hp
  subst ep
  exact#[e,n,P,h6,λv z=>by cases z]
 have L:∀{t:Hp} {U:List Value},(∀b∈k,t b=none)->∀b∈k,fc (bg X scope M (aY X.env scope.names []) C k s H) [(D,iz U)] t b:=λ{t U} hn b a=>
  #[hn b a,((J0 0).ok.exf b a).1,(J0 0).ok.exfs b a,.inl a,((J0 0).ok.exf b a).2,λp hp z=>by
   have ep:p=(D,iz U):=by simpa [bg] using hp
   rw[ep]at z
   have:=h3 b a
   rw[<- z]at this
   exact G7 _ this]
 have l0:∀B:Shared,(∃tk,B={ s with heap:=F,toks:=tk })->
   codeAny (model X.prog X.w) X.A (.compLoop (.ListComp e0 [#[tg,iter,i0,0]] scope p1) 0 (.ref it) (.ref D) (compEnvC scope (aY X.env scope.names []) C X.env)) (RR (.ref D) C) B:=by
  rintro B ⟨tk,rfl⟩
  refine ZB (λn G=>∃i Y U ts t,ts.length=nT/\ap (bg X scope M (aY X.env scope.names []) C k s H) [(D,iz U)] (ts++nG ix σ) t G/\aw Y U/\Y.length<=sizeLine/\tn i G.heap/\(∀b∈k,t b=none)/\W i n Y t) ?_ m0
   #[0,[],[],List.replicate nT none,H,LF,p0 (J0 tk) h5 a0,.nil,FN _,T.keep _ _ _ st λb a o e=>o1 b o e,λb a=>(hf b a).1,w0]
  rintro n s1 ⟨i,Y,U,ts,Q,a1,I1,rv,hz,s7,f0,w1⟩
  rcases t1 i n Y Q w1 with ⟨stop,q⟩ | ⟨go,a2,N,hN,step⟩
  ·refine aW (T.done (bg X scope M (aY X.env scope.names []) C k s H) Z Z Z hc i _ s1 _ Q xk I1 (L f0) s7 stop) λr s2 j=>?_
   obtain⟨hr,I2⟩:=j
   subst hr
   have IO:ap X pins σ Q s2:=I.call' (ch:=k) I2.os I2.base I2.hok I2.bare λb a=>#[(hf b a).2.2.2.1,(hf b a).2.1,(hf b a).2.2.2.2.1,(hf b a).2.2.2.2.2]
   have pD:=I2.pin (D,iz U) (by simp [bg])
   have h8:Q D=none:=pD.2.1
   have fD:fc X pins Q D:=by rw[<- hD];exact I.fpOk (Fz _) (by rw[hD];exact h8)
   have IT:ap X pins σ (af Q D (.lst Y)) s2:=IO.track fD (by rw[<- hD];exact I.sz) #[hz,U,U.length,rv,pD.1]
   obtain⟨mC,a3,_⟩:=I2.loc
   have a4:Q C=none:=I2.free
   exact h' D C Y mC Q s2 I2.base.frzs h8 IT (I.fpOk (by rw[hD];exact h0) (by rw[jk (Gp P)];exact a4)) a3 q
  ·refine aW (T.item (bg X scope M (aY X.env scope.names []) C k s H) Z Z Z hc i _ s1 _ Q xk I1 (L f0) s7 go) λr s2 j=>?_
   obtain⟨u,hr,h2⟩:=j
   subst hr
   refine aW h2 λ_ s3 j=>?_
   obtain⟨x,H3,I3,r3,y3,O,f1⟩:=j
   have a':=I3.pinned (L f1) (T.obj _ _ O)
   refine aW (hg _ _ _ _ _ _ s3 _ H3 x u _ a' r3 (step x H3 ts a1 y3)) λ_ s4 j=>?_
   obtain⟨σ1,H4,I4,⟨t0,h1,e4⟩,q4⟩:=j
   subst e4
   refine aW (hi _ _ _ _ _ _ s4 _ H4 _ I4 q4) λb s5 j=>?_
   obtain⟨H5,I5,q5⟩:=j
   cases b with
   |false=>
    obtain⟨m',hm,w'⟩:∃m',m' < n/\W (i+1) m' Y H5:=hN _ _ q5
    refine#[m',hm,i+1,Y,U,t0,H5,h1,I5.unpinned,rv,hz,T.keep _ _ _ O λb a o e=>(I5.pin (b,o) (FR _ (FR _ (kX a e)))).1,λb a=>?_,w']
    obtain⟨o,e,d⟩:=T.obj _ _ O b a
    exact(I5.pin (b,o) (FR _ (FR _ (kX a e)))).2.1
   |true=>
    refine aW (he _ _ _ _ _ _ s5 _ H5 _ I5 q5) λv s6 j=>?_
    obtain⟨y,H6,I6,r6,q6⟩:=j
    obtain⟨m',hm,w'⟩:=hN _ _ q6
    have pD:=I6.pin (D,iz U) (FR _ (Hk _ FX))
    have hl:=rv.length
    have R:∀b∈k,∀o,s3.heap.get? b=some o->s6.heap.get? b=some o:=λb a o e=>(I6.pin (b,o) (FR _ (FR _ (kX a e)))).1
    have V:∀b∈k,H6 b=none:=λb a=>by
     obtain⟨o,e,d⟩:=T.obj _ _ O b a
     exact(I6.pin (b,o) (FR _ (FR _ (kX a e)))).2.1
    refine append_at (hsz:=by rw[FE,<- hl];exact hz) pD.1 λh7 sb b1=>?_
    have I7:ap (bg X scope M (aY X.env scope.names []) C k s H) [] (t0++nG ix σ) H6 { s6 with heap:=h7 }:=
     (I6.pins_of (pins':=[]) λp hp=>absurd hp MQ).turned (t':=s6.toks) (it:=D) (λb o a e=>(sb.2 b a).trans e) pD.2.1 P (.inr (by show s.heap.objs.size<=D;rw[hD];exact Fz _)) c1 λp hp=>absurd (show p∈([]:List (Addr×Obj)) from hp) MQ
    refine#[m',hm,i+1,Y++[y],U++[v],t0,H6,h1,p0 I7 (b1.trans (Hf some (ZC U v))) pD.2.1,rv.append (.cons r6 .nil),by rw[FD,Ij];exact a2,
     T.keep _ _ _ (T.keep _ _ _ O R) λb a o e=>(sb.2 b λz=>?_).trans e,V,w']
    have:=h3 b a
    rw[z]at this
    exact G7 _ this
 exact codeAny_compStart_list (l0 _ #[_,Z]) (T.self _ 0 _ _ _ (T.keep _ _ _ st λb a o e=>o1 b o e) (l0 _ #[_,Z]))
def tF(w:TI)(n:Nat)(i:List Nat)(g:TG)(t:TT)(T:TE):TE:=λσ H Q=>w σ H λJ a=>fb J n (nG i σ) g t T (λy h=>∀p,h p=none->Q (.ref p) (af h p (.lst y))) a
theorem zG{t E iter:Expr}{i:List Expr}{a:Scope}{p:Pos}{M:List Str}{k:Nat}{l:List Nat}{W:TI}{g:TG}{r:TT}{u:TE}(v:X.calm=true)(y:PI X t iter W)(S:bM X.N X.env.scope a M k l)
  (z:∀c C f s H,PG (bg X a M c C f s H) t g) (B:∀c C f s H,PF (bg X a M c C f s H) i r) (G:∀c C f s H,PE (bg X a M c C f s H) E u)
  (K:∀x,foldedSetIterable iter X.env x=pure x:=by intro _;rfl):
  PE X (.ListComp E [#[t,iter,i,0]] a p) (tF W k l g r u):=by
 intro pins s σ H Q I h
 rw[eval_ListComp]
 refine wpAny_comprehension_free (use:=none) Z K (qB (qX I S)) S.kind S.loc (aW (y pins s σ H _ I h) λxv s1 L=>aW L λO s2 P=>?_)
 obtain⟨it,f,tn,J,H2,e,U,T,d,V,R⟩:=P
 subst e
 refine KB (RR:=λj C=>compPost (model X.prog X.w) X.A X.xe none (EP X pins σ Q) j C) U v T d V S z B G R ?_
 intro D C ys m H' Y _ n I' F ns q
 exact#[m,ns,λh' sb=>#[.ref D,_,I'.turned (t':=Y.toks) (λb o hb e=>(sb.2 b hb).trans e) F.1 F.2.1 F.2.2.2.1 F.2.2.2.2.1 F.2.2.2.2.2,Z,q D n]]
theorem YS{t E iter:Expr}{d:List Expr}{c:Scope}{p P f:Pos}{y:Str}{i:Nat}{M:List Str}{U:Nat}{V:List Nat}{W:TI}{g:TG}{Y:TT}{te:TE}(hN:X.N.Nodup)(hy:X.N[i]?=some y)(hx:oC X.env.scope y)
  (hc:X.calm=true) (hI:PI X t iter W) (S:bM X.N X.env.scope c M U V)
  (hg:∀l C j s H,PG (bg X c M l C j s H) t g) (hi:∀l C j s H,PF (bg X c M l C j s H) d Y) (he:∀l C j s H,PE (bg X c M l C j s H) E te)
  (r:swapsWith (.ListComp E [#[t,iter,d,0]] c p) (some (.Name y P)) f.line X.env=pure true:=by rfl)
  (hf:X.fn y=true∨X.env.scope.names.lookup y=some .local:=by first |exact .inl Z |exact .inr Z |assumption)
  (hs:∀x,foldedSetIterable iter X.env x=pure x:=by intro _;rfl):
  PS X (.Assign [.Name y P] (.ListComp E [#[t,iter,d,0]] c p) f) (λD σ H=>tF W U V g Y te σ H λv H1=>D.nx (σ.set i (some v)) H1):=by
 intro pins s σ H D I h
 rw[exec_Assign_Name_used _ _ _ _ r]
 refine Ft (Iu (Ft ?_))
 show wpAny _ X.A (do let _ <- comprehension (.ListComp E [#[t,iter,d,0]] c p) c X.env _ (newList []) false (eval iter X.env) (some (assign (.Name y P) X.env))) _ _ s
 refine Ft (aW (wpAny_comprehension_free (use:=some (assign (.Name y P) X.env)) (Q:=λ_ k=>SP X pins D .next k) Z hs (qB (qX I S)) S.kind S.loc
  (aW (hI pins s σ H _ I h) λxv s1 h1=>aW h1 λi0 s2 h2=>?_)) λ_ k hq=>Fv (Fv hq))
 obtain⟨it,j,tn,J,H2,e,I2,T,u,f2,R⟩:=h2
 subst e
 refine KB (RR:=λB C=>compPost (model X.prog X.w) X.A X.xe (some (assign (.Name y P) X.env)) (λ_ k=>SP X pins D .next k) B C) I2 hc T u f2 S hg hi he R ?_
 intro Dd C ys m H' k _ n I' F ns q
 show wpAny _ X.A (assign (.Name y P) X.env (.ref Dd)) _ _ k
 refine wpAny_assign_Name (Qd I' hN hy hx (v:=.ref Dd) Z (λG K hh=>?_) hf)
 obtain⟨a,sb,ha⟩:=hh
 have L:C≠a:=by
  rcases ha with z |z
  ·rw[z];exact F.2.1
  ·exact Gp (F.2.2.2.2.1 _ _ z)
 exact#[m,ns.sameBut sb L,λh' O=>#[_,_,K.turned (t':=G.toks) (λb o hb e=>(O.2 b hb).trans e) F.1 F.2.1 F.2.2.2.1 F.2.2.2.2.1 F.2.2.2.2.2,q Dd n]]
end
section
variable {X:Cx}
def BC(i j:Int):Prop:=0 < j/\j<=1000000000000000000
theorem Km:em X (binaryOp .FloorDiv) (rI BC λi j=>.int (i / j)):=DJ λi j _ _ _ _ _ h q=>by
 have b:(0:Int) < j:=h.1
 have c:j<=1000000000000000000:=h.2
 refine floordiv_int MP (by rw[Int.fdiv_eq_ediv_of_nonneg i MP];exact q) (.inl (PyProof.noPylong_of_log2 ?_))
 have H:j.natAbs≠0:=by omega
 have a:j.natAbs < 2 ^ 60:=by omega
 have d:j.natAbs.log2 < 60:=(Nat.log2_lt H).mpr a
 omega
theorem zZ:∀{Y:List Str} {U:List Value},aw (Y.map V.str) U->StrsAre U Y
 | [],_,.nil=>.nil
 |y::r,_,.cons (b:=u) h t=>by
  obtain⟨T,e⟩:∃T,u=Value.str y T:=h
  subst e
  exact .cons y T (zZ t)
theorem QO:DT X "str.join" (λx a H Q=>∃(z:Str) (p:Addr) (y:List Str),x= .str z/\a=[.ref p]/\aP X.K H p (y.map V.str)/\z.length<=16/\(y.map (·.length)).sum+y.length<=1048576/\Q (.str (Txt.join z y)) H):=by
 intro P s l H x a v U Q I r R h
 obtain⟨z,p,y,rfl,rfl,b,c,d,q⟩:=h
 obtain⟨u,rfl,e⟩:=eN R
 cases e
 obtain⟨t,rfl⟩:=r
 obtain⟨i,f,g,j⟩:=I.list b
 exact join_listW g.isList (by simpa using zZ f) c d λT k=>#[.str _,H,I.tok k,#[_,Z],q]
noncomputable def oN:Expr->Option V
 | .Constant (.str x) _ _=>some (.str x)
 | .Constant (.int i) _ _=>some (.int i)
 |_=>none
theorem AF(h:oN e=some v):PE X e (tC v):=by
 cases e with
 |Constant c j p=>
  cases c with
  |str x=>cases h;exact jl
  |int i=>cases h;exact jf
  |_=>cases h
 |_=>cases h
theorem tj(h:oN e=some v):starEach (e::a) E=(false,eval e E)::starEach a E:=by
 cases e with
 |Constant c j p=>rfl
 |_=>cases h
noncomputable def pC(e:Expr):Bool:=(oN e).isSome
noncomputable def oM(e:Expr):V:=(oN e).getD .non
theorem QP:∀{E:List Expr},E.all pC=true->PA X E (λ_ H Q=>Q (E.map oM) H)
 | [],_=>jb
 |e::E,h=>by
  rw[MF,GL]at h
  obtain⟨v,a⟩:=Option.isSome_iff_exists.mp (show(oN e).isSome=true from h.1)
  have b:oM e=v:=by unfold oM;rw[a];rfl
  rw[Hr,b]
  exact ja (AF a) (QP h.2) (tj a)
theorem ZD{E:List Expr}(h:E.all pC=true):(E.map oM).all cV=true:=by
 rw[Lk]at h ⊢
 intro v H
 obtain⟨e,a,rfl⟩:=List.mem_map.mp H
 have q:=h e a
 unfold pC at q
 unfold oM
 cases e with
 |Constant c j p=>
  cases c with
  |str x=>rfl
  |int i=>rfl
  |_=>exact absurd q FH
 |_=>exact absurd q FH
def Dq(t:TS):TS:=λD b H=>∃R:St->Hp->Prop,t { D with nx:=R } b H/\∀a h,R a h->D.nx a h
theorem jY{st:Stmt}{t:TS}(h:PS X st t):PS X st (Dq t):=by
 intro p s b H D I c
 obtain⟨R,d,e⟩:=c
 refine aW (h p s b H _ I d) λf S q=>?_
 cases f with
 |next=>obtain⟨a,g,i,q⟩:=q;exact#[a,g,i,e _ _ q]
 |brk=>exact q
 |cont=>exact q
 |ret v=>exact q
theorem va{t:St}(h:t.length=1):∃v,t=[v]:=by
 cases t with
 |nil=>cases h
 |cons v r=>
  cases r with
  |nil=>exact#[v,Z]
  |cons _ _=>cases h
theorem XB{lo:Int}{t:TE}{Q:List V->Hp->Prop}(Pv:Nat->List V->Hp->Prop)(g:Pv 0 [] H)(j:n<=sizeLine)(b:∀i Y h,Pv i Y h->Y.length<=i)
  (k:∀i Y h,i < n->Pv i Y h->t (some (.int (lo+i))::c) h λy d=>Pv (i+1) (Y++[y]) d) (l:∀Y h,Pv n Y h->Q Y h):
  fb (ut lo n) 1 c (bK 0) lP t Q H:=by
 refine#[λi m Y h=>m=n - i/\i<=n/\Pv i Y h,#[n,MQ,FN _,g],?_]
 rintro i m Y h ⟨rfl,q,p⟩
 by_cases a:i < n
 ·refine .inr #[a,Hq (b i Y h p) (FM a j),Pv (i+1),λo d P=>#[n - (i+1),MP,Z,a,P],λx d T f y=>?_]
  obtain⟨e,y⟩:=y
  subst e y
  obtain⟨v,rfl⟩:=va f
  exact#[#[[some _],Z,Z],k i Y _ a p]
 ·have e:i=n:=by omega
  subst e
  exact .inl #[Fz _,l Y h p]
end
section
variable {κ:Type}[DecidableEq κ]
noncomputable def bh(K:List (κ×V))(k:κ):Option V:=(K.find? λa=>decide (a.1=k)).map (·.2)
noncomputable def aM(K:List (κ×V))(k:κ)(v:V):List (κ×V):=
 if (K.any λa=>decide (a.1=k))=true then K.map (λa=>if a.1=k then (a.1,v) else a) else K++[(k,v)]
theorem tS:bh ([]:List (κ×V)) k=none:=rfl
theorem ke{p:κ×V}(e:p.1=k):bh (p::r) k=some p.2:=by simp [bh,ID,e]
theorem kf{p:κ×V}(e:¬p.1=k):bh (p::r) k=bh r k:=by simp [bh,ID,e]
theorem qY(k:κ):∀K:List (κ×V),(K.any λa=>decide (a.1=k))=(bh K k).isSome
 | []=>rfl
 |p::r=>by
  rw[Lg]
  by_cases e:p.1=k
  ·simp only[ke e,Gn e,Bool.true_or,Option.isSome_some]
  ·rw[kf e,FY e,Bool.false_or];exact qY k r
theorem Xc(k j:κ)(y:V):∀K:List (κ×V),bh (K.map λa=>if a.1=k then (a.1,y) else a) j=(bh K j).map λx=>if j=k then y else x
 | []=>rfl
 |p::r=>by
  have i:=Xc k j y r
  rw[Hr]
  by_cases h:p.1=k
  ·rw[FQ h]
   by_cases e:p.1=j
   ·rw[ke (p:=(p.1,y)) e,ke e,Lv,FQ (e.symm.trans h)]
   ·rw[kf (p:=(p.1,y)) e,kf e,i]
  ·rw[FV h]
   by_cases e:p.1=j
   ·rw[ke (p:=p) e,ke e,Lv,FV (λz=>h (e.trans z))]
   ·rw[kf (p:=p) e,kf e,i]
theorem Qm(k j:κ)(y:V):∀K:List (κ×V),bh K k=none->bh (K++[(k,y)]) j=if j=k then some y else bh K j
 | [],_=>by
  by_cases e:k=j
  ·rw[FQ e.symm];exact ke (p:=(k,y)) e
  ·rw[FV (λz=>e z.symm)];exact kf (p:=(k,y)) e
 |p::r,h=>by
  rw[List.cons_append]
  have H:¬p.1=k:=λz=>by rw[ke z]at h;cases h
  rw[kf H]at h
  have i:=Qm k j y r h
  by_cases e:p.1=j
  ·rw[ke e,ke e,FV (λz=>H (e.trans z))]
  ·rw[kf e,kf e,i]
theorem Kn(K:List (κ×V))(k j:κ)(y:V):bh (aM K k y) j=if j=k then some y else bh K j:=by
 unfold aM
 by_cases a:(K.any λb=>decide (b.1=k))=true
 ·rw[FQ a,Xc]
  rw[qY]at a
  by_cases e:j=k
  ·obtain⟨x,h⟩:=Option.isSome_iff_exists.mp a
   rw[FQ e,e,h,Lv,FQ Z]
  ·rw[FV e]
   cases bh K j with
   |none=>rfl
   |some x=>rw[Lv,FV e]
 ·rw[FV a]
  refine Qm k j y K ?_
  rw[qY]at a
  cases q:bh K k with
  |none=>rfl
  |some x=>rw[q]at a;exact(a Z).elim
theorem qp(K:List (κ×V))(k:κ)(v:V):(aM K k v).length<=K.length+1:=by
 unfold aM
 split
 ·rw[Fy];omega
 ·rw[FD,Gi,Mo];omega
theorem dM.isSome_eq(r:dM o u):o.isSome=u.isSome:=by
 cases o with
 |none=>cases u with
  |none=>rfl
  |some _=>exact(show False from r).elim
 |some _=>cases u with
  |none=>exact(show False from r).elim
  |some _=>rfl
theorem dM.getD(r:dM o u)(R:ax d D):ax (o.getD d) (u.getD D):=by
 cases o with
 |none=>cases u with
  |none=>exact R
  |some _=>exact(show False from r).elim
 |some _=>cases u with
  |none=>exact(show False from r).elim
  |some _=>exact r
theorem KV.val(r:KV a v)(k:κ):dM (bh a k) (valueAt v k):=by
 unfold KV at r
 induction r with
 |nil=>exact True.intro
 | @cons p q P Q h t i=>
  obtain⟨H,c⟩:=h
  by_cases e:p.1=k
  ·have E:q.1=k:=H.symm.trans e
   have b:valueAt (q::Q) k=some q.2:=by simp [valueAt,ID,E]
   rw[ke e,b];exact c
  ·have E:¬q.1=k:=λz=>e (H.trans z)
   have b:valueAt (q::Q) k=valueAt Q k:=by simp [valueAt,ID,E]
   rw[kf e,b];exact i
theorem KV.any(r:KV a v)(k:κ):(a.any λK=>decide (K.1=k))=v.any λK=>decide (K.1=k):=by
 unfold KV at r
 induction r with
 |nil=>rfl
 |cons h t i=>rw[Lg,Lg,i,h.1]
theorem KV.repl(r:KV a v)(k:κ)(R:ax y u):
  KV (a.map λK=>if K.1=k then (K.1,y) else K) (v.map λK=>if K.1=k then (K.1,u) else K):=by
 unfold KV at r ⊢
 induction r with
 |nil=>exact .nil
 | @cons p q P Q h t i=>
  rw[Hr,Hr]
  refine .cons ?_ i
  obtain⟨H,b⟩:=h
  by_cases e:p.1=k
  ·rw[FQ e,FQ (H.symm.trans e)];exact#[H,R]
  ·rw[FV e,FV (λz=>e (H.trans z))];exact#[H,b]
theorem KV.put(r:KV a v)(k:κ)(R:ax y u):KV (aM a k y) (stored v k u):=by
 unfold aM stored
 rw[r.any k]
 by_cases e:(v.any λK=>decide (K.1=k))=true
 ·rw[FQ e,FQ e];exact r.repl k R
 ·rw[FV e,FV e];exact Paired.snoc r #[Z,R]
theorem KV.length(r:KV k v):k.length=v.length:=Paired.length r
end
theorem J5{P:Program}(r:ax (kV k) u):(a6 P w).is k u=true:=by
 cases k with
 |inl i=>obtain⟨t,e⟩:=(show ∃t,u=Value.int i t from r);subst e;exact Xz P w i t
 |inr x=>obtain⟨t,e⟩:=(show ∃t,u=Value.str x t from r);subst e;exact XA P w x t
theorem Qn{P:Program}:∀{K:List bE} {u:List Value},aw (K.map kV) u->ItemsAre (a6 P w) K u
 | [],_,r=>by rw[List.map_nil]at r;cases r;exact .nil
 |k::K,_,r=>by
  rw[Hr]at r
  cases r with
  |cons h t=>exact .cons (J5 h) (Qn t)
abbrev KT(H:Hp):List (List bE×V)->List (List bE×Addr×Value)->Prop:=Paired λp q=>p.1=q.1/\H q.2.1=some (.tup (p.1.map kV))/\ax p.2 q.2.2
theorem KT.val(r:KT H a x)(k:List bE):dM (bh a k) ((atKey x k).map (·.2)):=by
 induction r with
 |nil=>exact True.intro
 | @cons p q P Q h t i=>
  obtain⟨c,_,d⟩:=h
  by_cases e:p.1=k
  ·have E:q.1=k:=c.symm.trans e
   have b:atKey (q::Q) k=some q.2:=by simp [atKey,ID,E]
   rw[ke e,b];exact d
  ·have E:¬q.1=k:=λz=>e (c.trans z)
   have b:atKey (q::Q) k=atKey Q k:=by simp [atKey,ID,E]
   rw[kf e,b];exact i
theorem KT.repl(r:KT H b x)(k:List bE)(R:ax y u):
  KT H (b.map λK=>if K.1=k then (K.1,y) else K) (x.map (putAt k u)):=by
 induction r with
 |nil=>exact .nil
 | @cons p q P Q h t i=>
  rw[Hr,Hr]
  refine .cons ?_ i
  obtain⟨a,c,d⟩:=h
  unfold putAt
  by_cases e:p.1=k
  ·rw[FQ e,FQ (a.symm.trans e)];exact#[a,c,R]
  ·rw[FV e,FV (λz=>e (a.trans z))];exact#[a,c,d]
theorem KT.put(r:KT H a x)(k:List bE)(h:H b=some (.tup (k.map kV)))(R:ax y u):
  KT H (aM a k y) (storedH x k b u):=by
 have e:(a.any λK=>decide (K.1=k))=(atKey x k).isSome:=by
  rw[qY,(r.val k).isSome_eq,Ma]
 unfold aM storedH
 rw[e]
 by_cases q:(atKey x k).isSome=true
 ·rw[FQ q,FQ q];exact r.repl k R
 ·rw[FV q,FV q];exact Paired.snoc r #[Z,h,R]
theorem KT.keeps{h:Hp}(r:KT H k x)(a:∀b y,H b=some (.tup y)->h b=some (.tup y)):KT h k x:=
 Paired.mapP r λ_ _ z=>#[z.1,a _ _ z.2.1,z.2.2]
section
variable {P:Program}{w:World}{H:Hp}{h:Heap}{a:Addr}
theorem xQ(o:eJ P w H h)(e:Rd H a u):aX P w H h a u:=e.ok o
theorem JA(o:eJ P w H h)(e:Rd H a (.dK k)):k.length<=sizeLine/\(a==sysModules)=false/\∃v,KV k v/\h.DictOf (a6 P w) a v:=
 show aX P w H h a (.dK k) from xQ o e
theorem Ca(o:eJ P w H h)(e:H a=some (.dK k)):k.length<=sizeLine/\(a==sysModules)=false/\∃v,KV k v/\h.DictOf (a6 P w) a v:=JA o (.inl e)
theorem Jm{k:List bE}(O:eJ P w H h)(e:H a=some (.tup (k.map kV))):(tupleKind (a6 P w)).is h k a:=by
 obtain⟨_,i,r,o,b,c,n,d⟩:=(show aX P w H h a (.tup (k.map kV)) from O a _ e)
 exact#[o,i.toArray,n,b,c,d,by simpa using Qn r]
theorem J6(O:eJ P w H h)(e:Rd H a (.dT k)):k.length<=sizeLine/\(a==sysModules)=false/\
  ∃X,KT H k X/\h.DictOfH (tupleKind (a6 P w)) a X:=by
 obtain⟨z,y,X,r,o,E,c,d,f,g,i,j⟩:=(show aX P w H h a (.dT k) from xQ O e)
 refine#[z,y,X,r,o,E,c,d,f,g,i,λx hx=>?_,j]
 have all:∀{l:List (List bE×V)} {m:List (List bE×Addr×Value)},KT H l m->∀x∈m,(tupleKind (a6 P w)).is h x.1 x.2.1:=by
  intro l m q
  induction q with
  |nil=>intro x hx;exact nomatch hx
  | @cons p q n Q b t I=>
   intro x hx
   rcases List.mem_cons.mp hx with e |hx
   ·subst e
    exact Jm O (by rw[<- b.1];exact b.2.1)
   ·exact I x hx
 exact all r x hx
theorem Cb(o:eJ P w H h)(e:H a=some (.dT k)):k.length<=sizeLine/\(a==sysModules)=false/\
  ∃x,KT H k x/\h.DictOfH (tupleKind (a6 P w)) a x:=J6 o (.inl e)
end
def dD(H:Hp)(a:Addr)(y:V)(r:Option V):Prop:=
 (∃K k,Rd H a (.dK K)/\y=kV k/\r=bh K k)∨∃K k b,Rd H a (.dT K)/\y= .ref b/\H b=some (.tup (k.map kV))/\r=bh K k
def iw(H:Hp)(a:Addr)(y v:V)(h:Hp):Prop:=
 (∃K k,H a=some (.dK K)/\y=kV k/\K.length < sizeLine/\h=af H a (.dK (aM K k v)))∨
 ∃K k b,H a=some (.dT K)/\y= .ref b/\H b=some (.tup (k.map kV))/\K.length < sizeLine/\h=af H a (.dT (aM K k v))
theorem dD.k{H:Hp}{k:bE}(e:H a=some (.dK b)):dD H a (kV k) (bh b k):=.inl #[b,k,.inl e,Z,Z]
theorem iw.k{H:Hp}{k:bE}(e:H a=some (.dK b))(h:b.length < sizeLine):iw H a (kV k) v (af H a (.dK (aM b k v))):=.inl #[b,k,e,Z,h,Z]
section
variable {X:Cx}{pins:List (Addr×Obj)}{σ:St}{H:Hp}{s:Shared}{a:Addr}{y v:V}{u r:Value}{o:Option V}{A:Around}{E:Value->Shared->Prop}
theorem ap.big(I:ap X pins σ H s):sysModules < s.heap.objs.size:=by
 have h:mainGlobals < s.heap.objs.size:=(I.mod.glob.keeps I.bk).lt
 exact Nat.lt_trans MO h
theorem ZE{Q:Value->Shared->Prop}(m:A.units+1 < cLine)(I:ap X pins σ H s)(g:dD H a y (some v))(j:ax y u)(h:∀W S,ap X pins σ H S->ax v W->Q W S):
  wpAny (model X.prog X.w) A (getItem (.ref a) u) Q E s:=by
 rcases g with ⟨K,k,e,d,l⟩ | ⟨K,k,b,e,d,n,l⟩
 ·subst d
  obtain⟨z,q,t,R,D⟩:=JA I.hok e
  obtain⟨W,f,c⟩:=dM.some_of (v:=v) (o:=valueAt t k) (by rw[l];exact R.val k)
  exact wpAny_getItem_of (J5 j) D.mapOf f (h W _ (I.tok _) c)
 ·subst d
  cases (show u=Value.ref b from j)
  obtain⟨z,q,x,R,D⟩:=J6 I.hok e
  obtain⟨W,f,c⟩:=dM.some_of (v:=v) (o:=(atKey x k).map (·.2)) (by rw[l];exact R.val k)
  obtain⟨p,B,i⟩:=Option.map_eq_some_iff.mp f
  refine wpAny_getItem_heap (IR m) (Jm I.hok n) D B ?_
  rw[i]
  exact h W _ (I.tok _) c
theorem D2{Q:Value->Shared->Prop}(i:A.units+1 < cLine)(I:ap X pins σ H s)(g:dD H a y o)(f:ax y u)(h:∀S,ap X pins σ H S->Q (.bool o.isSome) S):
  wpAny (model X.prog X.w) A (compareOp .In u (.ref a)) Q E s:=by
 rcases g with ⟨K,k,e,c,l⟩ | ⟨K,k,b,e,c,j,l⟩
 ·subst c
  obtain⟨z,d,m,R,D⟩:=JA I.hok e
  refine wpAny_in_of (J5 f) d D.mapOf ?_
  rw[<- (R.val k).isSome_eq,<- l]
  exact h _ (I.tok _)
 ·subst c
  cases (show u=Value.ref b from f)
  obtain⟨z,d,x,R,D⟩:=J6 I.hok e
  refine wpAny_in_heap (IR i) (Jm I.hok j) d D ?_
  have q:=(R.val k).isSome_eq
  rw[Ma]at q
  rw[<- q,<- l]
  exact h _ (I.tok _)
theorem uM{Q:Value->Shared->Prop}(i:A.units+1 < cLine)(I:ap X pins σ H s)(g:dD H a y o)(f:ax y u)(h:∀S,ap X pins σ H S->Q (.bool (!o.isSome)) S):
  wpAny (model X.prog X.w) A (compareOp .NotIn u (.ref a)) Q E s:=by
 rcases g with ⟨K,k,e,c,l⟩ | ⟨K,k,b,e,c,j,l⟩
 ·subst c
  obtain⟨z,d,m,R,D⟩:=JA I.hok e
  refine wpAny_notIn_of (J5 f) d D.mapOf ?_
  rw[<- (R.val k).isSome_eq,<- l]
  exact h _ (I.tok _)
 ·subst c
  cases (show u=Value.ref b from f)
  obtain⟨z,d,x,R,D⟩:=J6 I.hok e
  refine wpAny_notIn_heap (IR i) (Jm I.hok j) d D ?_
  have q:=(R.val k).isSome_eq
  rw[Ma]at q
  rw[<- q,<- l]
  exact h _ (I.tok _)
theorem YT(I:ap X pins σ H s)(m:BL (H a))(c:Heap.SameBut a s.heap h)(d:∃q,h.get? a=some q)(n:aX X.prog X.w (af H a O) h a O):
  ap X pins σ (af H a O) { s with heap:=h,toks:=t }:=
 I.write (x:=a) (e:=a) m (.inl Z) (λb q f z=>(c.2 b f).trans z) d n
theorem XU{P:Program}{h:Heap}{k:List (bE×V)}(z:k.length<=sizeLine)(c:(a==sysModules)=false)(R:KV k b)(d:h.DictOf (a6 P w) a b):
  aX P w e h a (.dK k):=#[z,c,b,R,d]
theorem ZF{Q:Unit->Shared->Prop}(J:A.units+1 < cLine)(I:ap X pins σ H s)(g:iw H a y v L)(x:ax y u)(B:ax v r)(h:∀S,ap X pins σ L S->Q () S):
  wpAny (model X.prog X.w) A (setItem (.ref a) u r) Q E s:=by
 rcases g with ⟨K,k,e,i,l,j⟩ | ⟨K,k,b,e,i,C,l,j⟩
 ·subst i j
  obtain⟨z,m,M,R,D⟩:=Ca I.hok e
  have n:M.length<=sizeLine:=by rw[<- R.length];exact z
  have p:(aM K k v).length<=sizeLine:=by have:=qp K k v;omega
  refine wpAny_setItem_pairs (hsz:=n) (J5 x) D λF d t=>h _ ?_
  have N:∃q,F.get? a=some q:=let #[q,_,_,f,_]:=d;#[q,f]
  exact YT I (by rw[e];exact True.intro) t N (XU p m (R.put k B) d)
 ·subst i j
  cases (show u=Value.ref b from x)
  obtain⟨z,m,O,R,D⟩:=Cb I.hok e
  have n:O.length<=sizeLine:=by rw[<- Paired.length R];exact z
  have p:(aM K k v).length<=sizeLine:=by have:=qp K k v;omega
  refine wpAny_setItem_heap (hsz:=n) (IR J) (Jm I.hok C) D λF d t=>h _ ?_
  obtain⟨q,P,T,f,U,W,Y,_,h5⟩:=d
  refine YT I (by rw[e];exact True.intro) t #[q,f] #[p,m,_,(R.put k C B).keeps λc ys G=>?_,q,P,T,f,U,W,Y,h5]
  rw[jk (jO G e (λz=>nomatch z))]
  exact G
end
def BM(i:Expr):Prop:=∀o I,subscripted i false o I=operate [o,I] (getItem o I)
theorem wK{id:String}
  (k:typeLookup (.type T) "__getitem__"=pure (some (.builtin id))) (l:BM a)
  (h:wpAny (model p w) A (eval v e) (λo b=>wpAny (model p w) A (eval a e) (λi S=>S.TypeIs o T/\wpAny (model p w) A (getItem o i) Q E S) E b) E s):
  wpAny (model p w) A (eval (.Subscript v a m) e) Q E s:=by
 refine Subscript_ (GY h (λo b d=>GY d (λi S H=>?_) λ_ _ x=>x) λ_ _ x=>x)
 obtain⟨j,H⟩:=H
 unfold subscriptTail
 refine Ft ?_
 rw[getitemInPython_of_ne j.not_modules]
 refine Ft (Hz j k ?_)
 have f:wpAny (model p w) A (subscripted a false o i) (λr c=>wpAny (model p w) A (letTemporaryGo v o r >>= λ_=>pure r) Q E c) E S:=by
  rw[l o i]
  exact wpAny_operating (GY H (λr c g=>Ft (wpAny_letTemporaryGo (Fv g))) λ_ _ x=>x)
 first
  |exact Fv (Ft f)
  |exact Ft (Fv (Ft f))
  |exact Ft f
theorem XC{X:Cx}(I:ap X p c H s)(g:dD H a y o):s.TypeIs (.ref a) "dict":=by
 rcases g with ⟨K,k,e,_,_⟩ | ⟨K,k,b,e,_,_,_⟩
 ·obtain⟨_,_,v,_,d⟩:=JA I.hok e
  exact d.typeIs
 ·obtain⟨_,_,x,_,d⟩:=J6 I.hok e
  exact d.typeIs
def Do(t T:TE):TE:=λb H Q=>t b H λx c=>T b c λy h=>∃a v,x= .ref a/\dD h a y (some v)/\Q v h
def Ex(t T:TE):TE:=λb H Q=>t b H λy c=>T b c λx h=>∃a o,x= .ref a/\dD h a y o/\Q (.bl o.isSome) h
def wN(t T:TE):TE:=λb H Q=>t b H λy c=>T b c λx h=>∃a o,x= .ref a/\dD h a y o/\Q (.bl (!o.isSome)) h
def rP(t T c:TE):TS:=λD b H=>c b H λv d=>t b d λx e=>T b e λy f=>∃a h,x= .ref a/\iw f a y v h/\D.nx b h
section
variable {X:Cx}{o i e value:Expr}{pos pos' tpos:Pos}{td ty tv:TE}
theorem vU(d:X.A.units+1 < cLine)(f:PE X o td)(j:PE X i ty)(k:BM i):PE X (.Subscript o i pos) (Do td ty):=by
 intro p s b H Q I h
 refine wK PySem.F.slot_dict_getitem.lookup k (aW (f p s b H _ I h) λu S #[x,l,m,R,q]=>aW (j p S b l _ m q) λC D z=>?_)
 obtain⟨y,n,c,t,a,v,E,g,w⟩:=z
 subst E
 obtain rfl:u=Value.ref a:=R
 exact#[XC c g,ZE d c g t λW G B r=>#[v,n,B,r,w]]
theorem AC(c:X.A.units+1 < cLine)(d:PE X i ty)(f:PE X o td):PC X .In i o (Ex ty td):=by
 intro p s b H Q I h
 refine aW (d p s b H _ I h) λv S #[y,j,k,r,q]=>aW (f p S b j _ k q) λu w z=>?_
 obtain⟨x,l,m,R,a,O,E,g,n⟩:=z
 subst E
 obtain rfl:u=Value.ref a:=R
 exact D2 c m g r λB t=>#[.bl O.isSome,l,t,Z,n]
theorem ZG(c:X.A.units+1 < cLine)(d:PE X i ty)(f:PE X o td):PC X .NotIn i o (wN ty td):=by
 intro p s b H Q I h
 refine aW (d p s b H _ I h) λv S #[y,j,k,r,q]=>aW (f p S b j _ k q) λu w z=>?_
 obtain⟨x,l,m,R,a,O,E,g,n⟩:=z
 subst E
 obtain rfl:u=Value.ref a:=R
 exact uM c m g r λB t=>#[.bl (!O.isSome),l,t,Z,n]
theorem zH(c:X.A.units+1 < cLine)(d:PE X o td)(f:PE X i ty)(j:PE X value tv)(k:swapsWith value (some (.Subscript o i pos')) pos.line X.env=pure false):
  PS X (.Assign [.Subscript o i pos'] value pos) (rP td ty tv):=by
 intro p s b H D I h
 refine wpAny_Assign_Subscript (aW (j p s b H _ I h) λr S #[v,l,m,R,q]=>aW (d p S b l _ m q) λu n #[x,t,w,B,Q]=>aW (f p n b t _ w Q) λL M z=>?_) k
 obtain⟨y,N,C,E,a,F,G,g,J⟩:=z
 subst G
 obtain rfl:u=Value.ref a:=B
 exact ZF c C g E R λO K=>#[b,F,K,J]
end
theorem oV{P:Program}(h:Heap)(a:sysModules < h.objs.size):aX P w H (h.push { cls:=.type "dict",data:=.dict (List.toArray []) }) h.objs.size (.dK []):=
 #[FN _,beq_eq_false_iff_ne.mpr (Gp (FJ a)),[],.nil,Heap.DictOf.new h]
def Bj:TE:=λ_ H Q=>∀p,H p=none->Q (.ref p) (af H p (.dK []))
section
variable {X:Cx}{pos:Pos}
theorem Ko:PE X (.Dict [] [] pos) Bj:=λp s b H Q I h=>
 wpAny_Dict_empty #[.ref s.heap.objs.size,_,I.laid (a:=s.heap.objs.size) (o:=.dK []) (t':=s.toks) (λ_ _ q=>Fx _ q) (Fz _) (oV s.heap I.big),Z,h _ (I.hok.fresh (Fz _))]
end
noncomputable def db(k m:List (bE×V)):List (bE×V):=m.foldl (λa K=>aM a K.1 K.2) k
theorem KV.merge:∀{m:List (bE×V)} {R:List (bE×Value)} {k:List (bE×V)} {v:List (bE×Value)},KV m R->KV k v->KV (db k m) (merged v R):=by
 intro m R k v r
 unfold KV at r
 induction r generalizing k v with
 |nil=>intro q;exact q
 | @cons p q P Q h t i=>
  intro a
  have e:KV (aM k p.1 p.2) (stored v q.1 q.2):=by
   have:=a.put p.1 h.2
   rw[<- h.1];exact this
  exact i e
theorem qC:∀(m k:List (bE×V)),(db k m).length<=k.length+m.length
 | [],k=>by show k.length<=k.length+0;omega
 |p::r,k=>by
  have h:=qC r (aM k p.1 p.2)
  have H:=qp k p.1 p.2
  show(db (aM k p.1 p.2) r).length<=_
  rw[Gi];omega
structure M2(X:Cx)(o:Expr)(m:Str)(apos:Pos)(e f:Expr)(cpos:Pos):Prop where
 base:attributeBase o m X.env (eval o X.env)=eval o X.env
 few:((backTo cpos (starEach [e,f] X.env)).all (λx=>!x.1)&&(backToKw cpos (keywordEach [] X.env)).all (λx=>x.1.isSome)
  &&decide (([e,f]:List Expr).length+([]:List Keyword).length+(if ([]:List Keyword).isEmpty then 0 else 1) < 30))=true
 line:(apos.endLine==cpos.line)=true
 trees:backTo cpos (starEach [e,f] X.env)=[(false,eval e X.env),(false,eval f X.env)]
def EG(H:Hp)(a:Addr):Prop:=(∃k,Rd H a (.dK k))∨∃k,Rd H a (.dT k)
theorem yK{X:Cx}(I:ap X p g H s)(d:EG H a):
  s.TypeIs (.ref a) "dict"/\(∀b,Value.ref a= .ref b->∃o,s.heap.get? b=some o/\o.dict=none)/\(a==sysModules)=false:=by
 rcases d with ⟨k,e⟩ | ⟨k,e⟩
 ·obtain⟨_,h,v,_,D⟩:=JA I.hok e
  refine#[D.typeIs,λb q=>?_,h]
  cases q
  obtain⟨o,_,_,c,f,_⟩:=D
  exact#[o,c,f.2.1]
 ·obtain⟨_,h,x,_,D⟩:=J6 I.hok e
  refine#[D.typeIs,λb q=>?_,h]
  cases q
  obtain⟨o,_,_,c,f,_⟩:=D
  exact#[o,c,f.2.1]
section
variable {X:Cx}{pins:List (Addr×Obj)}{σ:St}{H:Hp}{s:Shared}{a:Addr}{y d:V}{u r:Value}{o:Option V}{A:Around}{E:Value->Shared->Prop}
theorem yw{Q:Value->Shared->Prop}(m:A.units+1 < cLine)(I:ap X pins σ H s)(g:dD H a y o)(i:ax y u)(j:ax d r)(h:∀W S,ap X pins σ H S->ax (o.getD d) W->Q W S):
  wpAny (model X.prog X.w) A (call (.builtin "dict.get") [.ref a,u,r]) Q E s:=by
 rcases g with ⟨K,k,e,c,l⟩ | ⟨K,k,b,e,c,n,l⟩
 ·subst c
  obtain⟨z,f,v,R,D⟩:=JA I.hok e
  refine call_meetsIn LD D.typeIs PySem.F.entry_dict_get (MK _ _ _) (meets_dict_get_default (a6 X.prog X.w) a (J5 i) f r) #[_,D.mapOf,h _ _ (I.tok _) ?_]
  rw[l]
  exact(R.val k).getD j
 ·subst c
  cases (show u=Value.ref b from i)
  obtain⟨z,f,x,R,D⟩:=J6 I.hok e
  refine call_meetsIn LD D.typeIs PySem.F.entry_dict_get (MK _ _ _) (meetsH_dict_get_default (tupleKind (a6 X.prog X.w)) a b f r) #[IR m,k,x,Jm I.hok n,D,h _ _ (I.tok _) ?_]
  rw[l]
  exact(R.val k).getD j
end
def Bi(t T d:TE):TE:=λb H Q=>t b H λx h=>∃a,x= .ref a/\EG h a/\T b h λy e=>d b e λz c=>∃o,dD c a y o/\Q (o.getD z) c
section
variable {X:Cx}{o e f:Expr}{apos cpos:Pos}{td ty tx:TE}
theorem qm(j:X.A.units+1 < cLine)(k:PE X o td)(l:PE X e ty)(n:PE X f tx)(m:M2 X o "get" apos e f cpos):PE X (.Call (.Attribute o "get" apos) [e,f] [] cpos) (Bi td ty tx):=by
 intro p s b H Q I h
 refine wpAny_Call_method m.base m.few m.line PySem.F.plainAttrs_dict LD PySem.F.type_dict_get (aW (k p s b H _ I h) λu S c=>?_)
 obtain⟨x,q,i,R,a,E,d,t⟩:=c
 subst E
 obtain rfl:u=Value.ref a:=R
 obtain⟨T,v,_⟩:=yK i d
 refine#[T,v,?_]
 rw[m.trees]
 refine LP Z (Calls.evalArgs_plain (Ia (aW (l p S b q _ i t) λO w #[y,B,C,D,G]=>
  Ia (aW (n p w b B _ C G) λP U #[z,J,K,L,V,g,M]=>Iy ?_))))
 exact yw j K g D L λW Y N r=>#[_,J,N,r,M]
end
section
variable {X:Cx}{pins:List (Addr×Obj)}{σ:St}{H:Hp}{s:Shared}{a:Addr}{kvs:List (bE×V)}{A:Around}{E:Value->Shared->Prop}
theorem oQ{Q:Value->Shared->Prop}(I:ap X pins σ H s)(e:Rd H a (.dK kvs))(h:∀p S,H p=none->ap X pins σ (af H p (.dK kvs)) S->Q (.ref p) S):wpAny (model X.prog X.w) A (call (.type "dict") [.ref a]) Q E s:=by
 obtain⟨z,f,v,r,D⟩:=JA I.hok e
 refine kt_call_dict f D (by rw[<- r.length];exact z) λi d g=>?_
 refine h _ _ (I.hok.fresh (Fz _)) (I.laid (a:=s.heap.objs.size) (o:=.dK kvs) (t':=s.toks) (λb q c=>?_) (Fz _) (XU z (beq_eq_false_iff_ne.mpr (Gp (FJ I.big))) r d))
 exact(g.2 b (FJ (FF c))).trans (Fx _ c)
end
section
variable {X:Cx}{pins:List (Addr×Obj)}{σ:St}{H:Hp}{s:Shared}
theorem Qo:eG X (.type "dict") (λx H Q=>∃a k,x=[.ref a]/\H a=some (.dK k)/\∀p,H p=none->Q (.ref p) (af H p (.dK k))):=by
 intro pins s σ H x U Q I r h
 obtain⟨a,k,rfl,b,q⟩:=h
 obtain⟨u,rfl,R⟩:=eN r
 cases R
 exact oQ I (.inl b) λp S n i=>#[.ref p,_,i,Z,q p n]
end
section
open PySem.W PySem.Calls Builtin Builtin.ObjectAttr
variable {prog:Program}{w:World}{A:Around}{E:Value->Shared->Prop}{s:Shared}{K:Frag}{x C:Addr}{ox:Obj}{od:Option Obj}{name:Str}
structure oG(K:Frag)(C:Addr):Prop where
 ga:findIn K (.ref C) "__getattribute__"=some (some (.builtin "BaseException.__getattribute__"))
 gh:findIn K (.ref C) "__getattr__"=some none
 sa:findIn K (.ref C) "__setattr__"=some (some (.builtin "object.__setattr__"))
 cl:findIn K (.ref C) "__class__"=some (some (.builtin "object.__class__"))
 gt:specialIn K (.builtin "object.__class__") "__get__"=some (some (.builtin "getset_descriptor.__get__"))
 tk:takesIn K (.builtin "object.__class__")=some true
 mb:mroIn K C (.type "BaseException")=some true
 mo:mroIn K C (.type "object")=some true
 hd:hasDictIn K C=true
abbrev n9:List Value:=[.type "ValueError",.type "Exception",.type "BaseException",.type "object"]
end
section
open PySem.W PySem.Calls
variable {prog:Program}{w:World}{A:Around}{E:Value->Shared->Prop}{R:Result->Shared->Prop}{K:Frag}{h:Heap}{g:Array GenState}{d:Drawn}{t:Nat}{os:OsState}{C B:Addr}
theorem ZH(q:excIn K C n9 "ValueError.__new__"=true):(∃p q N r f a s sub u c D k i j m o,K.lookup C=some (excClassObj p q C N r f a s sub u c D k i j m o "ValueError.__new__")/\tailIn K n9 f=true/\nsOkIn K N=true/\nsIn K N "__init__"=some none):=by
 unfold excIn at q
 split at q
 ·rename_i D z S F
  split at q
  ·rename_i O f k i j m n o x y
   simp only[GL,beq_iff_eq,Bool.not_eq_true']at q
   obtain⟨⟨⟨⟨⟨rfl,rfl⟩,H⟩,G⟩,b⟩,e⟩:=q
   obtain⟨p,r,M,I,Q,J,s,sub,u,c,L⟩:=z
   dsimp only at x H b e
   subst x H
   have v:S=(List.toArray [k,i,j,m,some (.builtin "ValueError.__new__"),o]):=by
    obtain⟨l⟩:=S
    simp only at y
    rw[y]
   subst v
   exact#[p,Q,I,r,f,J,s,sub,u,c,D,k,i,j,m,o,F,G,b,e]
  ·cases q
 ·cases q
end
theorem aX.obj{P:Program}{a:Addr}(x:aX P w H h a o):∃u,h.get? a=some u:=by
 cases o with
 |lst X=>obtain⟨_,_,_,_,e⟩:=x;exact#[_,e]
 |tup X=>obtain⟨_,_,_,o,e,_⟩:=x;exact#[_,e]
 |dK k=>obtain⟨_,_,_,_,o,_,_,e,_⟩:=x;exact#[_,e]
 |dT k=>obtain⟨_,_,_,_,o,_,_,e,_⟩:=x;exact#[_,e]
 |set S n=>obtain⟨o,_,_,_,e,_⟩:=x;exact#[_,e]
 |ins C d F=>obtain⟨_,_,_,e,_⟩:=x;exact#[_,e]
 |own y=>obtain⟨_,e⟩:=x;exact#[_,e]
 |xd F=>obtain⟨_,⟨_,_,_,e,_⟩,_⟩:=x;exact#[_,e]
 |rng lo b=>obtain⟨_,_,_,e⟩:=x;exact#[_,e]
 |frz O u=>obtain⟨e,_⟩:=x;exact#[_,e]
 |tbl p=>exact#[_,(show h.get? a=some _ from x)]
 |met f y=>exact#[_,(show h.get? a=some _ from x)]
 |ext c=>obtain⟨_,⟨_,e⟩,_⟩:=x;exact#[_,e]
theorem ap.laidN{X:Cx}{h':Heap}{a:Addr}{o:HO}{t':Nat}(I:ap X p g H s)(k:∀b u,s.heap.get? b=some u->h'.get? b=some u)(d:s.heap.get? a=none)(N:aX X.prog X.w (af H a o) h' a o):
  H a=none/\ap X p g (af H a o) { s with heap:=h',toks:=t' }:=by
 have i:∀b u,s.heap.get? b=some u->b≠a:=λb u q z=>by rw[z,d]at q;cases q
 have h:H a=none:=by
  cases q:H a with
  |none=>rfl
  |some u=>obtain⟨U,e⟩:=(I.hok a u q).obj;rw[d]at e;cases e
 refine#[h,I.un ?_ ?_]
 ·exact { keep:=λb u q _ _ _=>k b u q,slot:=λb u q _ _ _=>#[u.slots,k b u q],free:=λb u q n _=>by rw[jk (i b u q)];exact n,there:=λb u q _=>#[u,k b u q],tups:=λb x q=>by rw[jk (jm q h)];exact q,frzs:=λb u x q=>by rw[jk (jm q h)];exact q,tbls:=λb P q=>#[(List.toArray []),by rw[jk (jm q h),q];simp] }
 ·intro b u e
  by_cases f:b=a
  ·subst f;rw[jc]at e;cases e;exact N
  ·rw[jk f]at e
   exact(I.hok b u e).stay (λc v _ q=>k c v q) (λc q=>by rw[jk (jm q h)];exact q) λc x q=>by rw[jk (jm q h)];exact q
noncomputable def xf(C:Addr)(d:Option Addr)(x:Addr):HO:=.ext λh=>∃o,h.get? x=some o/\o.cls= .ref C/\notCls o=true/\o.dict=d/\∃v,o.data= .fields v/\v[1]?=some .none
theorem yA{P:Program}{h:Heap}(e:h.get? x=some o)(a:o.cls= .ref C)(b:notCls o=true)(c:o.dict=d)(f:∃v,o.data= .fields v/\v[1]?=some .none):aX P w H h x (xf C d x):=
 #[#[o,e,a,b,c,f],#[o,e],λg i #[O,E,q] k=>#[O,k O E,q]]
def wO(C:Addr):TE:=λa H Q=>∀x,H x=none->Q (.ref x) (af H x (xf C none x))
section
variable {X:Cx}{CX:nh}{k:Nat}{f C:Addr}{fd:FuncData}{ps:List Str}{sp:Sp}{E:XK}{x m g:Str}{p pos pos':Pos}{e o value:Expr}{es:List Expr}{ta tv:TE}{t:TA}
theorem Qp(M:excIn X.K C n9 "ValueError.__new__"=true)(l:keepIn X.K (.ref C)=true)(n:Gl X x)(r:X.mg x=some (.ref C))(c:(x==("__debug__":Str))=false:=by decide):
  PE X (.Call (.Name x p) [] [] pos) (wO C):=by
 intro P s D H Q I h
 refine GZ (zg I n r ?_ c)
 refine PySem.W.callWith_K0 I.kIn l ?_
 obtain⟨G,q,N,J,L,j,S,sub,O,u,R,U,V,Y,k3,k5,v,w,b,i⟩:=ZH M
 have y:=I.kIn _ _ v
 obtain⟨hp,g,d,T,os⟩:=s
 refine wpAny_call_exc_subT PySem.F.excBase_ValueError (PySem.W.tail_of_in I.kIn w) y (.of_isNs (PySem.W.isNs_of_in I.kIn b)) (PySem.W.nsMap_none_of_in I.kIn b i) (λh' e m=>?_) (FN _)
 obtain⟨t,z,_,_⟩:=m.there
 obtain⟨A,B⟩:=I.laidN (a:=e) (h':=h') (o:=xf C none e) (t':=T) m.keeps m.new (yA z Z Z Z #[_,Z,Z])
 exact#[.ref e,_,B,Z,h e A]
end
theorem ap.turnedN{X:Cx}{p:List (Addr×Obj)}{d:St}{H:Hp}{s:Shared}{g:Heap}{t':Nat}{f:List Addr}(I:ap X p d H s)(a:∀b∈f,fc X p H b)(k:∀b o,b∉f->s.heap.get? b=some o->g.get? b=some o):
  ap X p d H { s with heap:=g,toks:=t' }:=by
 have N:∀b u,H b=some u->b∉f:=λb u e z=>by rw[(a b z).1]at e;cases e
 refine I.step (g':=s.gens) (d':=s.drawn) (ch:=f) (λb i=>?_) (λb o _ _ h e _=>k b o h e) (λb o _ _ h e _=>#[o.slots,k b o h e]) (λ_ _ _ _ n=>n)
  (λb o h e=>#[o,k b o h e]) (λ_ _ e=>e) (λ_ _ _ e=>e) (λb P e=>#[(List.toArray []),by rw[e];simp]) (λm j=>?_) (λb u e=>?_) I.bare
 ·obtain⟨A,F,B,l,t,w⟩:=a b i
  exact#[l,F,t,w]
 ·obtain⟨o,E,x,y,r⟩:=j
  exact#[o,E,x,k _ o (λz=>(a _ z).2.1 Z) y,r]
 ·refine(I.hok b u e).stay (λc v h q=>k c v ?_ q) (λ_ q=>q) λ_ _ q=>q
  rcases h with z |z
  ·rw[z];exact N b u e
  ·exact N c _ z
section
variable {M:Model}{A:Around}{E:Value->Shared->Prop}{s:Shared}
structure c8(fl:Value)(iB:List Addr)(x:Addr)(ox:Obj)(h h':Heap):Prop where
 ex:∃T oT ts,h.objs.size<=T/\h'.get? x=some (Obj.mapFields (·.setIfInBounds 1 (.ref T)) ox)/\h'.get? T=some oT/\oT.data= .fields ts/\ts[3]?=some fl
 keep:∀b o,b∉iB->b≠x->h.get? b=some o->h'.get? b=some o
 slot:∀b o,b≠x->h.get? b=some o->∃sl,h'.get? b=some { o with slots:=sl }
theorem Qq{Q:Unit->Shared->Prop}
  (t:A.frames=some (d::O)) (F:s.heap.FunFrames G (d::O)) (N:d.frame=some L)
  (I:s.heap.get? x=some u) (v:u.data= .fields J) (w:1 < J.size)
  (h:∀K,c8 (rawInt L) ((d::O).filterMap (·.frame)) x u s.heap K->Q () { s with heap:=K }):
  wpAny M A (do let a <- frameOf d;let p <- entryPlaceOf L q;let b <- EntryCells.newEntry f a .none (rawInt L) .none p;setField (.ref x) 1 b) Q E s:=by
 have y:x∉(d::O).filterMap (·.frame):=λP=>by
  obtain⟨_,o,r,z⟩:=F.mem P
  rw[I]at r;injection r with r;subst r;exact z J v
 refine Ft (wpAny_frameOf_fun t F N λH c=>?_)
 refine Ft (wpAny_entryPlaceOf λp B=>?_)
 unfold EntryCells.newEntry newFields
 refine Ft (Gu ?_ (B.sizeOk5 _ _ _ _ _))
 have g:H.get? x=some u:=(c.2.1 x y).trans I
 have i:=Fx (h:=H) { cls:=.type "traceback",dict:=none,data:=.fields ([f,.ref L,.none,rawInt L,.none]++(if p.isEmpty then List.replicate 6 Value.none else p)).toArray } g
 refine GG i v w (h _ ?_)
 have C:H.objs.size≠x:=GJ (FF g)
 have j:=Go v (·.setIfInBounds 1 (Value.ref H.objs.size))
 have l:=Gs (Obj.mapFields (·.setIfInBounds 1 (Value.ref H.objs.size))) i (He j)
 have k:∀b o,b≠x->H.get? b=some o->((H.push { cls:=.type "traceback",dict:=none,data:=.fields ([f,.ref L,.none,rawInt L,.none]++(if p.isEmpty then List.replicate 6 Value.none else p)).toArray }).update x (Obj.mapFields (·.setIfInBounds 1 (Value.ref H.objs.size)))).get? b=some o:=λb o D e=>by
  rw[FP _ _ (Gp D)]
  exact Fx _ e
 have m:=(FP (H.push { cls:=.type "traceback",dict:=none,data:=.fields ([f,.ref L,.none,rawInt L,.none]++(if p.isEmpty then List.replicate 6 Value.none else p)).toArray })
  (Obj.mapFields (·.setIfInBounds 1 (Value.ref H.objs.size))) (Gp C)).trans (FG H Z)
 refine#[#[H.objs.size,_,_,Md c.1.symm,l,m,Z,MQ],λb o D n e=>k b o n ((c.2.1 b D).trans e),λb o n e=>?_]
 obtain⟨S,R⟩:=c.2.2 b o e
 exact#[S,k b _ n R]
theorem Yc{Q:Unit->Shared->Prop}
  (H:A.frames=some (e::o)) (i:s.heap.FunFrames b (e::o)) (a:e.frame=some L)
  (c:s.heap.get? x=some O) (d:O.data= .fields v) (f:v[1]?=some .none)
  (h:∀g,c8 (rawInt L) ((e::o).filterMap (·.frame)) x O s.heap g->Q () { s with heap:=g }):
  wpAny M A (noteFrame (.ref x) e) Q E s:=by
 unfold noteFrame
 simp only[a]
 refine Ft (Gb c d f ?_)
 rw[FV MO]
 exact Qq H i a c d (Array.getElem?_eq_some_iff.mp f).1 h
theorem yP{iB:List Addr}{Q:Unit->Shared->Prop}(N:c8 C iB x O H s.heap)(j:H.get? x=some O)(v:O.data= .fields w)(k:1 < w.size)
  (h:∀p,c8 .none iB x O H p->Q () { s with heap:=p }):wpAny M A (setFlight (.ref x) none) Q E s:=by
 obtain⟨T,D,F,c,r,t,g,y⟩:=N.ex
 have l:=Go v (·.setIfInBounds 1 (Value.ref T))
 have m:T≠x:=λz=>absurd (FM (FF j) (by rw[<- z];exact c)) (G7 _)
 unfold setFlight
 refine Ft (Gb r l (x:=.ref T) (by simp [k]) ?_)
 rw[FQ (show(Value.ref T != Value.none)=true from by simp)]
 have i:=(Array.getElem?_eq_some_iff.mp y).1
 refine GG t g i (h _ ?_)
 have a:=Go g (·.setIfInBounds 3 ((none:Option Addr).elim Value.none λf=>rawInt f))
 have n:=Gs (Obj.mapFields (·.setIfInBounds 3 ((none:Option Addr).elim Value.none λf=>rawInt f))) t (He a)
 have u:∀b o,H.get? b=some o->T≠b:=λb o e z=>absurd (FM (FF e) (by rw[<- z];exact c)) (G7 _)
 refine#[#[T,_,_,c,by rw[FP _ _ m];exact r,n,a,by simp [i]],λb o B d e=>?_,λb o d e=>?_]
 ·rw[FP _ _ (u b o e)]
  exact N.keep b o B d e
 ·obtain⟨S,q⟩:=N.slot b o d e
  exact#[S,by rw[FP _ _ (u b o e)];exact q]
theorem XD{base:Heap}{Q:Unit->Shared->Prop}
  (a:A.frames=some (e::o)) (f:s.heap.FunFrames base (e::o)) (g:e.frame=some L)
  (b:s.heap.get? x=some O) (c:O.data= .fields v) (d:v[1]?=some .none)
  (h:∀H,c8 .none ((e::o).filterMap (·.frame)) x O s.heap H->Q () { s with heap:=H }):
  wpAny M A (leaving e (.ref x)) Q E s:=by
 unfold leaving
 exact Ft (Yc a f g b c d λH N=>yP (s:={ s with heap:=H }) N b c (Array.getElem?_eq_some_iff.mp d).1 h)
end
section
variable {M:Model}{A:Around}{E:Value->Shared->Prop}{s:Shared}
noncomputable abbrev dQ(T:Addr)(h:Heap):Heap:=h.update T (Obj.mapFields (·.setIfInBounds 3 Value.none))
theorem Qr{base:Heap}{Q:Unit->Shared->Prop}
  (f:A.frames=some (e::O)) (w:s.heap.FunFrames base (e::O)) (j:e.frame=some L)
  (k:s.heap.get? x=some l) (m:l.data= .fields v) (p:v[1]?=some (.ref T)) (g:T≠x) (i:s.heap.get? T=some y) (c:y.data= .fields t) (r:t[3]?=some .none)
  (h:∀u,c8 (rawInt L) ((e::O).filterMap (·.frame)) x l (dQ T s.heap) u->Q () { s with heap:=u }):
  wpAny M A (noteFrame (.ref x) e) Q E s:=by
 unfold noteFrame
 simp only[j]
 refine Ft (Gb k m p ?_)
 rw[FQ (show(Value.ref T != Value.none)=true from by simp)]
 refine Ft (Gb i c r ?_)
 rw[FV (show ¬((Value.none==rawInt L)=true) from by simp [rawInt])]
 refine Ft (GG i c (Array.getElem?_eq_some_iff.mp r).1 ?_)
 have a:∀b,b≠T->(dQ T s.heap).get? b=s.heap.get? b:=λb H=>FP _ _ (Gp H)
 have n:∀b o,s.heap.get? b=some o->(∀v,o.data≠ .fields v)->b≠T:=λb o H d q=>by
  rw[q,i]at H;injection H with H;subst H;exact d t c
 exact Qq (s:={ s with heap:=dQ T s.heap }) f (w.of_keeps λb o H d=>#[o,(a b (n b o H d)).trans H,Z]) j ((a x (Gp g)).trans k) m (Array.getElem?_eq_some_iff.mp p).1 h
theorem Yd{base:Heap}{Q:Unit->Shared->Prop}
  (b:A.frames=some (e::o)) (i:s.heap.FunFrames base (e::o)) (j:e.frame=some L)
  (d:s.heap.get? x=some O) (f:O.data= .fields v) (g:v[1]?=some (.ref T)) (H:T≠x) (k:s.heap.get? T=some l) (c:l.data= .fields t) (m:t[3]?=some .none)
  (h:∀a,c8 .none ((e::o).filterMap (·.frame)) x O (dQ T s.heap) a->Q () { s with heap:=a }):
  wpAny M A (leaving e (.ref x)) Q E s:=by
 unfold leaving
 exact Ft (Qr b i j d f g H k c m λa N=>yP (s:={ s with heap:=a }) N ((FP _ _ H).trans d) f (Array.getElem?_eq_some_iff.mp g).1 h)
end
noncomputable def gB(C:Addr)(d:Option Addr)(T x:Addr):HO:=.ext λh=>∃o v,h.get? x=some o/\o.cls= .ref C/\notCls o=true/\o.dict=d/\o.data= .fields v/\v[1]?=some (.ref T)
noncomputable def fe(T:Addr):HO:=.ext λh=>∃o t,h.get? T=some o/\o.data= .fields t/\t[3]?=some .none
theorem Bo{P:Program}{h:Heap}(e:h.get? x=some o)(c:o.cls= .ref C)(f:notCls o=true)(g:o.dict=d)(i:o.data= .fields a)(b:a[1]?=some (.ref T)):aX P w H h x (gB C d T x):=
 #[#[o,a,e,c,f,g,i,b],#[o,e],λb j #[O,v,E,q] k=>#[O,v,k O E,q]]
theorem tK{P:Program}{h:Heap}(e:h.get? T=some o)(b:o.data= .fields a)(c:a[3]?=some .none):aX P w H h T (fe T):=
 #[#[o,a,e,b,c],#[o,e],λd f #[O,t,E,q] k=>#[O,t,k O E,q]]
def eO(P:Program)(w:World):nh:=λo H s E e S=>∃x C d T h,e= .ref x/\S.os=s.os/\AllBare S.gens/\Un (iB o) [] H h s.heap S.heap/\eJ P w h S.heap/\
 h x=some (gB C d T x)/\h T=some (fe T)/\T≠x/\E (.ref C) d h
section
variable {X:Cx}{pins:List (Addr×Obj)}{σ:St}{H:Hp}{s:Shared}{x C:Addr}{d:Option Addr}
theorem c8.hok{fl:Value}(I:ap X pins σ H s)(g:H x=some (.ext M))(P:s.heap.get? x=some o)(B:o.cls= .ref C)(D:o.dict=d)(j:o.data= .fields E)(k:1 < E.size)(l:∀b∈G,H b=none)
  (N:c8 .none G x o s.heap J):∃T,H T=none/\T≠x/\s.heap.objs.size<=T/\eJ X.prog X.w (af (af H T (fe T)) x (gB C d T x)) J:=by
 obtain⟨T,Q,R,h,m,F,n,p⟩:=N.ex
 have i:H T=none:=I.hok.fresh h
 have r:T≠x:=Gp (jm g i)
 have a:=Go j (·.setIfInBounds 1 (Value.ref T))
 refine#[T,i,r,h,λb u e=>?_]
 by_cases t:b=x
 ·subst t
  rw[jc]at e
  cases e
  refine Bo m ((IX _ _).trans B) ?_ ?_ a (by simp [k])
  ·unfold notCls
   rw[a]
  ·obtain⟨S,U,O,K⟩:=o
   simp only at j
   subst j
   exact D
 ·rw[jk t]at e
  by_cases f:b=T
  ·subst f
   rw[jc]at e
   cases e
   exact tK F n p
  ·rw[jk f]at e
   refine(I.hok b u e).stay (λc v A q=>?_) (λc q=>?_) λc V q=>?_
   ·have y:c≠x:=by
     rcases A with z |z
     ·rw[z];exact t
     ·exact jO z g (by intro q;cases q)
    refine N.keep c v (λL=>?_) y q
    have:=l c L
    rcases A with z |z
    ·rw[z,e]at this;cases this
    ·rw[z]at this;cases this
   ·rw[jk (jO q g (by intro z;cases z)),jk (jm q i)]
    exact q
   ·rw[jk (jO q g (by intro z;cases z)),jk (jm q i)]
    exact q
theorem c8.un{h':Heap}(I:ap X pins σ H s)(hex:X.ex=[])(j:H x=some (.ext k))(l:H T=none)(c:s.heap.objs.size<=T)(f:∀b∈p,b∈X.fs∨X.s₀.heap.objs.size<=b)
  (N:c8 .none p x y s.heap h'):Un X.fs [] X.H₀ (af (af H T (fe T)) x (gB C d T x)) X.s₀.heap h':=by
 have g:∀b,H b=none->b≠x:=λb e z=>by rw[z,j]at e;cases e
 have r:∀b o,X.s₀.heap.get? b=some o->b≠T:=λb o e=>FJ (FM (FF e) (FL I.sz c))
 have a:∀b:Addr,b∉X.ex:=λb z=>by rw[hex]at z;cases z
 have t:∀b,H b=none->b≠T->af (af H T (fe T)) x (gB C d T x) b=none:=λb e z=>by rw[jk (g b e),jk z];exact e
 have U:∀b u,H b=some u->(∀k,u≠ .ext k)->af (af H T (fe T)) x (gB C d T x) b=some u:=λb u e z=>by
  rw[jk (λq=>by rw[q,j]at e;cases e;exact z _ Z),jk (jm e l)]
  exact e
 refine#[λb o e n h _=>?_,λb o e n h _=>?_,λb o e n _=>?_,λb o e _=>?_,λb v e=>U b _ (I.base.tups b v e) (by intro _ q;cases q),λb o u e=>U b _ (I.base.frzs b o u e) (by intro _ q;cases q),λb P e=>?_]
 ·refine N.keep b o (λz=>?_) (g b (I.base.free b o e n (a b))) (I.base.keep b o e n h (a b))
  rcases f b z with q |q
  ·exact h q
  ·exact absurd (FM (FF e) q) (G7 _)
 ·obtain⟨w,q⟩:=I.base.slot b o e n h (a b)
  obtain⟨S,Q⟩:=N.slot b _ (g b (I.base.free b o e n (a b))) q
  exact#[S,Q]
 ·exact t b (I.base.free b o e n (a b)) (r b o e)
 ·obtain⟨O,q⟩:=I.base.there b o e (a b)
  by_cases h:b=x
  ·obtain⟨A,_,_,_,i,_⟩:=N.ex
   exact#[_,by rw[h];exact i]
  ·obtain⟨w,Q⟩:=N.slot b O h q
   exact#[_,Q]
 ·obtain⟨m,q⟩:=I.base.tbls b P e
  exact#[m,U b _ q (by intro _ q;cases q)]
end
section
variable {P:Program}{w:World}{K:Frag}{mg:Str->Option Value}{base:Heap}{N:List Str}{qual:Str}{scope:Scope}{f:Addr}{cd:Value}{A:Around}{outer:List Env}{s₀:Shared}{H₀:Hp}{E:XK}
variable {pins:List (Addr×Obj)}{σ:St}{H:Hp}{s:Shared}{x C:Addr}{d:Option Addr}
theorem ua(I:ap (ff (eO P w) P w K mg base N qual scope f cd A outer s₀ H₀ E) pins σ H s)(c:H x=some (xf C d x))
  (h:∀T,H T=none->E (.ref C) d (af (af H T (fe T)) x (gB C d T x))):(ff (eO P w) P w K mg base N qual scope f cd A outer s₀ H₀ E).xe (.ref x) s:=by
 obtain⟨⟨O,l,q,t,r,v,m,n⟩,_⟩:=I.hok x _ c
 have g:=(Array.getElem?_eq_some_iff.mp n).1
 refine XD (base:=base) I.ok.frames I.stack Z l m n λy o=>?_
 obtain⟨T,p,a,i,j⟩:=o.hok (C:=C) (d:=d) (fl:=.none) I c l q r m g λb k=>I.stkFree b k
 have u:=o.un (C:=C) (d:=d) I Z c p i λb k=>by
  rcases List.mem_cons.mp (I.stkSub b k) with e |e
  ·exact .inr (by rw[e];exact I.ok.above)
  ·exact .inl e
 exact#[x,C,d,T,_,Z,I.os,I.bare,u,j,jc,by rw[jk a,jc],a,h T p]
theorem ap.cleared{X:Cx}(I:ap X pins σ H s)(c:H T=some (fe T))(i:s.heap.get? T=some O)(j:O.data= .fields t)(k:t[3]?=some .none):ap X pins σ H { s with heap:=dQ T s.heap }:=by
 have h:=Go j (·.setIfInBounds 3 Value.none)
 have g:=Gs (Obj.mapFields (·.setIfInBounds 3 Value.none)) i (He h)
 have:=I.write (x:=T) (e:=T) (o:=fe T) (h':=dQ T s.heap) (t':=s.toks) (by rw[c];exact True.intro) (.inl Z) (λb u a q=>(FP _ _ (Gp a)).trans q) #[_,g] (tK g h (by simp [(Array.getElem?_eq_some_iff.mp k).1]))
 have l:af H T (fe T)=H:=by
  funext b
  by_cases a:b=T
  ·rw[a,jc,c]
  ·rw[jk a]
 rw[l]at this
 exact this
theorem wT(I:ap (ff (eO P w) P w K mg base N qual scope f cd A outer s₀ H₀ E) pins σ H s)(g:H x=some (gB C d T x))(n:H T=some (fe T))(c:T≠x)
  (h:∀t,H t=none->E (.ref C) d (af (af H t (fe t)) x (gB C d t x))):(ff (eO P w) P w K mg base N qual scope f cd A outer s₀ H₀ E).xe (.ref x) s:=by
 obtain⟨⟨O,V,o,D,G,F,p,q⟩,_⟩:=I.hok x _ g
 obtain⟨⟨J,L,r,u,v⟩,_⟩:=I.hok T _ n
 have i:=(Array.getElem?_eq_some_iff.mp q).1
 have y:=I.cleared n r u v
 refine Yd (base:=base) I.ok.frames I.stack Z o p q c r u v λM z=>?_
 have j:(dQ T s.heap).get? x=some O:=(FP _ _ c).trans o
 obtain⟨t,B,a,k,l⟩:=c8.hok (C:=C) (d:=d) (fl:=.none) y g j D F p i (λb m=>I.stkFree b m) z
 have U:=c8.un (C:=C) (d:=d) y Z g B k (λb m=>by
  rcases List.mem_cons.mp (I.stkSub b m) with e |e
  ·exact .inr (by rw[e];exact I.ok.above)
  ·exact .inl e) z
 exact#[x,C,d,t,_,Z,I.os,I.bare,U,l,jc,by rw[jk a,jc],a,h t B]
theorem vQ{j:XK}(m:∀x C d T t a,a x=some (gB C d T x)->a T=some (fe T)->a t=none->j (.ref C) d a->E (.ref C) d (af (af a t (fe t)) x (gB C d t x))):
  dm (eO P w) (ff (eO P w) P w K mg base N qual scope f cd A outer s₀ H₀ E) j:=by
 intro pins σ H s e S I h
 obtain⟨x,C,d,T,a,rfl,os,B,u,c,k,l,i,n⟩:=h
 obtain⟨p,g,D,q,o⟩:=S
 obtain rfl:o=s.os:=os
 have r:=I.call (h':=p) (g':=g) (d':=D) (t':=q) (ch:=[]) u c B (λb z=>absurd z MQ)
 exact wT r k l i λt v=>m x C d T t a k l v n
end
section
open PySem.W
variable {prog:Program}{w:World}{A:Around}{E:Value->Shared->Prop}{K:Frag}{x C:Addr}{ox:Obj}{vs:Array Value}{env:Env}
theorem Ye{ev:Sem Value}(e:A.handled=none)
  (h:wpAny (model prog w) A ev (λv S=>∃x C ox vs,v= .ref x/\K.In S.heap/\oG K C/\typeIn K (.ref C)=some (.type "type")/\S.heap.get? x=some ox/\ox.cls= .ref C/\ox.data= .fields vs/\vs[1]?=some .none/\E (.ref x) S) E s):
  wpAny (model prog w) A (raiseStmt env (some ev) none) Q E s:=by
 unfold raiseStmt
 refine Ft (GY h (λv S a=>?_) λ_ _ z=>z)
 obtain⟨x,C,ox,vs,rfl,X,f,i,b,j,c,m,n⟩:=a
 obtain⟨H,g,d,T,os⟩:=S
 have L:Looks (model prog w) H (typeOf (.ref x)) (.ref C):=j▸(Looks.ld b).andThen .now
 have l:Looks (model prog w) H (isType (.ref x)) false:=by
  intro y B D F k q
  unfold isType loadHead
  refine Ft (LW (k _ _ b) ?_)
  rw[c]
  exact Fv q
 have L2:=Mi (M:=model prog w) X f.mb
 have o:=looks_typeIn (M:=model prog w) X i
 have p:Looks (model prog w) H (isInstance (.ref x) (.type "BaseException")) true:=L.andThen L2
 have r:Looks (model prog w) H (isExcClass (.ref x)) false:=by
  unfold isExcClass
  exact l.andThen .now
 have t:Looks (model prog w) H (raisedInstance (.ref x)) (.ref x):=by
  unfold raisedInstance
  exact L.andThen (o.andThen (by rw[FQ MO];exact .now))
 have u:Looks (model prog w) H (excFromValue (.ref x) "exceptions must derive from BaseException") (.ref x):=by
  unfold excFromValue
  exact r.andThen (by rw[FV MO];exact p.andThen (by rw[FQ Z];exact .now))
 refine Ft (Fv ?_)
 refine Ft (Gc (u.at ?_))
 dsimp only
 refine Ft (l.at ?_)
 rw[FV MO]
 refine Ft (t.at ?_)
 unfold setFlight
 refine Ft (Ft (Gb b c m ?_))
 rw[FV MO]
 exact Fv (wpAny_raiseNew_none e n)
end
def xg(X:Cx)(W:Addr->Addr->Option Addr->Hp->Prop):Prop:=∀(p:List (Addr×Obj)) (a:St) (H:Hp) (s:Shared) (x C:Addr) (d:Option Addr),ap X p a H s->H x=some (xf C d x)->W x C d H->X.xe (.ref x) s
theorem Qs{P:Program}{K:Frag}:
  xg (ff (eO P w) P w K m b N q s f g A o a c E) (λx C d H=>∀T,H T=none->E (.ref C) d (af (af H T (fe T)) x (gB C d T x))):=
 λ_ _ _ _ _ _ _ I e h=>ua I e h
def A1(K:Frag)(t:TE)(W:Addr->Addr->Option Addr->Hp->Prop):TS:=λ_ a H=>t a H λv h=>∃x C d,v= .ref x/\h x=some (xf C d x)/\oG K C/\typeIn K (.ref C)=some (.type "type")/\W x C d h
theorem Xd{X:Cx}{e:Expr}{t:TE}{P:Pos}{W:Addr->Addr->Option Addr->Hp->Prop}(f:X.calm=true)(F:xg X W)(g:PE X e t):PS X (.Raise (some e) none P) (A1 X.K t W):=by
 intro p s b H D I h
 rw[arm_exec_Raise]
 refine Ft (Iu ?_)
 refine Ye (K:=X.K) (ev:=do let v <- eval e X.env;standAt P;pure v) (I.ok.hd f) (Ft (aW (g p s b H _ I h) λu S a=>Ft (Iu (Fv ?_))))
 obtain⟨v,j,i,r,x,C,d,ev,c,k,l,q⟩:=a
 subst ev
 obtain rfl:u=Value.ref x:=r
 obtain⟨⟨o,m,n,z,A,V,w,y⟩,_⟩:=i.hok x _ c
 exact#[x,C,o,V,Z,i.kIn,k,l,m,n,w,y,F p b j S x C d i c q]
section
variable {X:Cx}{pins:List (Addr×Obj)}{σ:St}{H:Hp}{s:Shared}{x C:Addr}{d:Option Addr}
theorem ap.noted{t':Nat}(I:ap X pins σ H s)(a:H x=some (.ext l))(p:s.heap.get? x=some O)(r:O.cls= .ref C)(t:O.dict=d)(v:O.data= .fields w)(c:1 < w.size)
  (N:c8 .none (iB X.stack) x O s.heap y):∃T,H T=none/\T≠x/\ap X pins σ (af (af H T (fe T)) x (gB C d T x)) { s with heap:=y,toks:=t' }:=by
 obtain⟨T,m,f,g,i⟩:=c8.hok (C:=C) (d:=d) (fl:=.none) I a p r t v c (λb h=>I.stkFree b h) N
 have j:∀b,H b=none->b≠x:=λb e z=>by rw[z,a]at e;cases e
 have U:∀b u,H b=some u->(∀l,u≠ .ext l)->af (af H T (fe T)) x (gB C d T x) b=some u:=λb u e z=>by
  rw[jk (λq=>by rw[q,a]at e;cases e;exact z _ Z),jk (jm e m)]
  exact e
 refine#[T,m,f,I.call (g':=s.gens) (d':=s.drawn) (ch:=[]) ?_ i I.bare (λb z=>absurd z MQ)]
 refine#[λb o e n h _=>N.keep b o h (j b n) e,λb o e n _ _=>N.slot b o (j b n) e,λb o e n _=>?_,λb o e _=>?_,λb A e=>U b _ e (by intro _ q;cases q),λb o u e=>U b _ e (by intro _ q;cases q),λb P e=>#[(List.toArray []),by rw[U b _ e (by intro _ q;cases q)];simp]]
 ·rw[jk (j b n),jk (FJ (FM (FF e) g))]
  exact n
 ·by_cases h:b=x
  ·obtain⟨B,_,_,_,k,_⟩:=N.ex
   exact#[_,by rw[h];exact k]
  ·obtain⟨S,q⟩:=N.slot b o h e
   exact#[_,q]
end
noncomputable abbrev Cx.mark(X:Cx)(e:Value)(xe:Value->Shared->Prop):Cx:={ X with A:=X.A.mark (some e),calm:=false,xe:=xe }
theorem ap.mark{X:Cx}(I:ap X p a H s)(e:Value)(x:Value->Shared->Prop):ap (X.mark e x) p a H s:=
 #[#[I.ok.mod,I.ok.kind,I.ok.glob,I.ok.blt,I.ok.above,I.ok.inj,I.ok.has,I.ok.cab,(λz=>nomatch (show false=true from z)),I.ok.frames,I.ok.stk,I.ok.exf,I.ok.bs,I.ok.bsz,I.ok.noex,I.ok.exfs,I.ok.funs,I.ok.frf],I.os,I.bare,I.base,I.loc,I.cell,I.free,I.freeC,I.pin,I.hok,I.len]
theorem ap.unmark{X:Cx}(o:X.Ok)(I:ap (X.mark e x) p a H s):ap X p a H s:=
 #[o,I.os,I.bare,I.base,I.loc,I.cell,I.free,I.freeC,I.pin,I.hok,I.len]
section
open PySem.W
theorem qD{K:Frag}(X:K.In h)(a:h.get? x=some o)(b:o.cls= .ref C)(H:clsIn K B≠none)(tB:typeIn K (.ref B)=some (.type "type"))(m:mroIn K B (.type "BaseException")=some true)(c:mroIn K C (.ref B)=some true):
  Looks M h (excMatches (.ref x) (.ref B)) true:=by
 have L:Looks M h (typeOf (.ref x)) (.ref C):=b▸(Looks.ld a).andThen .now
 have l:=looks_typeIn (M:=M) X tB
 have L2:Looks M h (isInstance (.ref B) (.type "tuple")) false:=l.andThen (Looks.of_pure tc_notTuple)
 have d:Looks M h (isType (.ref B)) true:=by
  unfold clsIn at H
  split at H
  ·rename_i e
   intro A Q E s k q
   unfold isType loadHead
   exact Ft (LW (k _ _ (X _ _ e)) (Fv q))
  ·exact absurd Z H
 have f:Looks M h (isExcClass (.ref B)) true:=by
  unfold isExcClass
  exact d.andThen (by rw[FQ Z];exact Mi X m)
 have g:=Mi (M:=M) X c
 intro A Q E s k q
 unfold excMatches
 refine Ft (L2 A _ E s k ?_)
 rw[FV MO]
 refine Ft (Fv ?_)
 dsimp only
 refine Ft ?_
 rw[Ht]
 refine Ft (Ft (f A _ E s k ?_))
 simp only[IA,FK,Hg]
 refine Fv ?_
 dsimp only
 rw[Is]
 refine Fv ?_
 refine Ft (L A _ E s k ?_)
 refine Ft ?_
 rw[Ht]
 refine Ft (Ft (g A _ E s k ?_))
 simp only[IL]
 refine Fv (Fv ?_)
 exact Fv q
end
abbrev XR:=Addr->Addr->Option Addr->Addr->Hp->Prop
def XW(X:Cx)(p:List (Addr×Obj))(a:St)(R:XR)(e:Value)(s:Shared):Prop:=
 ∃x C d T H,e= .ref x/\ap X p a H s/\H x=some (gB C d T x)/\H T=some (fe T)/\T≠x/\R x C d T H
abbrev DV:=St->Hp->VK->XR->Prop
abbrev DE:=bu->XR->St->Hp->Prop
def EJ(X:Cx)(e:Expr)(t:DV):Prop:=
 ∀(p:List (Addr×Obj)) (s:Shared) (a:St) (H:Hp) (Q:VK) (R:XR),ap X p a H s->t a H Q R->wpAny (model X.prog X.w) X.A (eval e X.env) (EP X p a Q) (XW X p a R) s
def DU(X:Cx)(st:Stmt)(t:DE):Prop:=
 ∀(p:List (Addr×Obj)) (s:Shared) (a:St) (H:Hp) (D:bu) (R:XR),ap X p a H s->t D R a H->wpAny (model X.prog X.w) X.A (exec st X.env) (SP X p D) (XW X p a R) s
def EU(R:XR):XK:=λc d H=>∀x C T,c= .ref C->H x=some (gB C d T x)->H T=some (fe T)->T≠x->R x C d T H
def Bh(s:Sp)(d:List V)(t:TA):DV:=λa H Q R=>t a H λv h=>s (v++d) h Q (EU R)
section
variable {X:Cx}{k:Nat}{f:Addr}{fd:FuncData}{ps:List Str}{sp:Sp}{dvs:List V}{ds:List Value}{x:Str}{p pos:Pos}{e:Expr}{es:List Expr}{t:TA}{te:DV}
theorem Xe(F:ah X.prog X.w X.K X.mg X.base (eO X.prog X.w) k f fd ps sp)(y:bH k X.A)(D:Gl X x)(E:X.mg x=some (.ref f))(G:keepIn X.K (.ref f)=true)(J:ay X.K fd ps ds)(L:aw dvs ds)
  (M:PA X.nox (e::es) t) (g:(x==("__debug__":Str))=false:=by decide) (N:starEach (e::es) X.env=(false,eval e X.env)::starEach es X.env:=by rfl) (j:(backTo pos (starEach es X.env)).any (·.1)=false:=by rfl):
  EJ X (.Call (.Name x p) (e::es) [] pos) (Bh sp dvs t):=by
 intro P s O H Q R I h
 refine GZ (zg I D E ?_ g)
 refine Mu (h₀:=X.base) I.ok.mod.kin G (GY (M pos P s O H _ (I.wish _) h) (λU S #[v,W,i,r,q]=>#[i.kIn,?_]) λ_ _ z=>z.elim) N j
 have i:=i.unwish
 have m:aw (v++dvs) (U++ds):=r.append L
 have Y:(U++ds).length=ps.length:=by rw[<- m.length];exact F.len _ _ _ _ q
 refine wpAny_call (Im (F.run X.A X.stack S W #[U,[]] (U++ds) (v++dvs) Q (EU R) y i.env0 (J S U i.kIn Y) m q) λr s' a=>?_)
 cases r with
 |error e=>
  obtain⟨x,C,d,T,H',rfl,os,B,un,l,n,o,c,hw⟩:=a
  exact#[x,C,d,T,H',Z,i.call' os un l B (λb z=>absurd z MQ),n,o,c,hw x C T Z n o c]
 |ok fl=>
  cases fl with
  |ret u=>exact i.after a
  |next=>exact False.elim a
  |brk=>exact False.elim a
  |cont=>exact False.elim a
theorem YU{i:Nat}{y:Str}{P:Pos}(d:X.N.Nodup)(g:X.N[i]?=some y)(j:oC X.env.scope y)(l:EJ X e te)(m:swapsWith e (some (.Name y P)) pos.line X.env=pure false:=by rfl)(n:X.fn y=true∨X.env.scope.names.lookup y=some .local:=by first |exact .inl Z |exact .inr Z |assumption):
  DU X (.Assign [.Name y P] e pos) (λD R b H=>te b H (λv c=>D.nx (b.set i (some v)) c) R):=by
 intro a s b H D R I h
 refine wpAny_Assign_Name (aW (l a s b H _ R I h) λv S z=>?_) m
 obtain⟨y,c,o,r,q⟩:=z
 exact zq o d g j r (λw u=>#[_,c,u,q]) n
end
theorem aU.ok1{P:Program}{K:Frag}{st:Stmt}{a:Sp}(F:aU K x q st f g)(S:al N p (aa st))(len:∀v H Q E,a v H Q E->v.length=p.length)
  (h:∀(c:Value) (A:Around) (o:List Env) (s:Shared) (H:Hp) (v:List V) (Q:VK) (E:XK),bH k (A.deeper (envOfC q (aa st) s.heap.objs.size f c))->a v H Q E->
   ∃t,ls (ff (eO P w) P w K m b N q (aa st) f c A o s H E) (bo st) t/\t { nx:=λ_ i=>Q .non i,rt:=Q } (gf N v) H):ah P w K m b (eO P w) (k+1) f g p a:=by
 obtain⟨l,n,kV,D,r,u,c,C,O,rfl,lk,d⟩:=F.ex
 exact xF lk d S len λA o s H v Q E j e=>h c A o s H v Q E j e
end L2
namespace L2
open PySem PySem.Spec PyProof.Rows PySem.SeqAt
noncomputable def oY(x y:List V):Bool:=(List.range (min x.length y.length)).all (λj=>lU (x.getD j .non) (y.getD j .non))&&x.length==y.length
section
variable {X:Cx}
theorem ZI(r:aw x i)(R:aw y I)(f:x.all cV=true)(F:y.all cV=true)(j:Nat)(c:j < i.toArray.size)(d:j < I.toArray.size):EqAt A s i.toArray[j] I.toArray[j] (lU (x.getD j .non) (y.getD j .non)):=by
 have L:=r.length
 have p:=R.length
 have H:j < x.length:=by simp at c;omega
 have h:j < y.length:=by simp at d;omega
 have a:x[j]?=some x[j]:=Fu H
 have b:y[j]?=some y[j]:=Fu h
 obtain⟨u,q,g⟩:=r.get a
 obtain⟨U,Q,k⟩:=R.get b
 have l:=List.all_eq_true.mp f _ (IV H)
 have m:=List.all_eq_true.mp F _ (IV h)
 have E:i.toArray[j]=u:=by
  obtain⟨_,e⟩:=List.getElem?_eq_some_iff.mp q
  simpa using e
 have n:I.toArray[j]=U:=by
  obtain⟨_,e⟩:=List.getElem?_eq_some_iff.mp Q
  simpa using e
 have G:x.getD j .non=x[j]:=by rw[Ir,a];rfl
 have o:y.getD j .non=y[j]:=by rw[Ir,b];rfl
 rw[E,n,G,o]
 exact oX g k l m
theorem Aw(f:X.A.units < cLine):em X (compareOp .Eq) (λx y H Q=>∃a b c Y,x= .ref a/\y= .ref b/\aA X.K H a c/\aA X.K H b Y/\c.all cV=true/\Y.all cV=true/\Q (.bl (oY c Y)) H):=by
 intro p s z H x y v u Q I g k h
 obtain⟨a,b,c,Y,rfl,rfl,l,m,F,n,q⟩:=h
 cases g
 cases k
 obtain⟨i,r,P,_⟩:=I.tuple l
 obtain⟨d,R,o,_⟩:=I.tuple m
 refine eq_tupleAt (e:=λj=>lU (c.getD j .non) (Y.getD j .non)) (show s.heap.IsTuple a i.toArray from P) (show s.heap.IsTuple b d.toArray from o) f (λj t w=>ZI r R F n j t w) ?_
 have e:((List.range (min i.toArray.size d.toArray.size)).all (λj=>lU (c.getD j .non) (Y.getD j .non))&&i.toArray.size==d.toArray.size)=oY c Y:=by
  unfold oY
  rw[FE,FE,<- r.length,<- R.length]
 rw[e]
 exact#[.bl _,H,I,Z,q]
end
end L2
namespace L2
open PySem PySem.Spec PyProof.Rows
section
variable {prog:Program}{w:World}{A:Around}{E:Value->Shared->Prop}{s:Shared}
theorem Yf{Q:Nat->Shared->Prop}(H:n≠0)(h:∀i d,i < n->Q i { s with drawn:=d }):wpAny (model prog w) A (choose a n) Q E s:=by
 intro Γ p _
 show Sem.wp _ Γ (.choose a n .pure) _ _ p s
 rw[Sem.wp_choose]
 exact#[H,h _ _ (Nat.mod_lt _ (Nat.pos_of_ne_zero H))]
theorem XE{α:Type}:∀(n:Nat) (xs:List α) (s:Shared) {Q:List α->Shared->Prop},xs.length=n->(∀ys d,ys.Perm xs->Q ys { s with drawn:=d })->
  wpAny (model prog w) A (drawOrder n xs) Q E s:=by
 intro n
 induction n with
 |zero=>
  intro xs s Q hl h
  cases xs with
  |nil=>
   unfold drawOrder
   exact Fv (h [] s.drawn .rfl)
  |cons _ _=>cases hl
 |succ n ih=>
  intro xs s Q hl h
  cases xs with
  |nil=>cases hl
  |cons x r=>
   unfold drawOrder
   refine Ft (Yf MQ λi d hi=>?_)
   have hg:(x::r)[i]?=some ((x::r)[i]'hi):=Fu hi
   rw[hg]
   dsimp only
   refine Ft (ih _ _ (by rw[Mv hi,hl];rfl) λys d' hp=>Fv (h _ d' ?_))
   refine(List.Perm.cons _ hp).trans ?_
   rw[Mg]
   refine List.perm_middle.symm.trans ?_
   rw[IN,IS]
end
noncomputable def lr:Value->Str
 | .str x _=>x
 |_=>#[(List.toArray [])]
theorem KS(t:SetTable)(n:Nat):(t.orStandIn n).led=t.led:=by
 unfold SetTable.orStandIn
 split
 ·rfl
 ·rfl
theorem Yg(t:SetTable)(e:Array (Int×Value))(h:Int)(x:Value):(layNew t e h x).2.1.led=t.led:=by
 unfold layNew
 split
 ·exact KS _ _
 ·rfl
theorem QX(t:SetTable)(E:Array (Int×Value))(n:Nat):(relayAll t E n).2.1.led=t.led:=by
 unfold relayAll
 split
 ·rename_i T o e
  unfold SetTable.relaid SetTable.laid at e
  cases h:SetTable.layClean (SetTable.sizeAbove n - 1) (E.map (·.1)) with
  |none=>rw[h]at e;cases e
  |some O=>
   rw[h]at e
   cases e
   dsimp only
   split<;>rfl
 ·rfl
theorem KH(t:SetTable)(E:Array (Int×Value))(n:Nat)(H:t.plain=false):(relayAll t E n).2.1.plain=false:=by
 unfold relayAll
 split
 ·rename_i T o e
  unfold SetTable.relaid SetTable.laid at e
  cases h:SetTable.layClean (SetTable.sizeAbove n - 1) (E.map (·.1)) with
  |none=>rw[h]at e;cases e
  |some O=>
   rw[h]at e
   cases e
   dsimp only
   split
   ·exact H
   ·rfl
 ·rfl
def cQ(p:Program)(w:World)(h:Heap)(a:Addr)(L:List Str):Prop:=
 ∃o E b t,h.get? a=some o/\o.ExactSet/\o.data= .set E b t/\ElemsOf (PySem.strKind p w) E.toList/\(E.toList.map λe=>lr e.2).Perm L/\L.Nodup
  /\E.size < scanBound/\t.fits E.size=true/\t.led=!(w.params.followText "set-order")/\(t.plain=false∨E.size=0)
theorem cQ.at{H:Heap}{a:Addr}(x:cQ p w h a L)(e:∀o,h.get? a=some o->H.get? a=some o):cQ p w H a L:=
 let #[o,E,b,t,c,r]:=x;#[o,E,b,t,e o c,r]
section
variable {prog:Program}{w:World}{A:Around}{E:Value->Shared->Prop}{s:Shared}
theorem JG{a:Array (Int×Value)}(b:ElemsOf (PySem.strKind prog w) a.toList)(x:Str):
  (a.toList.findIdx? (λe=>(PySem.strKind prog w).is x e.2)=none↔¬x∈a.toList.map λe=>lr e.2):=by
 rw[List.findIdx?_eq_none_iff]
 constructor
 ·intro h m
  obtain⟨e,H,f⟩:=List.mem_map.mp m
  obtain⟨⟨k,g,_⟩,_⟩:=b e H
  obtain⟨t,c⟩:=J' g
  have q:=h e H
  rw[c]at f q
  have d:k=x:=f
  subst d
  have Q:(PySem.strKind prog w).is k (.str k t)=true:=strKind_is prog w k t
  rw[Q]at q;cases q
 ·intro h e H
  cases q:(PySem.strKind prog w).is x e.2 with
  |false=>rfl
  |true=>
   obtain⟨t,c⟩:=J' q
   exact absurd (List.mem_map.mpr #[e,H,by rw[c];rfl]) h
theorem JH{b:Array (Int×Value)}{T:SetTable}(d:s.heap.get? a=some o)(f:o.ExactSet)(h:o.data= .set p c t)
  (g:ElemsOf (PySem.strKind prog w) b.toList) (i:(b.toList.map λe=>lr e.2).Perm L) (j:L.Nodup) (k:b.size < scanBound) (l:T.fits b.size=true)
  (m:T.led=!(w.params.followText "set-order")) (n:T.plain=false):
  (s.heap.update a (Obj.putSet b T)).get? a=some { o with data:=.set b (c+1) T }/\cQ prog w (s.heap.update a (Obj.putSet b T)) a L:=by
 have H:(s.heap.update a (Obj.putSet b T)).get? a=some { o with data:=.set b (c+1) T }:=by
  have q:=Gs (Obj.putSet b T) d (by rw[putSet_of b T h];rfl)
  rwa [putSet_of b T h]at q
 exact#[H,_,b,c+1,T,H,f,Z,g,i,j,k,l,m,.inl n]
theorem XF{Q : Bool -> Shared -> Prop}(hS : cQ prog w s.heap a L)(room : L.length + 1 < scanBound)
    (h : ∀ b R l, Heap.SameBut a s.heap R -> cQ prog w R a (if x ∈ L then L else L ++ [x]) -> s.toks <= l -> Q b { s with heap := R, toks := l }) :
    wpAny (model prog w) A (setAdd a (.str x f)) Q E s := by
  obtain ⟨o, g, ep, t, n, U, u, H, v, B, hb, V, X, Y⟩ := hS
  have d : (PySem.strKind prog w).is x (.str x f) = true := strKind_is prog w x f
  have C : g.size = L.length := by rw [<- v.length_eq, Fy, Ga]
  unfold setAdd
  refine Gc (Ft ((PySem.strKind prog w).pyHash (k := x) d ?_))
  unfold setAddHashed setAddHashedIn
  refine Gc (Ft (Hy (s := { s with toks := s.toks + 1 }) n u V ?_))
  dsimp only
  rw [byScan_of Z hb H]
  simp only [↓reduceIte]
  unfold setAddByScan
  refine Ft (Ft (HU (Ft (wpAny_setScan_of (knd := PySem.strKind prog w) d n u V H ?_))))
  cases hr : List.findIdx? (λe => (PySem.strKind prog w).is x e.2) g.toList with
  | some j =>
    dsimp only
    have D : x ∈ L := by
      refine Decidable.byContradiction λhn => ?_
      have q := (JG (prog := prog) (w := w) H x).mpr λm => hn (v.mem_iff.mp m)
      rw [q] at hr; cases hr
    have q := h false s.heap (s.toks + 1) (Heap.SameBut.refl a s.heap) (by rw [FQ D]; exact #[o, g, ep, t, n, U, u, H, v, B, hb, V, X, Y]) (Hs _)
    exact Fv (Fv q)
  | none =>
    dsimp only
    have D : ¬ x ∈ L :=λm => (JG (prog := prog) (w := w) H x).mp hr (v.mem_iff.mpr m)
    have W : ∀ (b : Bool) {S : Shared} {Q' : Unit -> Shared -> Prop}, Q' () S -> wpAny (model prog w) A (match b with | true => rule "set.scan.the-table-gave-way" | false => pure ()) Q' E S := by
      intro b S Q' hq
      cases b
      · exact Fv hq
      · exact HU hq
    have p := layNew_perm t g ((PySem.strKind prog w).hash x) (.str x f)
    have M := layNew_fits t g ((PySem.strKind prog w).hash x) (.str x f)
    have O := Yg t g ((PySem.strKind prog w).hash x) (.str x f)
    generalize layNew t g ((PySem.strKind prog w).hash x) (.str x f) = N at p M O ⊢
    obtain ⟨c, t1, w0, g4⟩ := N
    dsimp only at p M O ⊢
    rw [Array.toList_push] at p
    have F : ElemsOf (PySem.strKind prog w) c.toList := (H.push d Z).perm p
    have P : (c.toList.map λe => lr e.2).Perm (L ++ [x]) := by
      refine (p.map _).trans ?_
      rw [Gm]
      exact v.append_right _
    have G : (L ++ [x]).Nodup := List.nodup_append.mpr #[B, by simp,λy hy z hz e => by rw [LV] at hz; subst hz; subst e; exact D hy]
    have lO : c.size = g.size + 1 := by rw [<- Ga, p.length_eq, FD, Ga]; rfl
    have b1 : c.size < scanBound := by rw [lO, C]; exact room
    refine Ft (W _ ?_)
    have i : ∀ T : SetTable, T.fits c.size = true -> T.led = t.led -> T.plain = false ->
        wpAny (model prog w) A (do
          storeSet a c T
          if (!w0 && T.tooFull) = true then do
              (match (relayAll T c (SetTable.grown c.size)).2.2 with | true => rule "set.scan.the-table-gave-way" | false => pure ())
              storeSet a (relayAll T c (SetTable.grown c.size)).1 (relayAll T c (SetTable.grown c.size)).2.1
              pure (some true)
            else pure (some true)) (λr s' => r = some true /\ Q true s') E { s with toks := s.toks + 1 } := by
      intro T g1 g2 g3
      refine Ft (wpAny_storeSet_of (s := { s with toks := s.toks + 1 }) n u ?_ (Lu b1))
      obtain ⟨o1, S1⟩ := JH (s := s) (prog := prog) (w := w) n U u F P G b1 g1 (g2.trans X) g3
      have I := HN s.heap a (Obj.putSet c T)
      split
      · have J := relayAll_perm T c (SetTable.grown c.size)
        have f2 := relayAll_fits T c (SetTable.grown c.size)
        have l2 := QX T c (SetTable.grown c.size)
        have q2 := KH T c (SetTable.grown c.size) g3
        generalize relayAll T c (SetTable.grown c.size) = Z at J f2 l2 q2 ⊢
        obtain ⟨K, t3, g0⟩ := Z
        dsimp only at J f2 l2 q2 ⊢
        have bX : K.size = c.size := by rw [<- Ga, J.length_eq, Ga]
        have b2 : K.size < scanBound := by rw [bX]; exact b1
        refine Ft (W _ (Ft (wpAny_storeSet_of (s := { s with heap := s.heap.update a (Obj.putSet c T), toks := s.toks + 1 }) o1 Z ?_ (Lu b2))))
        obtain ⟨_, S2⟩ := JH (s := { s with heap := s.heap.update a (Obj.putSet c T) }) (prog := prog) (w := w) o1 U Z (F.perm J) ((J.map _).trans P) G b2 f2 (l2.trans (g2.trans X)) q2
        exact Fv #[Z, h true _ _ (I.trans (HN _ a _)) (by rw [FV D]; exact S2) (Hs _)]
      · exact Fv #[Z, h true _ _ I (by rw [FV D]; exact S1) (Hs _)]
    split
    · rename_i tp
      refine Ft ?_
      rw [hashByValue_scannable 8 (x := .str x f) Z]
      refine Fv ?_
      have e0 : plainKind (.str x f) = false := rfl
      rw [e0]
      simp only [FK, ↓reduceIte]
      refine GY (i { t1 with plain := false } (SetTable.fits_plain_off M) O Z) (λr s' q => ?_) λ_ _ z => z
      obtain ⟨rfl, q⟩ := q
      exact Fv q
    · rename_i tp
      refine Ft (Fv ?_)
      simp only [↓reduceIte]
      refine GY (i t1 M O (by simpa using tp)) (λr s' q => ?_) λ_ _ z => z
      obtain ⟨rfl, q⟩ := q
      exact Fv q
end
noncomputable def bp(w:World):Obj:={ cls:=.type "set",dict:=none,data:=.set (List.toArray []) 0 (.fresh 0 0 (!(w.params.followText "set-order"))) }
section
variable {prog:Program}{w:World}{A:Around}{E:Value->Shared->Prop}{s:Shared}
theorem XG{h:Heap}(e:h.get? a=some (bp w)):cQ prog w h a []:=
 #[_,(List.toArray []),0,_,e,#[Z,Z,Z],Z,λ_ z=>by simp at z,MQ,LJ,(by decide:(0:Nat) < scanBound),Z,Z,.inr Z]
theorem KU(a:Value){G:Value->Shared->Prop}(h:G (.ref s.heap.objs.size) { s with heap:=s.heap.push (bp w) }):
  codeAny (model prog w) A (.call (.builtin "set.__new__") #[[.type "set",a],[]]) (wants G E) s:=by
 refine codeAny_of_tree ?_
 show wpAny _ A.in1 (do checkBuiltinCall "set.__new__" _;again (.builtin "set.__new__" _)) _ _ s
 refine Ft (Ls (PySem.F.newCall_set_1 a) (Fv #[Ih PySem.F.plain_set_new _,Hm PySem.F.entry_set_new ?_]))
 rw[GX PySem.F.plain_set_new]
 unfold Builtin.«set.__new__» Builtin.Frozenset.newClass
 have o:=sub_set_self
 obtain⟨H,g,d,t,os⟩:=s
 dsimp only
 wp_walk
 refine IE (Fv ?_)
 dsimp only
 simp only[newObj]
 exact Ft (wpAny_alloc (Fv (Fv h)))
end
theorem StrsAre.at':∀{V:List Value} {s:List Str},StrsAre V s->∀(i:Nat) (v:Value),V[i]?=some v->∃x t,s[i]?=some x/\v= .str x t
 |_,_,.nil,i,v,h=>by simp at h
 |_,_,.cons y t r,0,v,h=>by simp at h;exact#[y,t,Z,h.symm]
 |_,_,.cons y t r,i+1,v,h=>by
  simp only[List.getElem?_cons_succ]at h
  obtain⟨x,T,e,E⟩:=StrsAre.at' r i v h
  exact#[x,T,by simpa using e,E]
theorem StrsAre.len:∀{v:List Value} {s:List Str},StrsAre v s->s.length=v.length
 |_,_,.nil=>rfl
 |_,_,.cons _ _ r=>by simp [StrsAre.len r]
theorem j3:Slot "set_iterator" "__next__" "set_iterator.__next__":=by
 refine .of (owner:="set_iterator") (n:="__next__") ?_ MS MS MS ?_ ?_
 ·rw[Hl,Gy];kernel_rfl
 ·first |exact .inl MS |exact .inr MS
 ·rw[Hv];kernel_rfl
theorem qf:Slot "set_iterator" "__iter__" "set_iterator.__iter__":=by
 refine .of (owner:="set_iterator") (n:="__iter__") ?_ MS MS MS ?_ ?_
 ·rw[Hl,Gy];kernel_rfl
 ·first |exact .inl MS |exact .inr MS
 ·rw[Hv];kernel_rfl
theorem Jw:entryFor table "set_iterator.__next__"=some Builtin.«set_iterator.__next__»:=LI (by kernel_rfl)
theorem Jx:entryFor table "set_iterator.__iter__"=some Builtin.«dict_keyiterator.__iter__»:=by
 refine L9 (id':="dict_keyiterator.__iter__") ?_ Z MS ?_<;>kernel_rfl
theorem JM:entryFor table "set.__iter__"=some Builtin.«frozenset.__iter__»:=by
 refine L9 (id':="frozenset.__iter__") ?_ Z MS ?_<;>kernel_rfl
theorem JN(a:Value):argsOk "set_iterator.__next__" #[[a],[]]:=by unfold argsOk;kernel_rfl
theorem JO(a:Value):argsOk "set_iterator.__iter__" #[[a],[]]:=by unfold argsOk;kernel_rfl
def b8(h:Heap)(I:Addr)(f:Value)(i:Nat)(S:Addr)(n e:Nat):Prop:=
 ∃o,h.get? I=some o/\o.cls= .type "set_iterator"/\o.data= .fields (List.toArray [f,.int i 0,.ref S,.int n 0,.int e 0])
theorem b8.at{H:Heap}{i:Nat}{S:Addr}(x:b8 h I f i S n E)(e:∀o,h.get? I=some o->H.get? I=some o):b8 H I f i S n E:=
 let #[o,a,r]:=x;#[o,e o a,r]
theorem b8.is{s:Shared}{S:Addr}(x:b8 s.heap I f i S n e):s.TypeIs (.ref I) "set_iterator":=let #[o,h,H,_]:=x;#[o,h,H]
section
variable {prog:Program}{w:World}{A:Around}{E:Value->Shared->Prop}{s:Shared}
theorem JR{c:Type}{Q:c->Shared->Prop}(d:A.handled=none)
  (h:∀H e,(∀b o,s.heap.get? b=some o->H.get? b=some o)->Shared.TypeIs { s with heap:=H } e "StopIteration"->E e { s with heap:=H }):
  wpAny (model prog w) A (do raiseNew (<- newExc (.type "StopIteration") []):Sem c) Q E s:=by
 refine Ft ?_
 simp only[newExc,newTuple]
 refine Ft (Gu ?_ (by size_fits))
 refine Ft (m:=firstArgMember _ _) (Ls (a:=Value.none) ?_ ?_)
 ·first |rfl | (simp only[firstArgMember];rfl)
 refine Gu ?_ (by size_fits)
 simp only[raiseNew]
 refine Ft (wpAny_handled ?_)
 rw[d]
 refine Ft (Fv (wpAny_throw (h _ _ (λb o e=>Fx _ (Fx _ e)) ?_)))
 exact#[_,FG _ Z,Z]
theorem JS{S:Addr}(H:b8 s.heap I f i S n c)
  (h:wpAny (model prog w) A.in1 (Builtin.«set_iterator.__next__» #[[.ref I],[]]) (λF a=>∃v,F= .done (.ret v)/\Q (some v) a) (λe a=>a.TypeIs e "StopIteration"/\Q none a) s):
  wpAny (model prog w) A (pyNext (.ref I)) Q E s:=by
 unfold pyNext
 refine Ft (IK (Gr (name:=Str.ofString "__next__") H.is j3 (Gw j3 H.is Jw ?_ (JN _))))
 refine GY h (λF a q=>?_) λe a q=>?_
 ·obtain⟨v,e,q⟩:=q
  exact#[v,e,Fv q]
 ·exact Ft (Ii (T:="StopIteration") (b:=true) q.1 LZ (Fv q.2))
theorem Qt{I:Addr}{f:Value}{i:Nat}{S:Addr}{n a:Nat}{o:Obj}{v:Array Value}(H:s.heap.get? I=some o)(b:o.cls= .type "set_iterator")(h:o.data= .fields v)(k:Nat)(x:Value)
  (e:v.setIfInBounds k x=(List.toArray [f,.int i 0,.ref S,.int n 0,.int a 0])):b8 (s.heap.update I (Obj.mapFields (·.setIfInBounds k x))) I f i S n a:=
 #[_,Gs _ H (He (Go h _)),(IX ..).trans b,by rw[Go h,e]]
theorem Yh{I S P:Addr}{i:Nat}{O j:Obj}{e:Array (Int×Value)}{a:Nat}{t:SetTable}{k:Array Value}{c p:Nat}{hx:Int}{x:Value}{Q:Option Value->Shared->Prop}
  (h:b8 s.heap I (.ref P) i S e.size a) (l:s.heap.get? S=some O) (H:O.data= .set e a t) (m:t.fits e.size=true) (n:s.heap.get? P=some j) (b:j.data= .seq k c)
  (q:k[i]?=some (.int p 0)) (r:e[p]?=some (hx,x)) (u:∀d,b8 d I (.ref P) (i+1) S e.size a->Heap.SameBut I s.heap d->Q (some x) { s with heap:=d }):
  wpAny (model prog w) A (pyNext (.ref I)) Q E s:=by
 refine JS h ?_
 obtain⟨o,f,v,g⟩:=h
 show wpAny _ _ (fieldsOf (.ref I) >>= _) _ _ s
 refine Ft (LX f g ?_)
 dsimp only
 refine Ft (II l H m ?_)
 simp only[HV,FK,↓reduceIte]
 refine Ft (GS n b ?_)
 simp only[GQ,q]
 unfold setNextDrawn
 refine Ft (Ft (Hy l H m ?_))
 simp only[HV,FK,↓reduceIte,r]
 refine Fv ?_
 refine Ft (GG f g MQ (Fv #[x,Z,u _ ?_ (HN ..)]))
 exact Qt f v g _ _ (by simp [rawInt])
theorem KI(q:A.handled=none){I S P:Addr}{i:Nat}{O l:Obj}{d:Array (Int×Value)}{m:Nat}{t:SetTable}{p:Array Value}{c:Nat}{Q:Option Value->Shared->Prop}
  (h:b8 s.heap I (.ref P) i S d.size m) (r:s.heap.get? S=some O) (f:O.data= .set d m t) (u:t.fits d.size=true) (v:s.heap.get? P=some l) (g:l.data= .seq p c)
  (x:p[i]?=none) (y:∀H,(∀b o,b≠I->s.heap.get? b=some o->H.get? b=some o)->Q none { s with heap:=H }):
  wpAny (model prog w) A (pyNext (.ref I)) Q E s:=by
 refine JS h ?_
 obtain⟨o,j,B,a⟩:=h
 show wpAny _ _ (fieldsOf (.ref I) >>= _) _ _ s
 refine Ft (LX j a ?_)
 dsimp only
 refine Ft (II r f u ?_)
 simp only[HV,FK,↓reduceIte]
 refine Ft (GS v g ?_)
 simp only[GQ,x]
 refine Ft (GG j a MQ ?_)
 refine Ft (GG (Gs _ j (He (Go a _))) (Go a _) MQ ?_)
 refine JR (s:={ s with heap:=_ }) (by simpa using q) λH e k T=>#[T,y H λb o n z=>k b o ?_]
 exact(FP _ _ (Gp n)).trans ((FP _ _ (Gp n)).trans z)
end
section
variable {prog:Program}{w:World}{A:Around}{E:Value->Shared->Prop}{s:Shared}
theorem Qu{I S:Addr}{i j nx:Nat}{O:Obj}{e:Array (Int×Value)}{a:Nat}{t:SetTable}{x:Value}{Q:Option Value->Shared->Prop}
  (h:b8 s.heap I (.int j 0) i S e.size a) (f:s.heap.get? S=some O) (b:O.data= .set e a t) (k:t.fits e.size=true)
  (l:∀(q:Option (Value×Nat)->Shared->Prop) m,q (some (x,nx)) s->wpAny (model prog w) A.in1 (setNext S j i a) q m s)
  (n:∀c,b8 c I (.int nx 0) (i+1) S e.size a->Heap.SameBut I s.heap c->Q (some x) { s with heap:=c }):
  wpAny (model prog w) A (pyNext (.ref I)) Q E s:=by
 refine JS h ?_
 obtain⟨o,d,p,H⟩:=h
 show wpAny _ _ (fieldsOf (.ref I) >>= _) _ _ s
 refine Ft (LX d H ?_)
 dsimp only
 refine Ft (II f b k ?_)
 simp only[HV,FK,↓reduceIte]
 simp only[GQ]
 refine Ft (l _ _ ?_)
 dsimp only
 refine Ft (GG d H MQ ?_)
 have g:=Gs (Obj.mapFields (·.setIfInBounds 0 (rawInt nx))) d (He (Go H _))
 have D:=Go H (·.setIfInBounds 0 (rawInt nx))
 refine Ft (GG g D MQ (Fv #[x,Z,n _ ?_ ((HN ..).trans (HN ..))]))
 exact Qt (s:={ s with heap:=_ }) g ((IX ..).trans p) D _ _ (by simp [rawInt])
theorem qE(l:A.handled=none){I S:Addr}{i j:Nat}{O:Obj}{a:Array (Int×Value)}{c:Nat}{t:SetTable}{Q:Option Value->Shared->Prop}
  (h:b8 s.heap I (.int j 0) i S a.size c) (m:s.heap.get? S=some O) (d:O.data= .set a c t) (n:t.fits a.size=true)
  (p:∀(q:Option (Value×Nat)->Shared->Prop) r,q none s->wpAny (model prog w) A.in1 (setNext S j i c) q r s)
  (u:∀H,(∀b o,b≠I->s.heap.get? b=some o->H.get? b=some o)->Q none { s with heap:=H }):
  wpAny (model prog w) A (pyNext (.ref I)) Q E s:=by
 refine JS h ?_
 obtain⟨o,f,y,g⟩:=h
 show wpAny _ _ (fieldsOf (.ref I) >>= _) _ _ s
 refine Ft (LX f g ?_)
 dsimp only
 refine Ft (II m d n ?_)
 simp only[HV,FK,↓reduceIte]
 simp only[GQ]
 refine Ft (p _ _ ?_)
 dsimp only
 refine Ft (GG f g MQ ?_)
 refine JR (s:={ s with heap:=_ }) (by simpa using l) λH e k T=>#[T,u H λb o v x=>k b o ?_]
 exact(FP _ _ (Gp v)).trans x
theorem Je(a:w.params.followText "set-order"=true){S:Addr}(b:s.heap.get? S=some o)(H:o.data= .set c d t)
  (f:t.fits c.size=true) {Q:Option (Value×Nat)->Shared->Prop} (h:Q (((pickOrder (w.params.setOrder S d) c)[i]?).map λe=>(e.2,j)) s):
  wpAny (model prog w) A (setNext S j i d) Q E s:=by
 unfold setNext
 refine Ft (Hy b H f ?_)
 dsimp only
 unfold setsByText
 refine Ft (Ft (IE (Fv ?_)))
 dsimp only
 rw[show(model prog w).w.params.followText "set-order"=_ from a]
 simp only[↓reduceIte,HV,FK]
 unfold setWalk
 refine Ft (Ft (Hy b H f ?_))
 dsimp only
 unfold setsByText
 refine Ft (Ft (IE (Fv ?_)))
 dsimp only
 rw[show(model prog w).w.params.followText "set-order"=_ from a]
 simp only[↓reduceIte]
 exact Ft (IE (Fv (Fv h)))
theorem JI(a:w.params.followText "set-order"=false){S:Addr}(b:s.heap.get? S=some o)(H:o.data= .set e c t)
  (d:t.fits e.size=true) (f:t.led=true) (l:e.size<=1) {Q:Option (Value×Nat)->Shared->Prop}
  (h:Q (match e[SetTable.below t.place j]?,t.place[SetTable.below t.place j]? with |some (_,x),some k=>some (x,k+1) |_,_=>none) s):
  wpAny (model prog w) A (setNext S j i c) Q E s:=by
 unfold setNext
 refine Ft (Hy b H d ?_)
 dsimp only
 unfold setsByText
 refine Ft (Ft (IE (Fv ?_)))
 dsimp only
 rw[show(model prog w).w.params.followText "set-order"=_ from a]
 simp only[FK,↓reduceIte]
 split
 ·rename_i z
  have g:(!t.plain&&decide (e.size > 1))=true:=z
  simp only[GL,decide_eq_true_eq]at g
  omega
 ·refine Ft ?_
  show wpAny _ _ (if (!t.led&&!e.isEmpty)=true then _ else _) _ _ _
  rw[f]
  simp only[IA,Bool.false_and,FK,↓reduceIte]
  exact Fv (Fv h)
end
theorem XH{a:Type}(f:Nat->Nat):∀(n k:Nat) (l:List a) (o:Array a),l.length=n->(pickOrder.go f n k l o).toList.Perm (o.toList++l):=by
 intro n
 induction n with
 |zero=>
  intro k l o h
  rw[List.length_eq_zero_iff.mp h]
  unfold pickOrder.go
  simp
 |succ n i=>
  intro k l o h
  unfold pickOrder.go
  have H:f k % l.length < l.length:=Nat.mod_lt _ MP
  rw[Fu H]
  dsimp only
  refine(i _ _ _ (by rw[Mv H,h];rfl)).trans ?_
  rw[Array.toList_push,List.append_assoc,List.singleton_append]
  refine List.Perm.append_left _ ?_
  rw[Mg]
  refine List.perm_middle.symm.trans ?_
  rw[IN,IS]
theorem ki{a:Type}(f:Nat->Nat)(x:Array a):(pickOrder f x).toList.Perm x.toList:=by
 have h:=XH f x.size 0 x.toList (List.toArray []) (Ga ..)
 simpa [pickOrder] using h
theorem Xf{a:Type}(x:Array a)(d:a):(List.range x.size).map (λp=>(x[p]?).getD d)=x.toList:=by
 refine List.ext_getElem MQ λi b h=>?_
 have H:i < x.size:=by simpa using h
 simp [H]
def l9(ord:List (Int×Value))(i:Nat)(v:Value):Prop:=∃e,ord[i]?=some e/\v=e.2
section
variable {prog:Program}{w:World}{A:Around}{E:Value->Shared->Prop}{s:Shared}
theorem qM{S:Addr}(H:b8 s.heap I f i S n e){Q:Value->Shared->Prop}(h:Q (.ref I) s):wpAny (model prog w) A (pyIter (.ref I)) Q E s:=by
 refine Mt H.is qf (Gw qf H.is Jx ?_ (JO _))
 show wpAny _ _ (ret (.ref I)) _ _ s
 exact Fv #[_,Z,"set_iterator",_,H.is,j3.lookup,h]
theorem Yi(D:A.handled=none)(I S P:Addr)(l:S≠I)(m:P≠I){O oP:Obj}{y:List Nat}{c:Nat}(f:O.data= .set d G t)
  (u:t.fits d.size=true) (g:oP.data= .seq (y.map λ(i:Nat)=>rawInt i).toArray c) (n:y.Perm (List.range d.size)):
  WalksS prog w A I [I,S,P] [I] (λa b=>b=a) d.size (l9 (y.map λp=>(d[p]?).getD (0,.none)))
   (λi s=>b8 s.heap I (.ref P) i S d.size G/\s.heap.get? S=some O/\s.heap.get? P=some oP) where
 sub:=λb H=>by simp at H;simp [H]
 grefl:=λ_=>Z
 gtrans:=λ_ _ _ F J=>J.trans F
 frame:=λi s v T st _ k=>#[st.1.at λo e=>k I MQ o e,k S MQ _ st.2.1,k P MQ _ st.2.2]
 item:=λi s Q E K st j=>by
  have B:y.length=d.size:=by rw[n.length_eq,Me]
  have h:i < y.length:=by omega
  have C:y[i] < d.size:=List.mem_range.mp (n.mem_iff.mp (IV h))
  refine Yh (p:=y[i]) (hx:=(d[y[i]]).1) (x:=(d[y[i]]).2) st.1 st.2.1 f u st.2.2 g (by simp [h,rawInt]) (by simp [C]) λv q r=>?_
  refine j _ _ #[d[y[i]],by simp [h,C],Z] #[q,?_,?_] #[λb o H e=>?_,Z,Z,Z,Fz _]
  ·rw[r.2 S l];exact st.2.1
  ·rw[r.2 P m];exact st.2.2
  ·rw[r.2 b (λz=>H (by simp [z]))];exact e
 done:=λs Q E st j=>by
  have B:y.length=d.size:=by rw[n.length_eq,Me]
  refine KI D st.1 st.2.1 f u st.2.2 g (by simp [B]) λv k=>j _ #[λb o H e=>k b o (λz=>H (by simp [z])) e,Z,Z,Z,Fz _]
 self:=λ_ _ _ _ st j=>qM st.1 j
theorem ZJ(r:A.handled=none)(m:w.params.followText "set-order"=true)(I S:Addr)(l:S≠I){O:Obj}(h:O.data= .set c d t)
  (j:t.fits c.size=true):
  WalksS prog w A I [I,S] [I] (λa b=>b=a) c.size (l9 (pickOrder (w.params.setOrder S d) c).toList)
   (λi s=>b8 s.heap I (.int (0:Nat) 0) i S c.size d/\s.heap.get? S=some O) where
 sub:=λb H=>by simp at H;simp [H]
 grefl:=λ_=>Z
 gtrans:=λ_ _ _ u v=>v.trans u
 frame:=λi s n T st _ k=>#[st.1.at λo e=>k I MQ o e,k S MQ _ st.2]
 item:=λi s Q E D st f=>by
  have y:(pickOrder (w.params.setOrder S d) c).size=c.size:=by rw[<- Ga,(ki _ _).length_eq,Ga]
  have g:i < (pickOrder (w.params.setOrder S d) c).size:=by omega
  refine Qu (x:=(pickOrder (w.params.setOrder S d) c)[i].2) (nx:=0) st.1 st.2 h j (λB C q=>Je m st.2 h j (by rw[HS g];exact q)) λn q p=>?_
  refine f _ _ #[(pickOrder (w.params.setOrder S d) c)[i],by rw[HP];exact HS g,Z] #[q,?_] #[λb o H e=>?_,Z,Z,Z,Fz _]
  ·rw[p.2 S l];exact st.2
  ·rw[p.2 b (λz=>H (by simp [z]))];exact e
 done:=λs Q E st f=>by
  have y:(pickOrder (w.params.setOrder S d) c).size=c.size:=by rw[<- Ga,(ki _ _).length_eq,Ga]
  refine qE r st.1 st.2 h j (λB C q=>Je m st.2 h j (by rw[Lp MP];exact q)) λn k=>f _ #[λb o H e=>k b o (λz=>H (by simp [z])) e,Z,Z,Z,Fz _]
 self:=λ_ _ _ _ st f=>qM st.1 f
theorem Yj(p:Nat):SetTable.below (List.toArray [p]) 0=0:=by simp [SetTable.below,SetTable.below.go]
theorem Yk(p:Nat):SetTable.below (List.toArray [p]) (p+1)=1:=by simp [SetTable.below,SetTable.below.go]
theorem tV(G:A.handled=none)(u:w.params.followText "set-order"=false)(I S:Addr)(n:S≠I){O:Obj}(h:O.data= .set c L t)
  (g:t.fits c.size=true) (v:t.led=true) (y:c.size<=1):
  WalksS prog w A I [I,S] [I] (λa b=>b=a) c.size (l9 c.toList)
   (λi s=>(∃j:Nat,b8 s.heap I (.int j 0) i S c.size L/\(i=0->j=0)/\(i=1->∃p,t.place=(List.toArray [p])/\j=p+1))/\s.heap.get? S=some O) where
 sub:=λb d=>by simp at d;simp [d]
 grefl:=λ_=>Z
 gtrans:=λ_ _ _ K M=>M.trans K
 frame:=λi s B W st _ k=>#[let #[j,a,r]:=st.1;#[j,a.at λo e=>k I MQ o e,r],k S MQ _ st.2]
 item:=λi s Q E X st l=>by
  obtain⟨⟨j,H,J,C⟩,f⟩:=st
  have N:i=0:=by omega
  subst N
  cases J Z
  have D:c.size=1:=by omega
  have P:t.place.size=1:=by
   simp only[SetTable.fits,GL,beq_iff_eq]at g
   omega
  obtain⟨p,m⟩:=Array.size_eq_one_iff.mp P
  refine Qu (x:=(c[0]'MP).2) (nx:=p+1) H f h g (λR T q=>JI u f h g v y (by rw[m,Yj,HS MP];exact q)) λB q F=>?_
  refine l _ _ #[c[0]'MP,by rw[HP];exact HS MP,Z] #[#[_,q,λz=>by omega,λ_=>#[p,m,Z]],?_] #[λb o d e=>?_,Z,Z,Z,Fz _]
  ·rw[F.2 S n];exact f
  ·rw[F.2 b (λz=>d (by simp [z]))];exact e
 done:=λs Q E st l=>by
  obtain⟨⟨j,H,J,C⟩,f⟩:=st
  refine qE G H f h g (λR T q=>JI u f h g v y ?_) λB k=>l _ #[λb o d e=>k b o (λz=>d (by simp [z])) e,Z,Z,Z,Fz _]
  by_cases z:c.size=0
  ·rw[Lp (show c.size<=_ by omega)];exact q
  ·have D:c.size=1:=by omega
   obtain⟨p,U,V⟩:=C D
   subst V
   rw[U,Yk,Lp (show c.size<=1 by omega)];exact q
 self:=λ_ _ _ _ st l=>let #[#[_,a,_],_]:=st;qM a l
end
theorem qc{prog:Program}{w:World}(h:ElemsOf (PySem.strKind prog w) E)(i:Nat)(v:Value)(b:l9 E i v):∃x t,(E.map λe=>lr e.2)[i]?=some x/\v= .str x t:=by
 obtain⟨e,H,rfl⟩:=b
 obtain⟨⟨k,c,_⟩,_⟩:=h e (F' H)
 obtain⟨t,a⟩:=J' c
 exact#[k,t,by rw[FT,H];show some (lr e.2)=_;rw[a];rfl,a]
def yj(p:Program)(w:World)(s c:Shared)(S I:Addr)(L:List Str):Prop:=
 ∃(f:List Addr) (d:List Str) (P:Nat->Value->Prop) (St:Nat->Shared->Prop),(∀b o,s.heap.get? b=some o->c.heap.get? b=some o)/\c.gens=s.gens/\c.os=s.os/\s.toks<=c.toks/\
  s.heap.objs.size<=I/\I < c.heap.objs.size/\c.TypeIs (.ref I) "set_iterator"/\(∀b∈f,b=S∨s.heap.objs.size<=b)/\(∀A:Around,A.handled=none->WalksS p w A I f [I] (λa b=>b=a) d.length P St)/\St 0 c/\
  (∀i v,P i v->∃x t,d[i]?=some x/\v= .str x t)/\d.Perm L
section
variable {prog:Program}{w:World}{A:Around}{E:Value->Shared->Prop}{s:Shared}
theorem Yl{S:Addr}(V:cQ prog w s.heap S L){Q:Value->Shared->Prop}(h:∀f I,yj prog w s f S I L->Q (.ref I) f):wpAny (model prog w) A (pyIter (.ref S)) Q E s:=by
 obtain⟨o,a,x,t,H,W,m,n,M,X,r,u,Y,N⟩:=V
 have P:s.TypeIs (.ref S) "set":=#[o,H,W.1]
 have v:S < s.heap.objs.size:=FF H
 refine Mt P PySem.F.slot_set_iter (Gw PySem.F.slot_set_iter P JM ?_ (PySem.F.args_set_iter_1 _))
 unfold Builtin.«frozenset.__iter__»
 show wpAny _ _ (Builtin.Frozenset.sizeOf S >>= _) _ _ s
 unfold Builtin.Frozenset.sizeOf
 refine Ft (Ft (II H m u (Fv ?_)))
 unfold setDrawn
 refine Ft (Ft (Hy H m u ?_))
 dsimp only
 unfold setsByText
 refine Ft (Ft (IE (Fv (Fv ?_))))
 split
 ·rename_i z
  have B:(!(w.params.followText "set-order")&&(!t.plain&&decide (a.size > 1)))=true:=z
  simp only[GL,decide_eq_true_eq]at B
  refine Ft (XE a.size (List.range a.size) s MQ λy d G=>?_)
  have C:y.length=a.size:=by rw[G.length_eq,Me]
  have O:((y.map λ(i:Nat)=>rawInt i).length)<=sizeLine:=by rw[Fy,C];exact Lu r
  refine Ft (wpAny_newTuple (s:={ s with drawn:=d }) ?_ O)
  refine Ft ?_
  unfold setEpoch
  refine Ft (Hy (Fx _ H) m u (Fv ?_))
  refine Ft (Gu (Fv #[_,Z,"set_iterator",_,#[_,FG _ Z,Z],j3.lookup,h _ _ ?_]))
  generalize J:s.heap.push { cls:=.type "tuple",data:=.seq (y.map λ(i:Nat)=>rawInt i).toArray }=g
  have R:g.objs.size=s.heap.objs.size+1:=by rw[<- J,GH]
  have gP:g.get? s.heap.objs.size=some { cls:=.type "tuple",data:=.seq (y.map λ(i:Nat)=>rawInt i).toArray }:=by rw[<- J];exact FG _ Z
  have gS:g.get? S=some o:=by rw[<- J];exact Fx _ H
  refine#[[g.objs.size,S,s.heap.objs.size],(y.map λp=>(a[p]?).getD (0,.none)).map λe=>lr e.2,l9 (y.map λp=>(a[p]?).getD (0,.none)),
   (λi f=>b8 f.heap g.objs.size (.ref s.heap.objs.size) i S a.size x/\f.heap.get? S=some o/\f.heap.get? s.heap.objs.size=some { cls:=.type "tuple",data:=.seq (y.map λ(i:Nat)=>rawInt i).toArray }),λb o e=>?_,Z,Z,Fz _,?_,?_,#[_,FG _ Z,Z],λb r=>?_,
   λT D=>?_,#[#[_,FG _ Z,Z,Z],Fx _ gS,Fx _ gP],?_,?_]
  ·exact Fx _ (by rw[<- J];exact Fx _ e)
  ·show s.heap.objs.size<=g.objs.size
   omega
  ·show g.objs.size < (g.push _).objs.size
   rw[GH];exact Hj _
  ·simp only[Ib,Gh,I0]at r
   rcases r with e |e |e
   ·subst e;exact .inr MP
   ·exact .inl e
   ·rw[e];exact .inr (Fz _)
  ·have q:=Yi (prog:=prog) (w:=w) D g.objs.size S s.heap.objs.size (FJ (by rw[R];exact Ik v)) (FJ (by rw[R];exact Hj _)) m u (oP:={ cls:=.type "tuple",data:=.seq (y.map λ(i:Nat)=>rawInt i).toArray }) (c:=0) Z G
   simpa [C] using q
  ·refine qc (prog:=prog) (w:=w) (n.perm ?_)
   have q:=G.map λp=>(a[p]?).getD ((0:Int),Value.none)
   rwa [Xf]at q
  ·have q:=G.map λp=>(a[p]?).getD ((0:Int),Value.none)
   rw[Xf]at q
   exact(q.map _).trans M
 ·rename_i z
  have B:¬(!(w.params.followText "set-order")&&(!t.plain&&decide (a.size > 1)))=true:=z
  refine Ft (Fv ?_)
  refine Ft ?_
  unfold setEpoch
  refine Ft (Hy H m u (Fv ?_))
  refine Ft (Gu (Fv #[_,Z,"set_iterator",_,#[_,FG _ Z,Z],j3.lookup,h _ _ ?_]))
  have k:∀b∈[s.heap.objs.size,S],b=S∨s.heap.objs.size<=b:=λb r=>by
   simp only[Ib,Gh,I0]at r
   rcases r with e |e
   ·subst e;exact .inr (Fz _)
   ·exact .inl e
  have l:∀U:Obj,s.heap.objs.size < (s.heap.push U).objs.size:=λU=>by rw[GH];exact Hj _
  cases K:w.params.followText "set-order" with
  |true=>
   have pl:(pickOrder (w.params.setOrder S x) a).toList.length=a.size:=by rw[(ki _ _).length_eq,Ga]
   refine#[[s.heap.objs.size,S],(pickOrder (w.params.setOrder S x) a).toList.map λe=>lr e.2,l9 (pickOrder (w.params.setOrder S x) a).toList,
    (λi f=>b8 f.heap s.heap.objs.size (.int (0:Nat) 0) i S a.size x/\f.heap.get? S=some o),λb o e=>Fx _ e,Z,Z,Fz _,Fz _,l _,#[_,FG _ Z,Z],k,
    λT D=>?_,#[#[_,FG _ Z,Z,Z],Fx _ H],?_,?_]
   ·have q:=ZJ (prog:=prog) (w:=w) D K s.heap.objs.size S (FJ v) m u
    rw[Fy,pl];exact q
   ·exact qc (prog:=prog) (w:=w) (n.perm (ki _ _))
   ·exact((ki _ _).map _).trans M
  |false=>
   have hs:a.size<=1:=by
    rw[K]at B
    rcases N with e |e
    ·rw[e]at B
     simp at B
     exact B
    ·omega
   refine#[[s.heap.objs.size,S],a.toList.map λe=>lr e.2,l9 a.toList,
    (λi f=>(∃j:Nat,b8 f.heap s.heap.objs.size (.int j 0) i S a.size x/\(i=0->j=0)/\(i=1->∃p,t.place=(List.toArray [p])/\j=p+1))/\f.heap.get? S=some o),λb o e=>Fx _ e,Z,Z,Fz _,Fz _,l _,#[_,FG _ Z,Z],k,
    λT D=>?_,#[#[0,#[_,FG _ Z,Z,Z],λ_=>Z,λz=>by cases z],Fx _ H],?_,?_]
   ·have q:=tV (prog:=prog) (w:=w) D K s.heap.objs.size S (FJ v) m u (by rw[Y,K];rfl) hs
    rw[Fy,Ga];exact q
   ·exact qc (prog:=prog) (w:=w) n
   ·exact M
theorem qF:∀(V:List Value) (S:List Str),V.length=S.length->(∀(i:Nat) (v:Value),V[i]?=some v->∃x t,S[i]?=some x/\v=Value.str x t)->StrsAre V S
 | [],[],_,_=>.nil
 | [],_::_,h,_=>by cases h
 |_::_,[],h,_=>by cases h
 |v::V,y::S,h,k=>by
  obtain⟨x,t,e,rfl⟩:=k 0 v Z
  cases e
  exact .cons y t (qF V S (by simpa using h) λi u H=>k (i+1) u (by simpa using H))
theorem KW{S:Addr}(hh:A.handled=none)(y:cQ prog w s.heap S L){Q:List Value->Shared->Prop}
  (h:∀a V g,s.heap.objs.size<=a.heap.objs.size->(∀b o,s.heap.get? b=some o->a.heap.get? b=some o)->a.gens=s.gens->a.os=s.os->s.toks<=a.toks->StrsAre V g->g.Perm L->Q V a):wpAny (model prog w) A (collect (.ref S)) Q E s:=by
 have n:L.length < scanBound:=by
  obtain⟨o,es,ep,t,j,M,hd,h0,u,h1,k,hf,hl,h2⟩:=y
  rw[<- u.length_eq,Fy,Ga];exact k
 unfold collect
 refine Ft (wpAny_runValue (Hm Mq ?_))
 rw[GX Mp]
 show wpAny _ A.in1 (newList [] >>= λl=>again (.builtin "list.__iadd__" #[[l,.ref S],[]])) _ _ s
 refine Ft (Gu (Fv #[Ih IG _,Hm MJ ?_]))
 rw[GX IG]
 show wpAny _ A.in1 (Builtin.List.listExtendWith (.ref s.heap.objs.size) (.ref S) (.ref s.heap.objs.size)) _ _ _
 unfold Builtin.List.listExtendWith
 have p:S < s.heap.objs.size:=by obtain⟨o,_,_,_,j,_⟩:=y;exact FF j
 generalize x:s.heap.push { cls:=.type "list",data:=.seq ([]:List Value).toArray }=H
 have gl:H.get? s.heap.objs.size=some { cls:=.type "list",data:=.seq ([]:List Value).toArray }:=by rw[<- x];exact FG _ Z
 have R:cQ prog w H S L:=y.at λo e=>by rw[<- x];exact Fx _ e
 have gk:∀b o,s.heap.get? b=some o->H.get? b=some o:=λb o e=>by rw[<- x];exact Fx _ e
 have T:Shared.TypeIs { s with heap:=H } (.ref S) "set":=by
  obtain⟨o,_,_,_,j,M,_⟩:=R
  exact#[o,j,M.1]
 refine Ft (HQ T ?_)
 have n1:Builtin.List.listSameRef (.ref s.heap.objs.size) (.ref S)=false:=by
  simp only[Builtin.List.listSameRef,beq_eq_false_iff_ne]
  exact GJ p
 have n2:(Value.type "set"==Value.type "list")=false:=by decide
 have n3:(Value.type "set"==Value.type "tuple")=false:=by decide
 simp only[n1,n2,n3,MG,FK,Hg]
 refine Ft (Yl (s:={ s with heap:=H }) R λr I B=>?_)
 obtain⟨fp,g,P,St,K,kg,ko,kt,C,h3,h4,D,W,st,hv,u⟩:=B
 have G:H.objs.size=s.heap.objs.size+1:=by rw[<- x,GH]
 have f:r.TypeIs (.ref S) "set":=by
  obtain⟨o,j,hc⟩:=T
  exact#[o,K _ _ j,hc]
 refine Ft (Gc ?_)
 unfold Builtin.List.listLengthHint
 refine Ft (Hz f PySem.F.slot_set_len.lookup ?_)
 wp_delta
 refine Ft (Ii (b:=true) f sub_set_self ?_)
 show wpAny _ A.in1 (typeOf (Value.ref S) >>= _) _ _ _
 refine Ft (HQ f (Fv ?_))
 rw[FQ MO]
 refine Ft (HU ?_)
 have U:=K _ _ gl
 refine Ft ?_
 show wpAny _ A.in1 (updateSeq s.heap.objs.size (·.push .none) >>= λ_=>updateSeq s.heap.objs.size (·.pop)) _ _ _
 refine Ft (LQ U Z ?_)
 have X:=Gs (Obj.mapSeq (·.push Value.none)) U Z
 refine LQ X Z ?_
 have g3:=Gs (Obj.mapSeq (·.pop)) X Z
 have N:¬s.heap.objs.size∈fp:=λm=>by
  rcases D _ m with e |e
  ·exact absurd p (by rw[<- e];exact G7 _)
  ·have e':H.objs.size<=s.heap.objs.size:=e
   omega
 have O:∀b o,b≠s.heap.objs.size->r.heap.get? b=some o->((r.heap.update s.heap.objs.size (Obj.mapSeq (·.push Value.none))).update s.heap.objs.size (Obj.mapSeq (·.pop))).get? b=some o:=
  λb o k e=>(FP _ _ (Gp k)).trans ((FP _ _ (Gp k)).trans e)
 have Y:=W A.in1 (by simpa using hh)
 have hn:g.length<=sizeLine:=by rw[u.length_eq];exact Lu n
 refine Fv #[Ih Mx _,codeAny_extend_loopS Y hn _ N _ g.length 0 _ _ _ Z (FN _) (Y.frame 0 r _ r.toks st (Fz _) λb k o e=>O b o (λz=>N (z▸k)) e) g3 (ItemsOf.nil P) λa J c m gS d=>?_]
 show wpAny _ A (load s.heap.objs.size >>= _) _ _ a
 refine Ft (wpAny_load gS (Fv (h a J.toList g (Iv (FF gS)) (λb o e=>?_) ?_ ?_ ?_ ?_ u)))
 ·have ne:b≠s.heap.objs.size:=FJ (FF e)
  refine m.heap b o ?_ (O b o ne (K b o (gk b o e)))
  simp only[Ib,Gh,I0,not_or]
  refine#[ne,λz=>?_]
  have q:s.heap.objs.size+1<=I:=G▸C
  have q2:=FF e
  rw[z]at q2
  exact absurd (FM (Ik q2) q) (G7 _)
 ·exact m.gens.trans kg
 ·exact m.os.trans ko
 ·exact FL kt m.toks
 ·refine qF _ _ (by rw[Ga,d.1]) λi v e=>hv i v (d.2 i v (by rwa [HP]at e))
end
section
variable {prog:Program}{w:World}{A:Around}{E:Value->Shared->Prop}{s:Shared}
theorem QY{S:Addr}(z:A.handled=none)(B:cQ prog w s.heap S L)(j:L.length < 64){Q:Value->Shared->Prop}
  (h:∀f a c v i,s.heap.objs.size<=a->(∀b o,s.heap.get? b=some o->f.heap.get? b=some o)->f.gens=s.gens->f.os=s.os->f.heap.get? a=some (seqObj "list" v c)->StrsAre v.toList i->i.Perm L->sortedS i=true->Q (.ref a) f):
  wpAny (model prog w) A (call (.builtin "sorted") [.ref S]) Q E s:=by
 refine Calls.call_function_entry kind_sorted plain_sorted entry_sorted (args_sorted1 _) ?_
 unfold Builtin.«sorted»
 refine Ft (m:=checkCount "sorted" 1 1 _) (Fv ?_)
 refine Ft (KW (by simpa using z) B λd v i K k C D P H r=>?_)
 have F:v.length < 64:=by rw[<- L2.StrsAre.len H,r.length_eq];exact j
 refine Ft (wpAny_newList ?_ (by have q:sizeLine=1000000000∨64<=sizeLine:=.inr MO;omega))
 have g:=FG d.heap (o:=seqObj "list" v.toArray 0) Z
 refine Ft (Gc (Gw slot_list_sort #[_,g,Z] entry_list_sort (list_sort_treeK strKind_oneLt g H.keysOf (λV t R e=>keyKind_strs (by rw[<- e];exact H)) F λl G I=>#[_,Z,?_]) (args_list_sort _)))
 obtain⟨n,u,J,M⟩:=sorted_out_str H G I
 generalize (arrOf l).map (·.2)=out at u ⊢
 obtain⟨c,N⟩:=sortedHeap_at (out:=out) g
 have O:∀b o,s.heap.get? b=some o->(sortedHeap (d.heap.push (seqObj "list" v.toArray 0)) d.heap.objs.size v out).get? b=some o:=by
  intro b o e
  have x:=k b o e
  have y:b < d.heap.objs.size:=FF x
  have p:b < (d.heap.push (seqObj "list" v.toArray 0)).objs.size:=by rw[size_push'];exact Ik y
  rw[sortedHeap_old (FJ y) p]
  exact Fx _ x
 exact Fv #[_,Z,h { d with heap:=sortedHeap (d.heap.push (seqObj "list" v.toArray 0)) d.heap.objs.size v out } d.heap.objs.size c out n K O C D N u (J.trans r) M]
end
theorem Jf(h:StrsAre v s):aw (s.map V.str) v:=by
 induction h with
 |nil=>exact .nil
 |cons y t _ i=>exact .cons #[t,Z] i
noncomputable def DF(P:Program)(w:World)(a:Addr)(L:List Str):HO:=.ext λh=>cQ P w h a L
section
variable {X:Cx}
theorem qd(i:X.calm=true):eG X (.builtin "sorted") (λx H Q=>∃(p:Addr) (L:List Str),x=[.ref p]/\H p=some (DF X.prog X.w p L)/\L.length < 64/\
  ∀l S,H l=none->S.Perm L->L.Nodup->sortedS S=true->Q (.ref l) (af H l (.lst (S.map V.str)))):=by
 intro P s B H x U Q I r h
 obtain⟨p,L,rfl,j,d,q⟩:=h
 obtain⟨u,rfl,R⟩:=eN r
 cases R
 obtain⟨f,_,_⟩:=I.hok p _ j
 have b:L.Nodup:=by obtain⟨_,_,_,_,_,_,_,_,_,b,_⟩:=f;exact b
 refine QY (I.ok.hd i) f d λm a c v S e k K o t y g A=>?_
 have len:(S.map V.str).length<=sizeLine:=by rw[Fy,g.length_eq];exact FL (Iv d) MO
 have n:aX X.prog X.w (af H a (.lst (S.map V.str))) m.heap a (.lst (S.map V.str)):=#[len,v.toList,c,Jf y,t]
 refine#[.ref a,_,I.call' (ch:=[]) o (Un.laid k e (I.hok.fresh e)) (I.hok.laid k e n) (by rw[K];exact I.bare) (λ_ z=>nomatch z),Z,q _ _ (I.hok.fresh e) g b A]
theorem QZ:eG X (.builtin "sorted") (λx H Q=>∃(p:Addr) (a:List Str),x=[.ref p]/\aP X.K H p (a.map V.str)/\a.length < 64/\
  ∀l S,H l=none->S.Perm a->sortedS S=true->Q (.ref l) (af H l (.lst (S.map V.str)))):=by
 intro P s v H x U Q I r h
 obtain⟨p,a,rfl,f,b,q⟩:=h
 obtain⟨u,rfl,R⟩:=eN r
 cases R
 obtain⟨i,g,j,y⟩:=I.list f
 have d:=zZ g
 have k:i.length=a.length:=(L2.StrsAre.len d).symm
 refine sorted_strs j.isList d (by rw[k];exact b) λo S m A n=>?_
 obtain⟨c,t⟩:=sortedAll_at s.heap i o
 have len:(S.map V.str).length<=sizeLine:=by rw[Fy,A.length_eq];exact FL (Iv b) MO
 refine#[.ref (s.heap.objs.size+1),_,I.laid (t':=s.toks) (λ_ _ e=>sortedAll_old e) (Hs _) (show aX X.prog X.w _ _ _ (.lst (S.map V.str)) from #[len,o.toList,c,Jf m,t]),Z,q _ _ (I.hok.fresh (Hs _)) A n]
end
theorem YV:mroOf (.type "reversed")=pure [.type "reversed",.type "object"]:=by rw[mroOf_type];kernel_rfl
theorem KJ:typeLookup (.type "reversed") "__new__"=pure (some (.builtin "reversed.__new__")):=by rw[Hl,Gy];kernel_rfl
theorem KY:Slot "reversed" "__init__" "object.__init__":=by
 refine .of (owner:="object") (n:="__init__") ?_ MS MS MS ?_ ?_
 ·rw[Hl,Gy];kernel_rfl
 ·first |exact .inl MS |exact .inr MS
 ·rw[Hv];kernel_rfl
theorem Ym:TypeCalled "reversed" "reversed.__new__" "object.__init__":=by
 refine#[MS,MS,#[_,_,YV],madeBy_type YV KJ MS,MS,?_,KY]
 rw[Hv];kernel_rfl
theorem Q0(a:Value):checkTypeCall "reversed" #[[a],[]]=pure ():=by kernel_rfl
theorem XI(a:Value):checkBuiltinCall "reversed.__new__" #[[.type "reversed",a],[]]=pure ():=by kernel_rfl
theorem KZ:entryFor table "reversed.__new__"=some Builtin.«reversed.__new__»:=LI (by kernel_rfl)
theorem wL:isSubtype (.type "reversed") (.type "reversed")=pure true:=by rw[Hv];kernel_rfl
theorem Q1:typeLookup (.type "tuple") "__reversed__"=pure none:=by rw[Hl,Gy];kernel_rfl
theorem KK:isSubtype (.type "tuple") (.type "dict")=pure false:=by rw[Hv];kernel_rfl
noncomputable def revObj(t:Addr)(n:Int):Obj:={ cls:=.type "reversed",data:=.fields (List.toArray [.ref t,.int (n - 1) 0]) }
section
variable {prog:Program}{w:World}{A:Around}{E:Value->Shared->Prop}{s:Shared}
theorem oI{Q:Value->Shared->Prop}(H:IsTup s.heap t i)(c:(i.size:Int) < 2 ^ 63)
  (h:Q (.ref s.heap.objs.size) { s with heap:=s.heap.push (revObj t i.size),toks:=s.toks+1+1 }):wpAny (model prog w) A (call (.type "reversed") [.ref t]) Q E s:=by
 refine callType_new (S:=λ_ R a=>a=s/\R (.ok (.ret (.ref s.heap.objs.size))) { s with heap:=s.heap.push (revObj t i.size),toks:=s.toks+1+1 }) Ym MO (Q0 _) (XI _) (λo=>I9 o _) KZ
  (.of_wp λp W f R a d=>?_) #[Z,#[_,FG _ Z,Z],h]
 obtain⟨rfl,e⟩:=d
 unfold Builtin.«reversed.__new__» Builtin.SmallTypes.newClass
 refine Ft ?_
 dsimp only
 refine Ft (Fv ?_)
 simp only[IA,FK,Hg]
 refine Ft (Ls wL ?_)
 simp only[IA,FK,Hg]
 refine Fv ?_
 refine Ft (m:=Builtin.SmallTypes.refuseKeywords _ _ _) (Fv ?_)
 refine Ft (m:=checkCount "reversed" 1 1 _) (Fv ?_)
 dsimp only
 refine Ft (Hz H.typeIs Q1 ?_)
 dsimp only
 refine Ft ?_
 show wpAny _ _ (isInstance (.ref t) (.type "dict") >>= _) _ _ _
 refine Ft (Ii (b:=false) H.typeIs KK ?_)
 simp only[FK,Hg]
 refine Ft (Hz H.typeIs PyProof.Rows.slot_tuple_getitem.lookup ?_)
 dsimp only
 rw[FQ MS]
 refine Fv ?_
 simp only[IA,FK,Hg]
 refine Ft (len_tuple H c ?_)
 refine Ft (m:=asInt? _) (Fv ?_)
 dsimp only
 show wpAny _ _ (newObj (.type "reversed") (.fields [Value.ref t,rawInt ((i.size:Int) - 1)].toArray) >>= _) _ _ _
 exact Ft (Gu (Fv #[_,Z,e]))
end
theorem zK:Slot "reversed" "__next__" "reversed.__next__":=by
 refine .of (owner:="reversed") (n:="__next__") ?_ MS MS MS ?_ ?_
 ·rw[Hl,Gy];kernel_rfl
 ·first |exact .inl MS |exact .inr MS
 ·rw[Hv];kernel_rfl
theorem qG:Slot "reversed" "__iter__" "reversed.__iter__":=by
 refine .of (owner:="reversed") (n:="__iter__") ?_ MS MS MS ?_ ?_
 ·rw[Hl,Gy];kernel_rfl
 ·first |exact .inl MS |exact .inr MS
 ·rw[Hv];kernel_rfl
theorem KL:entryFor table "reversed.__next__"=some Builtin.«reversed.__next__»:=LI (by kernel_rfl)
theorem KM:entryFor table "reversed.__iter__"=some Builtin.«dict_keyiterator.__iter__»:=by
 refine L9 (id':="dict_keyiterator.__iter__") ?_ Z MS ?_<;>kernel_rfl
theorem K0(a:Value):argsOk "reversed.__next__" #[[a],[]]:=by unfold argsOk;kernel_rfl
theorem K2(a:Value):argsOk "reversed.__iter__" #[[a],[]]:=by unfold argsOk;kernel_rfl
def dA(h:Heap)(I t:Addr)(k:Int):Prop:=∃o,h.get? I=some o/\o.cls= .type "reversed"/\o.data= .fields (List.toArray [.ref t,.int k 0])
theorem dA.at{H:Heap}(x:dA h I t k)(e:∀o,h.get? I=some o->H.get? I=some o):dA H I t k:=let #[o,a,r]:=x;#[o,e o a,r]
theorem dA.is{s:Shared}(x:dA s.heap I t k):s.TypeIs (.ref I) "reversed":=let #[o,h,H,_]:=x;#[o,h,H]
section
variable {prog:Program}{w:World}{A:Around}{E:Value->Shared->Prop}{s:Shared}
theorem Xg(H:dA s.heap I t k)
  (h:wpAny (model prog w) A.in1 (Builtin.«reversed.__next__» #[[.ref I],[]]) (λf S=>∃v,f= .done (.ret v)/\Q (some v) S) (λe S=>S.TypeIs e "StopIteration"/\Q none S) s):
  wpAny (model prog w) A (pyNext (.ref I)) Q E s:=by
 unfold pyNext
 refine Ft (IK (Gr (name:=Str.ofString "__next__") H.is zK (Gw zK H.is KL ?_ (K0 _))))
 refine GY h (λf S q=>?_) λe S q=>?_
 ·obtain⟨v,e,q⟩:=q
  exact#[v,e,Fv q]
 ·exact Ft (Ii (T:="StopIteration") (b:=true) q.1 LZ (Fv q.2))
theorem Cz{I t:Addr}{k:Nat}{items:Array Value}{x:Value}{Q:Option Value->Shared->Prop}(H:dA s.heap I t k)(c:IsTup s.heap t items)(d:items[k]?=some x)(e:(items.size:Int) < 2 ^ 63)
  (f:∀b,dA b I t ((k:Int) - 1)->Heap.SameBut I s.heap b->Q (some x) { s with heap:=b,toks:=s.toks+1 }):wpAny (model prog w) A (pyNext (.ref I)) Q E s:=by
 refine Xg H ?_
 obtain⟨o,a,g,h⟩:=H
 have i:k < items.size:=(Array.getElem?_eq_some_iff.mp d).1
 show wpAny _ _ (field (.ref I) 0 >>= _) _ _ s
 refine Ft (Gb a h (x:=.ref t) Z (Ft (Gb a h (x:=.int k 0) Z ?_)))
 dsimp only
 rw[FV MP]
 refine Ft (Hz c.typeIs PyProof.Rows.slot_tuple_getitem.lookup ?_)
 simp only[Option.isNone_some,FK,Hg]
 refine Ft (wpAny_mkInt (Ft (IK ?_)))
 refine getItem_tuple (s:={ s with toks:=s.toks+1 }) c MP MP (j:=k) ?_ d ?_
 ·unfold seqIndex?
  simp
  omega
 refine Ft (Gb (s:={ s with toks:=s.toks+1 }) a h (x:=.int k 0) Z ?_)
 dsimp only
 refine Ft (GG a h MQ (Fv #[x,Z,f _ ?_ (HN ..)]))
 exact#[_,Gs _ a (He (Go h _)),(IX ..).trans g,by rw[Go h];simp [rawInt]]
theorem ZK(f:A.handled=none){Q:Option Value->Shared->Prop}(h:dA s.heap I t (-1))
  (g:∀a,(∀b o,b≠I->s.heap.get? b=some o->a.get? b=some o)->Q none { s with heap:=a }):wpAny (model prog w) A (pyNext (.ref I)) Q E s:=by
 refine Xg h ?_
 obtain⟨o,c,j,H⟩:=h
 show wpAny _ _ (field (.ref I) 0 >>= _) _ _ s
 refine Ft (Gb c H (x:=.ref t) Z (Ft (Gb c H (x:=.int (-1) 0) Z ?_)))
 dsimp only
 rw[FQ MO]
 refine Ft (HU (Ft ?_))
 show wpAny _ _ (setField (.ref I) 1 (rawInt (-1)) >>= λ_=>setField (.ref I) 0 .none) _ _ _
 refine Ft (GG c H MQ ?_)
 refine GG (Gs _ c (He (Go H _))) (Go H _) MQ ?_
 refine Ft ?_
 refine JR (s:={ s with heap:=_ }) (by simpa using f) λa e k T=>#[T,g a λb o d i=>k b o ?_]
 exact(FP _ _ (Gp d)).trans ((FP _ _ (Gp d)).trans i)
theorem xH(H:dA s.heap I t k){Q:Value->Shared->Prop}(h:Q (.ref I) s):wpAny (model prog w) A (pyIter (.ref I)) Q E s:=by
 refine Mt H.is qG (Gw qG H.is KM ?_ (K2 _))
 show wpAny _ _ (ret (.ref I)) _ _ s
 exact Fv #[_,Z,"reversed",_,H.is,zK.lookup,h]
end
theorem JJ:entryFor table "dict.update.loop"=some Builtin.«dict.update.loop»:=LI (by kernel_rfl)
theorem zI:plainId "dict.update.loop"=true:=by decide+kernel
section
variable {X:Cx}{o lo hi:Expr}{to tl th:TE}{pos p2:Pos}
def EX(to tl th:TE):TG:=λv d H Q=>to d H λO e=>tl d e λa f=>th d f λc h=>∃l b x y i j,O= .ref l/\v= .ref b/\a= .int i/\c= .int j/\h l=some (.lst x)/\h b=some (.lst y)/\l≠b/\0<=i/\i<=j/\j<=(x.length:Int)/\
 x.length+y.length<=sizeLine/\Q d (af h l (.lst (x.take i.toNat++y++x.drop j.toNat)))
theorem rg(n:PE X o to)(t:PE X lo tl)(w:PE X hi th)
  (A:∀v,assign (.Subscript o (.Slice (some lo) (some hi) none p2) pos) X.env v=(do
   let O <- holding [v] (eval o X.env)
   let c <- holding [v,O] (eval (.Slice (some lo) (some hi) none p2) X.env)
   standAt pos
   holding [v,O,c] (setItem O c v)
   release [c,v,O] []):=by intro _;rfl):PG X (.Subscript o (.Slice (some lo) (some hi) none p2) pos) (EX to tl th):=by
 intro p s a H v u Q I r h
 rw[A]
 refine Ft (Gc (aW (n p s a H _ I h) λO B d=>?_))
 obtain⟨x,C,D,R,E⟩:=d
 refine Ft (Gc ?_)
 refine wpAny_Slice (aW (t p B a C _ D E) λV F #[y,G,J,K,L]=>aW (w p F a G _ J L) λm S f=>?_)
 obtain⟨z,M,N,P,l,b,xs,ys,i,j,T,U,W,Y,h1,h2,g,h0,k,hj,hz,q⟩:=f
 subst T U W Y
 cases (show O=Value.ref l from R)
 cases (show u=Value.ref b from r)
 refine Fv ?_
 have I4:ap X p a M { S with heap:=S.heap.push { cls:=.type "slice",data:=.fields (List.toArray [V,m,.none]) } }:=N.kept (t':=S.toks) λb o e=>Fx _ e
 refine Ft (Iu (Ft (Gc ?_)))
 exact Zy I4 h1 h2 g (Heap.IsSliceOf.new S.heap V m .none) K P h0 k hj hz λs5 I5=>wpAny_release #[a,_,I5,q]
end
end L2
namespace L2
open PySem PySem.Spec PyProof.Rows Builtin Builtin.Str
section
variable {prog:Program}{w:World}{A:Around}{E:Value->Shared->Prop}{s:Shared}
theorem Jh{lo:Option Int}{Q:Value->Shared->Prop}(H:IsTup s.heap t i)(d:s.heap.IsSliceOf e v j .none)(p:IsPart v lo)(P:IsPart j f)
  (g:HT.sIx i.size 0 lo=0/\HT.sIx i.size i.size f=i.size) (h:Q (.ref t) s):wpAny (model prog w) A (getItem (.ref t) (.ref e)) Q E s:=by
 obtain⟨os,a,b,k⟩:=id d
 have c:s.TypeIs (.ref e) "slice":=#[os,a,b]
 unfold getItem
 try with_reducible refine Gc ?_
 first |refine Ft (Fv ?_) |skip
 refine Ft (Ms H.typeIs MO ?_)
 refine Ft (Gr (name:=Str.ofString "__getitem__") H.typeIs Ic
  (Gw Ic H.typeIs PyProof.Rows.entry_tuple_getitem ?_ (PyProof.Rows.args_tuple_getitem _ _)))
 show wpAny _ _ (Builtin.Tuple.tupleItemsOf (.ref t) >>= _) _ _ s
 refine Ft (PyProof.Rows.tupleItemsOf_ H ?_)
 refine Ft (HQ c ?_)
 rw[FQ MO]
 refine Ft (HT.sliceApplied_gen d p P ?_)
 show wpAny _ _ (if (((HT.sIx i.size 0 lo:Nat):Int)==0&&(1:Int)==1&&(HT.sIx i.size i.size f - HT.sIx i.size 0 lo)==i.size)=true then _ else _) _ _ s
 rw[g.1,g.2,FQ MQ]
 unfold Builtin.Tuple.tupleIsExact
 refine Ft (Ft (HQ H.typeIs (Fv ?_)))
 rw[FQ MO]
 first
  |exact HU (Fv #[_,Z,Fv h])
  |exact Ft (HU (Fv #[_,Z,Fv h]))
  |exact Ft (Fv (Fv #[_,Z,Fv h]))
end
section
variable {X:Cx}
def xO:R2:=λx y H Q=>∃a b c Y,x= .ref a/\y= .ref b/\H a=some (.tup c)/\H b=some (.tup Y)/\c.length+Y.length<=sizeLine/\∀r h,h r=some (.tup (c++Y))->ae H h->Q (.ref r) h
theorem j8:em X (binaryOp .Add) xO:=by
 intro P s G H x y v u Q I r R h
 obtain⟨a,b,m,Y,rfl,rfl,d,f,J,q⟩:=h
 have t:=aA.of (K:=X.K) d
 have w:=aA.of (K:=X.K) f
 by_cases z:m=[]
 ·subst z
  cases r
  cases R
  obtain⟨l,L,M,_⟩:=I.tuple t
  obtain⟨i,r2,N,_⟩:=I.tuple w
  have O:l=[]:=L.nil_iff.mpr Z
  subst O
  obtain⟨⟨T,U,A,V⟩,B,C,n,E⟩:=id M
  obtain⟨⟨F,D,data2,S⟩,g,j,W,k⟩:=id N
  simp only at C E j k
  subst C E j k
  exact concat_meets #[_,B,Z] #[_,g,Z] ME seq_tuple_add Ll Lh (Lc _ _)
   (tuple_addW0 a b ([]:List Value).toArray i.toArray n W U D V S Z) #[B,g,.ref b,H,I,Z,q b H f (ae.refl H)]
 ·refine vO P s G H _ _ v u Q I r R #[a,b,m,Y,Z,Z,t,w,z,J,λe=>?_,λ_ p np=>?_]
  ·subst e
   exact q a H (by rw[IZ];exact d) (ae.refl H)
  ·exact q p _ jc λc o e=>by rw[jk (jm e np)];exact e
def CW:V->Option Int->Option Int->Hp->VK->Prop:=λx lo c H Q=>∃a b,x= .ref a/\H a=some (.tup b)/\∀r h,h r=some (.tup (a8 b lo c))->ae H h->Q (.ref r) h
theorem zh:DB X CW:=by
 intro P s u H x v V w lo j S Q I R k l m h
 obtain⟨a,b,rfl,d,q⟩:=h
 have n:=aA.of (K:=X.K) d
 by_cases g:HT.sIx b.length 0 lo=0/\HT.sIx b.length b.length j=b.length
 ·cases R
  obtain⟨i,r,t,y⟩:=I.tuple n
  have f:i.toArray.size=b.length:=by rw[FE];exact r.length.symm
  refine#["tuple",_,PyProof.Rows.slot_tuple_getitem.lookup,t.typeIs,?_]
  refine Jh t k l m (by rw[f];exact g) #[.ref a,H,I,Z,q a H ?_ (ae.refl H)]
  rw[d]
  unfold a8
  rw[g.1,g.2,List.drop_zero,Mb,Gz]
 ·exact Be P s u H _ v V w lo j S Q I R k l m #[a,b,Z,n,g,λp N=>q p _ jc λc o e=>by rw[jk (jm e N)];exact e]
end
end L2
namespace L2
open PySem PySem.Spec PyProof.Rows
theorem xo{G:Bool->Hp->Prop}(y:G true H)(n:b=false->G b H):G b H:=by
 cases b
 ·exact n Z
 ·exact y
theorem aZ{A:Prop}(h:∀G:Prop,(A->G)->G):A:=h A λz=>z
section
variable {t u:TS}{D:bu}{σ:St}{H:Hp}
theorem eX(h:∀E:bu,(∀a b,u D a b->E.nx a b)->t E σ H):dO t u D σ H:=h { D with nx:=u D } λ_ _ h=>h
theorem aj(h:∀F:St->Hp->Prop,(∀a b,u D a b->F a b)->t { D with nx:=F } σ H):dO t u D σ H:=h _ λ_ _ h=>h
theorem nk{c:TT}(h:∀F:Bool->Hp->Prop,(∀b a,(if b=true then t D σ a else u D σ a)->F b a)->c σ H F):io c t u D σ H:=h _ λ_ _ x=>x
theorem u6{c:TT}(h:∀F:Bool->Hp->Prop,(∀a,t D σ a->F true a)->(∀a,u D σ a->F false a)->c σ H F):io c t u D σ H:=by
 refine h _ (λa x=>?_) λa x=>?_
 ·show if true=true then _ else _
  rw[FQ Z];exact x
 ·show if false=true then _ else _
  rw[FV MO];exact x
theorem dB(R:St->Hp->Prop)(c:∀E:bu,E.rt=D.rt->(∀a b,R a b->E.nx a b)->t E σ H)(d:∀a b,R a b->D.nx a b):Dq t D σ H:=#[R,c { D with nx:=R } Z λ_ _ h=>h,d]
theorem tY{c:TT}{T:TS}(W:Nat->St->Hp->Prop)(d:Nat)(e:W d σ H)
  (f:∀m σ H,∀E:bu,E.rt=D.rt->(∀M a b,M < m->W M a b->E.nx a b)->∀F:Bool->Hp->Prop,(∀b,T E σ b->F true b)->(∀b,D.nx σ b->F false b)->∀G:Prop,(c σ H F->G)->W m σ H->G):tJ c T D σ H:=by
 refine#[W,#[d,e],λm σ H w=>?_]
 refine f m σ H { D with nx:=λa b=>∃M,M < m/\W M a b,ct:=λa b=>∃M,M < m/\W M a b,bk:=D.nx } Z (λM a b l g=>#[M,l,g]) _ (λb x=>?_) (λb x=>?_) _ (λz=>z) w
 ·show if true=true then _ else _
  rw[FQ Z]
  exact#[_,λ_ _ h=>h,x]
 ·show if false=true then _ else _
  rw[FV MO];exact x
def nZ(J:It)(g:TG)(T:TS)(D:bu)(σ:St)(H:Hp):Prop:=∃W:Nat->Nat->St->Hp->Prop,(∃m,W 0 m σ H)/\∀i m σ H,W i m σ H->
 (J.stop i H/\D.nx σ H)∨(J.go i H/\∃N:St->Hp->Prop,(∀a h,N a h->∃M,M < m/\W (i+1) M a h)/\∀x h,J.yld i H x h->g x σ h λb c=>T { D with nx:=N,ct:=N,bk:=D.nx } b c)
theorem eB{w:TI}(h:∀F:It->Hp->Prop,(∀J a,nZ J g T D σ a->F J a)->w σ H F):Bk w g T D σ H:=h _ λ_ _ z=>z
theorem Fk{g:TG}{Q:St->Hp->Prop}(h:∀F:St->Hp->Prop,(∀a b,Q a b->F a b)->g x σ H F):g x σ H Q:=h _ λ_ _ z=>z
theorem zE{lo:Int}{g:TG}{T:TS}{D:bu}{σ:St}{H:Hp}(Pv:Nat->St->Hp->Prop)(d:Pv 0 σ H)
  (e:∀E:bu,E.rt=D.rt->∀i σ H,i < n->(∀a c,Pv (i+1) a c->E.nx a c)->∀G:Prop,((g (.int (lo+i)) σ H λb f=>T E b f)->G)->Pv i σ H->G) (j:∀σ H,Pv n σ H->D.nx σ H):nZ (ut lo n) g T D σ H:=
 Qe Pv d (λi σ H k p=>e { D with nx:=Pv (i+1),ct:=Pv (i+1),bk:=D.nx } Z i σ H k (λ_ _ h=>h) _ (λz=>z) p) j
theorem Ju{K:Frag}{a:Addr}{xs:List V}{g:TG}{T:TS}{D:bu}{σ:St}{H:Hp}(Pv:Nat->St->Hp->Prop)(e:Pv 0 σ H)(f:∀i σ H,i<=xs.length->Pv i σ H->aP K H a xs)
  (j:∀E:bu,E.rt=D.rt->∀i x σ H,xs[i]?=some x->(∀b d,Pv (i+1) b d->E.nx b d)->∀G:Prop,((g x σ H λc k=>T E c k)->G)->Pv i σ H->G) (l:∀σ H,Pv xs.length σ H->D.nx σ H):nZ (xj K a) g T D σ H:=
 ph Pv e f (λi x σ H m p=>j { D with nx:=Pv (i+1),ct:=Pv (i+1),bk:=D.nx } Z i x σ H m (λ_ _ h=>h) _ (λz=>z) p) l
theorem qZ{K:Frag}{a:Addr}{xs:List V}{g:TG}{T:TS}{D:bu}{σ:St}{H:Hp}(Pv:Nat->St->Hp->Prop)(e:Pv 0 σ H)(f:∀i σ H,i<=xs.length->Pv i σ H->aA K H a xs)
  (j:∀E:bu,E.rt=D.rt->∀i x σ H,xs[i]?=some x->(∀b d,Pv (i+1) b d->E.nx b d)->∀G:Prop,((g x σ H λc k=>T E c k)->G)->Pv i σ H->G) (l:∀σ H,Pv xs.length σ H->D.nx σ H):nZ (uu K a) g T D σ H:=
 uT Pv e f (λi x σ H m p=>j { D with nx:=Pv (i+1),ct:=Pv (i+1),bk:=D.nx } Z i x σ H m (λ_ _ h=>h) _ (λz=>z) p) l
end
end L2
namespace L2
open PySem PySem.Spec PyProof.Rows PySem.SeqAt
inductive Tr where
 |lf (v:V) |tp (l:Tr) |nil |cons (h t:Tr)
noncomputable def Tr.dep:Tr->Nat
 | .lf _=>0
 | .tp l=>l.dep+1
 | .nil=>0
 | .cons h t=>max h.dep t.dep
noncomputable def Tr.isL:Tr->Bool
 | .nil=>true
 | .cons _ _=>true
 |_=>false
noncomputable def Ea:V->Bool
 | .byt _=>false
 | .flt _=>false
 |_=>true
def lE(K:Frag)(H:Hp):Tr->V->List V->Prop
 | .lf v,x,_=>x=v/\Ea v=true
 | .tp l,x,_=>l.isL=true/\∃a X,x= .ref a/\aA K H a X/\lE K H l .non X
 | .nil,_,X=>X=[]
 | .cons h t,_,X=>h.isL=false/\t.isL=true/\∃y Y,X=y::Y/\lE K H h y []/\lE K H t .non Y
theorem ZL(o:Ea v=true)(r:ax v u)(R:ax v U):EqAt A s u U true:=by
 cases v with
 |int a=>
  obtain⟨t,rfl⟩:=r
  obtain⟨T,rfl⟩:=R
  have:=EqAt.int_int (A:=A) (s:=s) a t a T
  rwa [HK]at this
 |str a=>
  obtain⟨t,rfl⟩:=r
  obtain⟨T,rfl⟩:=R
  have:=EqAt.str_str (A:=A) (s:=s) a t a T
  rwa [HK]at this
 |byt b=>cases o
 |flt b=>cases o
 |non=>cases r;cases R;exact MD _
 |bl b=>cases r;cases R;exact MD _
 |ref b=>cases r;cases R;exact MD _
 |ty b=>cases r;cases R;exact MD _
section
variable {X:Cx}
theorem Qv:(List.range n).all (λ_=>true)=true:=by simp
theorem YW(I:ap X p D H s){A:Around}(k:aA X.K H a d)(l:aA X.K H b Y)(m:d.length=Y.length)(n:A.units < cLine)
  (h:∀(j:Nat) (x y:V) (u v:Value),d[j]?=some x->Y[j]?=some y->ax x u->ax y v->EqAt A.in1 s u v true):RcAt A s (.ref a) (.ref b) true:=by
 obtain⟨i,r,P,_⟩:=I.tuple k
 obtain⟨f,R,o,_⟩:=I.tuple l
 have:=RcAt.tuples (A:=A) (e:=λ_=>true) (show s.heap.IsTuple a i.toArray from P) (show s.heap.IsTuple b f.toArray from o) n (λj q F=>?_)
 ·rw[Qv,FE,FE,<- r.length,<- R.length,m,HK]at this
  exact this
 ·have L:=r.length
  have G:=R.length
  have g:j < d.length:=by simp at q;omega
  have c:j < Y.length:=by omega
  obtain⟨U,Q,t⟩:=r.get (Fu g)
  obtain⟨w,z,B⟩:=R.get (Fu c)
  have E:i.toArray[j]=U:=by
   obtain⟨_,e⟩:=List.getElem?_eq_some_iff.mp Q
   simpa using e
  have C:f.toArray[j]=w:=by
   obtain⟨_,e⟩:=List.getElem?_eq_some_iff.mp z
   simpa using e
  rw[E,C]
  exact h j _ _ _ _ (Fu g) (Fu c) t B
theorem ya(I:ap X p U H s):∀(t:Tr) {A:Around},A.units+t.dep < cLine->∀{x y:V} {c Y:List V},lE X.K H t x c->lE X.K H t y Y->
  (t.isL=false->∀u v,ax x u->ax y v->EqAt A s u v true)/\(t.isL=true->c.length=Y.length/\∀(j:Nat) (d f:V) (u v:Value),c[j]?=some d->Y[j]?=some f->ax d u->ax f v->EqAt A s u v true):=by
 intro t
 induction t with
 |lf w=>
  rintro A g x y c Y ⟨rfl,O⟩ ⟨rfl,_⟩
  exact#[λ_ u v r R=>ZL O r R,λh=>by cases h]
 |tp l q=>
  rintro A g x y c Y ⟨z,a,W,rfl,B,T⟩ ⟨_,b,bs,rfl,C,D⟩
  refine#[λ_ u v r R=>?_,λh=>by cases h]
  cases r
  cases R
  have E:A.units+(l.dep+1) < cLine:=g
  have i:=(q (A:=A.in1) (by show A.units+1+l.dep < cLine;omega) T D).2 z
  by_cases e:a=b
  ·rw[e];exact MD _
  ·exact EqAt.of_refs e (YW I B C i.1 MP i.2)
 |nil=>
  rintro A g x y c Y rfl rfl
  exact#[(λh=>by cases h),λ_=>#[Z,λj d f u v h=>by simp at h]]
 |cons h t k m=>
  rintro A g x y c Y ⟨F,G,x1,J,rfl,P,L⟩ ⟨_,_,y1,M,rfl,Q,N⟩
  have E:A.units+max h.dep t.dep < cLine:=g
  have S:=(k (A:=A) MP P Q).1 F
  have i:=(m (A:=A) MP L N).2 G
  refine#[(λh=>by cases h),λ_=>#[by rw[Gi,Gi,i.1],λj d f u v n o=>?_]]
  cases j with
  |zero=>cases n;cases o;exact S u v
  |succ j=>exact i.2 j d f u v (by simpa using n) (by simpa using o)
def xP(K:Frag)(d:Nat)(b:Bool):R2:=λx y H Q=>∃l:Tr,l.dep < d/\lE K H (.tp l) x []/\lE K H (.tp l) y []/\Q (.bl b) H
theorem vP{d:Nat}(i:X.A.units+d < cLine):em X (compareOp .Eq) (xP X.K d true):=by
 intro p s j H x y v u Q I r R h
 obtain⟨l,k,⟨e,a,m,rfl,f,t⟩,⟨_,b,B,rfl,g,T⟩,q⟩:=h
 cases r
 cases R
 have c:=(ya I l (A:=X.A.in1) (by show X.A.units+1+l.dep < cLine;omega) t T).2 e
 exact YW I f g c.1 MP c.2 X.prog X.w _ _ #[.bl true,H,I,Z,q]
theorem we(I:ap X p D H s){A:Around}(k:aA X.K H a d)(l:aA X.K H b Y)(m:d.length=Y.length)(n:A.units < cLine)
  (h:∀(j:Nat) (x y:V) (u v:Value),d[j]?=some x->Y[j]?=some y->ax x u->ax y v->EqAt A.in1 s u v true):RcNeAt A s (.ref a) (.ref b) false:=by
 obtain⟨i,r,P,_⟩:=I.tuple k
 obtain⟨f,R,o,_⟩:=I.tuple l
 have:=RcNeAt.tuples (A:=A) (e:=λ_=>true) (show s.heap.IsTuple a i.toArray from P) (show s.heap.IsTuple b f.toArray from o) n (λj q F=>?_)
 ·rw[Qv,FE,FE,<- r.length,<- R.length,m,HK]at this
  exact this
 ·have L:=r.length
  have G:=R.length
  have g:j < d.length:=by simp at q;omega
  have c:j < Y.length:=by omega
  obtain⟨U,Q,t⟩:=r.get (Fu g)
  obtain⟨w,z,B⟩:=R.get (Fu c)
  have E:i.toArray[j]=U:=by
   obtain⟨_,e⟩:=List.getElem?_eq_some_iff.mp Q
   simpa using e
  have C:f.toArray[j]=w:=by
   obtain⟨_,e⟩:=List.getElem?_eq_some_iff.mp z
   simpa using e
  rw[E,C]
  exact h j _ _ _ _ (Fu g) (Fu c) t B
theorem YX{d:Nat}(i:X.A.units+d < cLine):em X (compareOp .NotEq) (xP X.K d false):=by
 intro p s j H x y v u Q I r R h
 obtain⟨l,k,⟨e,a,m,rfl,f,t⟩,⟨_,b,B,rfl,g,T⟩,q⟩:=h
 cases r
 cases R
 have c:=(ya I l (A:=X.A.in1) (by show X.A.units+1+l.dep < cLine;omega) t T).2 e
 exact we I f g c.1 MP c.2 X.prog X.w _ _ #[.bl false,H,I,Z,q]
end
end L2
namespace L2
open PySem PySem.Spec PyProof.Rows
noncomputable def DR(K:Frag)(a:Addr)(n:Nat):It:=
 #[λi H=>∃X x,aA K H a X/\X.length=n/\X.reverse[i]?=some x,λi H x h=>h=H/\∀X,aA K H a X->X.reverse[i]?=some x,λi H=>∃X,aA K H a X/\X.length=n/\i=n]
theorem tN{P:Program}{K:Frag}(a f:Addr)(n:Nat):me P w K tg (DR K a n) [f] f (λi h=>dA h f a ((n:Int) - 1 - i)) where
 mem:=by simp
 obj:=λi h st b j=>by
  have e:b=f:=by simpa using j
  subst e
  obtain⟨o,e,c,d⟩:=st
  exact#[o,e,λv z=>by rw[d]at z;cases z]
 keep:=λi h q st k=>st.at λo e=>k f MQ o e
 item:=by
  intro X y A B O i g s Q H E I t st C
  subst y A B
  obtain⟨l,x,D,T,m⟩:=C
  obtain⟨r,R,p,hz⟩:=I.tuple D
  have hl:=R.length
  have U:=dS
  have V:i < l.length:=by
   rcases Lo i l.length with z |z
   ·exact z
   ·rw[Hc (by simpa using z)]at m;cases m
  have F:l[l.length - 1 - i]?=some x:=by rw[IU V]at m;exact m
  obtain⟨u,W,Y⟩:=R.get F
  obtain⟨G,J,f2,L,M,N⟩:=t f MQ
  have e:((n:Int) - 1 - i)=((l.length - 1 - i:Nat):Int):=by omega
  rw[e]at st
  refine Cz (items:=r.toArray) st (show IsTup s.heap a r.toArray from p) (x:=u) (by simpa using W) (by simp only[FE];omega) λq S sb=>?_
  have I1:ap X g Q H { s with heap:=q,toks:=s.toks+1 }:=I.turned (t':=s.toks+1) (λb o j e=>(sb.2 b j).trans e) G J L M N
  obtain⟨o,e',c,d⟩:=id S
  refine#[u,Z,YB (s:={ s with heap:=q,toks:=s.toks+1 }) e' c d MO #[x,H,I1,Y,#[Z,λys hy=>by rw[I.tuple_inj hy D];exact m],?_,λb j=>(t b j).1]]
  have e2:((n:Int) - 1 - ((i+1:Nat):Int))=((l.length - 1 - i:Nat):Int) - 1:=by omega
  show dA q f a ((n:Int) - 1 - ((i+1:Nat):Int))
  rw[e2];exact S
 done:=by
  intro X y A B O i g s Q H E I t st C
  subst y A B
  obtain⟨l,D,T,m⟩:=C
  obtain⟨G,J,f2,L,M,N⟩:=t f MQ
  have e:((n:Int) - 1 - (i:Int))= -1:=by omega
  rw[e]at st
  exact ZK (I.ok.hd O) st λq eb=>#[Z,I.turned (t':=s.toks) (λb o j e=>eb b o j e) G J L M N]
 self:=λ_ _ _ _ _ st h=>xH st h
section
variable {X:Cx}{tg:Expr}
def D5(K:Frag)(t:TE):TI:=λc H R=>t c H λx h=>∃a b,x= .ref a/\aA K h a b/\R (DR K a b.length) h
theorem rh{e:Expr}{t:TE}{c:Str}{p P:Pos}(j:Gl X c)(k:X.mg c=none)(l:bootBuiltins c=some (.type "reversed"))(y:PE X e t)(m:c≠"__name__":=by decide)(n:(c==("__debug__":Str))=false:=by decide)
  (r:starEach [e] X.env=(false,eval e X.env)::starEach [] X.env:=by rfl) (A:(backTo P (starEach [] X.env)).any (·.1)=false:=by rfl):PI X tg (.Call (.Name c p) [e] [] P) (D5 X.K t):=by
 intro d s B H R I h
 refine GZ (zR I j k l ?_ m n)
 refine GF ?_ r A
 rw[r]
 show wpAny _ _ (spliced ((false,eval e X.env)::backTo P (starEach [] X.env))) _ _ s
 refine Ia (aW (y d s B H _ I h) λu S z=>?_)
 obtain⟨x,C,g,D,a,v,E,F,q⟩:=z
 subst E
 cases (show u=Value.ref a from D)
 obtain⟨i,G,J,N⟩:=g.tuple F
 have f:=G.length
 have L:=dS
 refine Iy (oI (show IsTup S.heap a i.toArray from J) (by simp only[FE];omega) ?_)
 have w:dA (S.heap.push (revObj a i.toArray.size)) S.heap.objs.size a ((v.length:Int) - 1 - ((0:Nat):Int)):=#[_,FG _ Z,Z,by rw[FE,<- f];simp [revObj]]
 refine xH (s:={ S with heap:=S.heap.push (revObj a i.toArray.size),toks:=S.toks+1+1 }) w ?_
 refine#[S.heap.objs.size,[S.heap.objs.size],_,_,C,Z,g.kept (t':=S.toks+1+1) λb o e=>Fx _ e,tN a _ v.length,w,λb M=>?_,q]
 have e:b=S.heap.objs.size:=by simpa using M
 subst e
 exact g.fpOk (Fz _) (g.hok.fresh (Fz _))
end
theorem Xh{K:Frag}{xs:List V}{g:TG}{t:TS}{D:bu}(Pv:Nat->St->Hp->Prop)(k:Pv 0 b H)(l:∀i b H,i<=xs.length->Pv i b H->aA K H a xs)
  (n:∀E:bu,E.rt=D.rt->∀i x b H,xs.reverse[i]?=some x->(∀c f,Pv (i+1) c f->E.nx c f)->∀G:Prop,((g x b H λj o=>t E j o)->G)->Pv i b H->G) (r:∀b H,Pv xs.length b H->D.nx b H):nZ (DR K a xs.length) g t D b H:=by
 refine#[λi m b H=>m=xs.length - i/\i<=xs.length/\Pv i b H,#[xs.length,MQ,FN _,k],?_]
 rintro i m b H ⟨rfl,s,p⟩
 have q:=l i b H s p
 by_cases d:i < xs.length
 ·refine .inr #[#[xs,_,q,Z,Fu (by simpa using d)],Pv (i+1),λc f P=>#[xs.length - (i+1),MP,Z,d,P],λx f y=>?_]
  obtain⟨e,y⟩:=y
  subst e
  exact n { D with nx:=Pv (i+1),ct:=Pv (i+1),bk:=D.nx } Z i x b _ (y xs q) (λ_ _ h=>h) _ (λz=>z) p
 ·have e:i=xs.length:=by omega
  subst e
  exact .inl #[#[xs,q,Z,Z],r b H p]
theorem sP:Slot "list_reverseiterator" "__length_hint__" "list_reverseiterator.__length_hint__":=by
 refine Slot.of (owner:="list_reverseiterator") (n:="__length_hint__") (by rw[Hl,Gy];kernel_rfl) MS MS MS ?_ (by rw[Hv];kernel_rfl)
 first |exact .inl MS |exact .inr MS
theorem ZM:typeLookup (.type "list_reverseiterator") "__len__"=pure none:=by rw[Hl,Gy];kernel_rfl
theorem Bg:isSubtype (.type "list_reverseiterator") (.type "list_reverseiterator")=pure true:=by rw[Hv];kernel_rfl
section
variable {prog:Program}{w:World}{A:Around}{E:Value->Shared->Prop}{s:Shared}
theorem yE(H:s.heap.IsRevIter I t k){Q:Bool->Shared->Prop}(h:Q false s):wpAny (model prog w) A (Builtin.List.listLengthHint (.ref I)) Q E s:=by
 unfold Builtin.List.listLengthHint
 refine Ft (Hz H.typeIs ZM ?_)
 show wpAny _ A (specialOf (Value.ref I) (Str.ofString "__length_hint__") >>= _) _ _ _
 refine Ft (Hz H.typeIs sP.lookup ?_)
 have e:splitId "list_reverseiterator.__length_hint__"=some ("list_reverseiterator","__length_hint__"):=by decide+kernel
 dsimp only
 rw[e]
 dsimp only
 refine Ft (Ii (b:=true) H.typeIs Bg ?_)
 simp only[IA,FK,Hg]
 rw[FQ MS,FV MS]
 exact Fv h
theorem oe{a:Array Value}{Q:List Value->Shared->Prop}(z:A.handled=none)(f:s.heap.IsRevIter I t ((a.size:Int) - 1))(r:s.heap.IsList t a)(B:t≠I)(C:a.size<=sizeLine)
  (D:∀S,(∀b o,b≠I->s.heap.get? b=some o->S.heap.get? b=some o)->s.heap.objs.size<=S.heap.objs.size->S.gens=s.gens->S.os=s.os->Q a.toList.reverse S):wpAny (model prog w) A (collect (.ref I)) Q E s:=by
 have j:I < s.heap.objs.size:=by obtain⟨o,k,_⟩:=f;exact FF k
 have n:t < s.heap.objs.size:=by obtain⟨o,k,_⟩:=r;exact FF k
 have u:I≠s.heap.objs.size:=FJ j
 have F:t≠s.heap.objs.size:=FJ n
 unfold collect
 refine Ft (wpAny_runValue (Hm Mq (by
  rw[GX Mp _]
  show wpAny _ A.in1 (newList [] >>= λl=>again (.builtin "list.__iadd__" #[[l,.ref I],[]])) _ _ s
  refine Ft (Gu (Fv #[Ih IG _,Hm MJ ?_]))
  rw[GX IG _]
  generalize v:s.heap.push { cls:=.type "list",data:=.seq ([]:List Value).toArray }=H
  have J:H.get? s.heap.objs.size=some { cls:=.type "list",data:=.seq (List.toArray []) }:=by rw[<- v];exact FG _ Z
  have G:∀b o,s.heap.get? b=some o->H.get? b=some o:=λb o e=>by rw[<- v];exact Fx _ e
  have h:H.IsRevIter I t ((a.size:Int) - 1):=f.at λo e=>G I o e
  have p:H.IsList t a:=r.at λo e=>G t o e
  show wpAny _ A.in1 (Builtin.List.listExtendWith (.ref s.heap.objs.size) (.ref I) (.ref s.heap.objs.size)) _ _ { s with heap:=H }
  unfold Builtin.List.listExtendWith
  refine Ft (HQ (s:={ s with heap:=H }) h.typeIs ?_)
  have K:Builtin.List.listSameRef (.ref s.heap.objs.size) (.ref I)=false:=by
   simp only[Builtin.List.listSameRef,beq_eq_false_iff_ne]
   exact Gp u
  have L:(Value.type "list_reverseiterator"==Value.type "list")=false:=by decide
  have M:(Value.type "list_reverseiterator"==Value.type "tuple")=false:=by decide
  simp only[K,L,M,MG,FK,Hg]
  refine Ft (wpAny_pyIter_revIter (s:={ s with heap:=H }) h (Ft (Gc (yE (s:={ s with heap:=H }) h ?_))))
  have N:¬s.heap.objs.size∈[I,t]:=by simp only[Ib,Gh,I0,not_or];exact#[Gp u,Gp F]
  rw[FV MS]
  refine Fv #[Ih Mx _,?_]
  have W:=(Walks.listRev (prog:=prog) (w:=w) (A:=A.in1) (by simpa using z) I t B a).toS
  refine codeAny_extend_loopS W C _ N _ a.size 0 _ (List.toArray []) _ Z (FN _) #[FN _,by simpa using h,p] J (ItemsOf.nil _) λS d U m x c=>?_
  have O:d=a.toList.reverse.toArray:=by
   apply Array.ext'
   refine List.ext_getElem? λi=>?_
   by_cases y:i < a.size
   ·have g:i < d.size:=by rw[c.1];exact y
    have q:=c.2 i d[i] (by simp [g])
    rw[HP,HS g,<- q]
    show a[a.size - 1 - i]?=a.toList.reverse[i]?
    rw[IU (by simpa using y)]
    simp
   ·rw[Hc (by rw[Ga,c.1];omega),Hc (by simp;omega)]
  subst O
  show wpAny _ A (load s.heap.objs.size >>= _) _ _ S
  refine Ft (wpAny_load x (Fv ?_))
  have P:a.toList.reverse.toArray.toList=a.toList.reverse:=by simp
  rw[P]
  refine D S (λb o R e=>?_) ?_ m.gens m.os
  ·have T:b≠s.heap.objs.size:=FJ (FF e)
   exact m.heap b o (by simp only[Ib,Gh,I0,not_or];exact#[T,R]) (G b o e)
  ·exact Iv (FF x))))
end
section
variable {prog:Program}{w:World}{A:Around}{E:Value->Shared->Prop}{s:Shared}
theorem Q2{i:Array Value}{Q:Value->Shared->Prop}(f:A.handled=none)(H:s.heap.IsRevIter I t ((i.size:Int) - 1))(g:s.heap.IsList t i)(j:t≠I)(d:i.size<=sizeLine)
  (h:∀S:Shared,(∀b o,b≠I->s.heap.get? b=some o->S.heap.get? b=some o)->s.heap.objs.size<=S.heap.objs.size->S.gens=s.gens->S.os=s.os->
   Q (.ref S.heap.objs.size) { S with heap:=S.heap.push { cls:=.type "tuple",data:=.seq i.toList.reverse.toArray } }):
  codeAny (model prog w) A (.call (.builtin "tuple.__new__") #[[.type "tuple",.ref I],[]]) (wants Q E) s:=by
 refine codeAny_of_tree (show wpAny _ A.in1 (do checkBuiltinCall "tuple.__new__" #[[.type "tuple",.ref I],[]];again (.builtin "tuple.__new__" #[[.type "tuple",.ref I],[]])) _ _ s from ?_)
 refine Ft (Ls (PySem.F.newCall_tuple_1 _) (Fv #[Ih MH _,Hm PySem.F.entry_tuple_new (by
  rw[GX MH _]
  have e:=sub_tuple_self
  have a:=init_tuple_lookup
  have l:=madeHere_tuple
  have c:=H.typeIs
  wp_walk using HQ c,oe (by simpa using f) H g j d
  intro S k z m n
  show wpAny _ _ (Builtin.Tuple.tupleExact i.toList.reverse.toArray >>= λv=>ret v) _ _ _
  unfold Builtin.Tuple.tupleExact
  exact Ft (Gu (Fv (h S k z m n)) (by show i.toList.reverse.toArray.size<=sizeLine;simpa using d)))]))
theorem Q3{items:Array Value}{Q:Value->Shared->Prop}(d:A.handled=none)(c:s.heap.IsRevIter I t ((items.size:Int) - 1))(e:s.heap.IsList t items)(f:t≠I)(g:items.size<=sizeLine)
  (h:∀a:Shared,(∀b o,b≠I->s.heap.get? b=some o->a.heap.get? b=some o)->s.heap.objs.size<=a.heap.objs.size->a.gens=s.gens->a.os=s.os->
   Q (.ref a.heap.objs.size) { a with heap:=a.heap.push { cls:=.type "tuple",data:=.seq items.toList.reverse.toArray } }):wpAny (model prog w) A (call (.type "tuple") [.ref I]) Q E s:=by
 refine callType_codes (Q₁:=λO S=>S.TypeIs O "tuple"/\Q O S) PySem.F.called_tuple (PySem.F.typeCall_tuple_1 _) PySem.F.entry_object_init (Q2 (by simpa using d) c e f g λa k z i j=>#[#[_,FG _ Z,Z],h a k z i j]) λO S H=>?_
 exact#[H.1,I9 O _,object_init_meets PySem.F.called_tuple.init.lookup PySem.F.called_tuple.made MO prog w A.in1 _ S #[H.1,Z,H.2]]
end
section
variable {X:Cx}{e:Expr}{te:TE}{xl xr:Str}{p p2 pos pos2:Pos}
def wP(K:Frag)(te:TE):TE:=λc H Q=>te c H λx h=>∃a b,x= .ref a/\aP K h a b/\∀l,h l=none->Q (.ref l) (af h l (.tup b.reverse))
theorem ZN(M:X.calm=true)(g:Gl X xl)(j:X.mg xl=none)(l:bootBuiltins xl=some (.type "tuple"))(m:Gl X xr)(n:X.mg xr=none)(r:bootBuiltins xr=some (.type "reversed"))(O:PE X e te)
  (t:xl≠"__name__":=by decide) (v:(xl==("__debug__":Str))=false:=by decide) (y:xr≠"__name__":=by decide) (A:(xr==("__debug__":Str))=false:=by decide)
  (E:starEach [.Call (.Name xr p2) [e] [] pos2] X.env=(false,eval (.Call (.Name xr p2) [e] [] pos2) X.env)::starEach [] X.env:=by rfl) (T:(backTo pos (starEach [] X.env)).any (·.1)=false:=by rfl)
  (F:starEach [e] X.env=(false,eval e X.env)::starEach [] X.env:=by rfl) (U:(backTo pos2 (starEach [] X.env)).any (·.1)=false:=by rfl):
  PE X (.Call (.Name xl p) [.Call (.Name xr p2) [e] [] pos2] [] pos) (wP X.K te):=by
 intro P s V H Q I h
 refine GZ (zR I g j l ?_ t v)
 refine GF ?_ E T
 rw[E]
 show wpAny _ _ (spliced ((false,eval (.Call (.Name xr p2) [e] [] pos2) X.env)::backTo pos (starEach [] X.env))) _ _ s
 refine Ia ?_
 refine GZ (zR I m n r ?_ y A)
 refine GF ?_ F U
 rw[F]
 show wpAny _ _ (spliced ((false,eval e X.env)::backTo pos2 (starEach [] X.env))) _ _ s
 refine Ia (aW (O P s V H _ I h) λu d B=>?_)
 obtain⟨x,W,f,Y,a,G,ex,hq,q⟩:=B
 subst ex
 cases (show u=Value.ref a from Y)
 obtain⟨i,R,C,hz⟩:=f.list hq
 have J:=R.length
 refine Iy (call_reversed_list C.isList (Iy ?_))
 have D:a < d.heap.objs.size:=by obtain⟨o,ho,_⟩:=C.isList;exact FF ho
 refine Q3 (s:={ d with heap:=d.heap.push (PySem.revObj a ((i.toArray.size:Int) - 1)) }) (items:=i.toArray) (I.ok.hd M) #[_,FG _ Z,Z,Z] (C.isList.at λo e=>Fx _ e) (FJ D)
  (by simp only[FE];omega) λS k hl kg ko=>?_
 have c:d.heap.objs.size<=S.heap.objs.size:=FL (by show _<=(d.heap.push _).objs.size;rw[GH];exact Hs _) hl
 have L:∀b o,d.heap.get? b=some o->(S.heap.push { cls:=.type "tuple",data:=.seq i.toArray.toList.reverse.toArray }).get? b=some o:=λb o e=>Fx _ (k b o (FJ (FF e)) (Fx _ e))
 have hg:(S.heap.push { cls:=.type "tuple",data:=.seq i.toArray.toList.reverse.toArray }).get? S.heap.objs.size=some { cls:=.type "tuple",data:=.seq i.toArray.toList.reverse.toArray }:=FG _ Z
 have N:aX X.prog X.w (af W S.heap.objs.size (.tup G.reverse)) (S.heap.push { cls:=.type "tuple",data:=.seq i.toArray.toList.reverse.toArray }) S.heap.objs.size (.tup G.reverse):=by
  refine#[by rw[List.length_reverse];exact hz,i.reverse,aw.reverse R,?_]
  have ee:i.toArray.toList.reverse.toArray=i.reverse.toArray:=by simp
  rw[<- ee]
  exact#[_,hg,Z,_,Z]
 exact#[.ref S.heap.objs.size,_,f.call' (ch:=[]) ko (Un.laid L c (f.hok.fresh c)) (f.hok.laid L c N) (by show AllBare S.gens;rw[kg];exact f.bare) (λ_ z=>nomatch z),Z,q _ (f.hok.fresh c)]
end
section
variable {prog:Program}{w:World}{A:Around}{E:Value->Shared->Prop}{s:Shared}
theorem KC{x:Value}{Q:Value->Shared->Prop}(a:s.heap.IsTupleIter J T i)(e:s.heap.IsTuple T I)(f:I[i]?=some x)
  (q:∀b,b.IsTupleIter J T (i+1)->Heap.SameBut J s.heap b->Q x { s with heap:=b }):wpAny (model prog w) A (Builtin.SmallTypes.nextOf (.ref J)) Q E s:=by
 obtain⟨o,H,g,h⟩:=id a
 obtain⟨O,c,_,n,d⟩:=e
 unfold Builtin.SmallTypes.nextOf
 refine Ft (Gr (name:=Str.ofString "__next__") a.typeIs Hd (Gw Hd a.typeIs IJ (show wpAny _ _ (field (.ref J) 0 >>= _) _ _ s from ?_) (IF _)))
 refine Ft (Gb H h (x:=.ref T) Z (show wpAny _ _ (if (Value.ref T==Value.none)=true then _ else _) _ _ s from ?_))
 rw[FV (show ¬((Value.ref T==Value.none)=true) from FH)]
 refine(show wpAny _ _ (field (.ref J) 1 >>= _) _ _ s from Ft (Gb H h (x:=.int i 0) Z (show wpAny _ _ (seqItems? (.ref T) >>= _) _ _ s from Ft (GS c d ?_))))
 simp only[GQ,f]
 refine Ft (GG H h MQ (Fv #[x,Z,Fv (q _ #[_,Gs _ H (He (Go h _)),(IX ..).trans g,by rw[Go h];simp [rawInt]] (HN ..))]))
theorem ZO(g:A.handled=none)(H:s.heap.IsTupleIter J T i)(j:s.heap.IsTuple T I)(l:I[i]?=none)
  (q:∀h e,Heap.ExtBut J s.heap h->Shared.TypeIs { s with heap:=h } e "StopIteration"->E e { s with heap:=h }):wpAny (model prog w) A (Builtin.SmallTypes.nextOf (.ref J)) Q E s:=by
 obtain⟨o,a,p,c⟩:=id H
 obtain⟨O,d,_,N,f⟩:=j
 unfold Builtin.SmallTypes.nextOf
 refine Ft (Gr (name:=Str.ofString "__next__") H.typeIs Hd (Gw Hd H.typeIs IJ (show wpAny _ _ (field (.ref J) 0 >>= _) _ _ s from ?_) (IF _)))
 refine Ft (Gb a c (x:=.ref T) Z (show wpAny _ _ (if (Value.ref T==Value.none)=true then _ else _) _ _ s from ?_))
 rw[FV (show ¬((Value.ref T==Value.none)=true) from FH)]
 refine(show wpAny _ _ (field (.ref J) 1 >>= _) _ _ s from Ft (Gb a c (x:=.int i 0) Z (show wpAny _ _ (seqItems? (.ref T) >>= _) _ _ s from Ft (GS d f ?_))))
 simp only[GQ,l]
 refine Ft (HU (Ft (GG a c MQ ?_)))
 refine JR (by simpa using g) λh e k t=>q h e (λb o m n=>k b o ?_) t
 exact(FP _ _ (Gp m)).trans n
end
def gA(b:Bool)(h:Heap)(i l:Addr)(k:Nat):Prop:=match b with
 |true=>h.IsListIter i l k
 |false=>h.IsTupleIter i l k
def iq(b:Bool)(h:Heap)(l:Addr)(x:Array Value):Prop:=match b with
 |true=>h.IsList l x
 |false=>h.IsTuple l x
noncomputable def fg:Bool->String
 |true=>"list_iterator"
 |false=>"tuple_iterator"
theorem gA.kp{b:Bool}{H:Heap}(x:gA b h i l k)(e:∀o,h.get? i=some o->H.get? i=some o):gA b H i l k:=by
 cases b
 ·exact Heap.IsTupleIter.at x e
 ·obtain⟨o,a,r⟩:=x;exact#[o,e o a,r]
theorem iq.kp{b:Bool}{H:Heap}(x:iq b h l a)(e:∀o,h.get? l=some o->H.get? l=some o):iq b H l a:=by
 cases b
 ·obtain⟨o,c,r⟩:=x;exact#[o,e o c,r]
 ·exact Heap.IsList.at x e
theorem gA.ob(x:gA b h i l k):∃o,h.get? i=some o/\o.cls= .type (fg b)/\∀v,o.data≠ .cell v:=by
 cases b
 ·obtain⟨o,H,c,d⟩:=x;exact#[o,H,c,λv z=>by rw[d]at z;cases z]
 ·obtain⟨o,H,c,d⟩:=x;exact#[o,H,c,λv z=>by rw[d]at z;cases z]
section
variable {prog:Program}{w:World}{A:Around}{E:Value->Shared->Prop}{s:Shared}
theorem z9{Q:Value->Shared->Prop}(H:gA b s.heap J T i)(a:iq b s.heap T I)(c:I[i]?=some x)
  (q:∀h,gA b h J T (i+1)->Heap.SameBut J s.heap h->Q x { s with heap:=h }):wpAny (model prog w) A (Builtin.SmallTypes.nextOf (.ref J)) Q E s:=by
 cases b
 ·exact KC H a c q
 ·exact wpAny_nextOf_list_item H a c q
theorem Qw(H:A.handled=none)(a:gA b s.heap J T i)(c:iq b s.heap T I)(d:I[i]?=none)
  (q:∀h e,Heap.ExtBut J s.heap h->Shared.TypeIs { s with heap:=h } e "StopIteration"->E e { s with heap:=h }):wpAny (model prog w) A (Builtin.SmallTypes.nextOf (.ref J)) Q E s:=by
 cases b
 ·exact ZO H a c d q
 ·exact wpAny_nextOf_list_end H a c d λh e k #[o,f,g]=>q h (.ref e) k #[o,f,g]
theorem xI{Q:Value->Shared->Prop}(h:iq b s.heap T i)
  (q:Q (.ref s.heap.objs.size) { s with heap:=s.heap.push { cls:=.type (fg b),data:=.fields (List.toArray [.ref T,.int 0 0]) } }):wpAny (model prog w) A (pyIter (.ref T)) Q E s:=by
 cases b
 ·exact IQ h q
 ·exact Lq h q
structure uD(z u v c d a b:Addr):Prop where
 uz:u≠z
 vz:v≠z
 cz:c≠z
 dz:d≠z
 uv:u≠v
 uc:u≠c
 ud:u≠d
 vc:v≠c
 vd:v≠d
 cd:c≠d
 az:a≠z
 av:a≠v
 ac:a≠c
 ad:a≠d
 bz:b≠z
 bv:b≠v
 bc:b≠c
 bd:b≠d
theorem wV{Q:Option Value->Shared->Prop}(D:uD z u v c d a b)
  (H:IsZip s.heap z u v .none) (hu:IsPair s.heap u (.ref c) (.ref d)) (hv:IsPair s.heap v p q) (h1:gA B s.heap c a k) (h2:gA C s.heap d b k) (g1:iq B s.heap a xs) (g2:iq C s.heap b ys) (hx:xs[k]?=some x) (hy:ys[k]?=some y)
  (hQ:∀h,IsZip h z u v (rawInt s.heap.objs.size)->IsPair h v x y->gA B h c a (k+1)->gA C h d b (k+1)->IsPair h s.heap.objs.size x y->h.objs.size=s.heap.objs.size+1->
   (∀e o,e≠z->e≠v->e≠c->e≠d->s.heap.get? e=some o->h.get? e=some o)->Q (some (.ref s.heap.objs.size)) { s with heap:=h }):wpAny (model prog w) A (pyNext (.ref z)) Q E s:=by
 have W:s.TypeIs (.ref z) "zip":=#[_,H,Z]
 unfold pyNext
 refine Ft (IK (Gr (name:=Str.ofString "__next__") W Hh (Gw Hh W IM (show wpAny _ _ (field (.ref z) 2 >>= _) _ _ _ from ?_) (IH _))))
 refine Ft (Gb H Z (x:=.bool false) Z (show wpAny _ _ (field (.ref z) 3 >>= _) _ _ _ from Ft (Gb H Z (x:=.ref u) Z (Ft (GS hu Z ?_)))))
 refine(show wpAny _ _ (Builtin.SmallTypes.ownedTupleIsFree (.ref z) >>= _) _ _ _ from Ft ?_)
 unfold Builtin.SmallTypes.ownedTupleIsFree
 refine Ft (Gb H Z (x:=.none) Z (Fv ?_))
 simp only[IL]
 refine Ft (HU (Ft (Gb H Z (x:=.ref v) Z (Ft (Il H MQ λX F S=>?_)))))
 replace F:IsZip X z u v .ellipsis:=F
 refine Ft ?_
 simp only[List.zipIdx_cons,List.zipIdx_nil,Ht,Is]
 refine Ft (Ft (wpAny_onRaise (show wpAny _ _ (Builtin.SmallTypes.nextOf (.ref c) >>= _) _ _ _ from ?_)))
 refine Ft (z9 (s:={ s with heap:=X }) (h1.kp λo e=>S.extBut _ _ D.cz e) (g1.kp λo e=>S.extBut _ _ D.az e) hx λG i2 l=>Fv ?_)
 have Y:IsPair G v p q:=l.extBut _ _ D.vc (S.extBut _ _ D.vz hv)
 refine Ft (GS (s:={ s with heap:=G }) Y Z (Ft (wpAny_updateSeq_pair (s:={ s with heap:=G }) Y λI J r=>?_)))
 replace J:IsPair I v x q:=J
 refine Ft (wpAny_letGo (Fv (Ft (Ft (wpAny_onRaise (show wpAny _ _ (Builtin.SmallTypes.nextOf (.ref d) >>= _) _ _ _ from ?_))))))
 have K:∀e o,e≠z->e≠c->e≠v->s.heap.get? e=some o->I.get? e=some o:=λe o N f g w=>r.extBut _ _ g (l.extBut _ _ f (S.extBut _ _ N w))
 refine Ft (z9 (s:={ s with heap:=I }) (h2.kp λo e=>K _ _ D.dz D.cd.symm D.vd.symm e) (g2.kp λo e=>K _ _ D.bz D.bc D.bv e) hy λL i4 i=>Fv ?_)
 have v4:IsPair L v x q:=i.extBut _ _ D.vd J
 refine Ft (GS (s:={ s with heap:=L }) v4 Z (Ft (wpAny_updateSeq_pair (s:={ s with heap:=L }) v4 λm V j=>?_)))
 replace V:IsPair m v x y:=V
 refine Ft (wpAny_letGo (Fv (Fv (Ft (GS (s:={ s with heap:=m }) V Z (Ft (wpAny_newTuple ?_)))))))
 have e5:m.objs.size=s.heap.objs.size:=by rw[j.1,i.1,r.1,l.1,S.1]
 have k5:∀e o,e≠z->e≠v->e≠c->e≠d->s.heap.get? e=some o->m.get? e=some o:=λe o N f g O w=>j.extBut _ _ f (i.extBut _ _ O (K e o N g f w))
 have z5:IsZip m z u v .ellipsis:=j.extBut _ _ D.vz.symm (i.extBut _ _ D.dz.symm (r.extBut _ _ D.vz.symm (l.extBut _ _ D.cz.symm F)))
 have j1:gA B m c a (k+1):=i2.kp λo e=>j.extBut _ _ D.vc.symm (i.extBut _ _ D.cd (r.extBut _ _ D.vc.symm e))
 have j2:gA C m d b (k+1):=i4.kp λo e=>j.extBut _ _ D.vd.symm e
 have lz:z < m.objs.size:=FF z5
 refine(show wpAny _ _ (Builtin.SmallTypes.ownedTupleHandOut (.ref z) (.ref m.objs.size) >>= _) _ _ _ from Ft ?_)
 unfold Builtin.SmallTypes.ownedTupleHandOut
 have z6:IsZip (m.push { cls:=.type "tuple",data:=.seq (List.toArray [x,y]) }) z u v .ellipsis:=Fx _ z5
 refine Ft (Il z6 MQ λm7 P R=>?_)
 replace P:IsZip m7 z u v (rawInt m.objs.size):=P
 refine Il P MQ λM t T=>?_
 replace t:IsZip M z u v (rawInt m.objs.size):=t
 have U:∀e o,e≠z->m.get? e=some o->M.get? e=some o:=λe o n w=>T.extBut _ _ n (R.extBut _ _ n (Fx _ w))
 have t8:IsPair M m.objs.size x y:=T.extBut _ _ (GJ lz) (R.extBut _ _ (GJ lz) (FG _ Z))
 have e8:M.objs.size=m.objs.size+1:=by rw[T.1,R.1,GH]
 rw[e5]at t t8 e8
 refine Fv #[_,Z,Fv ?_]
 show Q (some (.ref m.objs.size)) _
 rw[e5]
 exact hQ M t (U _ _ D.vz V) (j1.kp λo e=>U _ o D.cz e) (j2.kp λo e=>U _ o D.dz e) t8 e8 λe o N f g O w=>U e o N (k5 e o N f g O w)
theorem Bs{b2:Bool}{ys:Array Value}{p q:Value}{Q:Option Value->Shared->Prop}(C:A.handled=none)(D:uD z u v c d a b)
  (h:IsZip s.heap z u v .none) (F:IsPair s.heap u (.ref c) (.ref d)) (G:gA I s.heap c a k) (J:iq I s.heap a L) (K:L[k]?=none)
  (O:∀H,(∀e o,e≠z->e≠v->e≠c->e≠d->s.heap.get? e=some o->H.get? e=some o)->Q none { s with heap:=H }):wpAny (model prog w) A (pyNext (.ref z)) Q E s:=by
 have g:s.TypeIs (.ref z) "zip":=#[_,h,Z]
 unfold pyNext
 refine Ft (IK (Gr (name:=Str.ofString "__next__") g Hh (Gw Hh g IM (show wpAny _ _ (field (.ref z) 2 >>= _) _ _ _ from ?_) (IH _))))
 refine Ft (Gb h Z (x:=.bool false) Z (show wpAny _ _ (field (.ref z) 3 >>= _) _ _ _ from Ft (Gb h Z (x:=.ref u) Z (Ft (GS F Z ?_)))))
 refine(show wpAny _ _ (Builtin.SmallTypes.ownedTupleIsFree (.ref z) >>= _) _ _ _ from Ft ?_)
 unfold Builtin.SmallTypes.ownedTupleIsFree
 refine Ft (Gb h Z (x:=.none) Z (Fv ?_))
 simp only[IL]
 refine Ft (HU (Ft (Gb h Z (x:=.ref v) Z (Ft (Il h MQ λm f S=>?_)))))
 replace f:IsZip m z u v .ellipsis:=f
 refine Ft ?_
 simp only[List.zipIdx_cons,List.zipIdx_nil,Ht,Is]
 refine Ft (Ft (wpAny_onRaise (show wpAny _ _ (Builtin.SmallTypes.nextOf (.ref c) >>= _) _ _ _ from ?_)))
 refine Ft (Qw (s:={ s with heap:=m }) (by simpa using C) (G.kp λo e=>S.extBut _ _ D.cz e) (J.kp λo e=>S.extBut _ _ D.az e) K λM e i j=>?_)
 have l:IsZip M z u v .ellipsis:=i _ _ D.cz.symm f
 refine Il (s:={ s with heap:=M }) l MQ λn U r=>?_
 have t:Shared.TypeIs { s with heap:=n } e "StopIteration":=by
  cases e with
  |ref x=>
   obtain⟨o,y,B⟩:=j
   have P:x≠z:=λw=>by
    subst w
    have:=y.symm.trans l
    cases this
    injection B with w
    exact absurd w MO
   exact#[o,r.extBut _ _ P y,B]
  |_=>exact j
 exact Ft (Ii (T:="StopIteration") (b:=true) t LZ (Fv (O n λe o N V R W w=>r.extBut _ _ N (i _ _ R (S.extBut _ _ N w)))))
theorem Bt{b1 b2:Bool}{xs ys:Array Value}{Q:Value->Shared->Prop}(J:iq b1 s.heap a xs)(L:iq b2 s.heap b ys)
  (h:∀H,IsZip H (s.heap.objs.size+4) (s.heap.objs.size+2) (s.heap.objs.size+3) .none->IsPair H (s.heap.objs.size+2) (.ref s.heap.objs.size) (.ref (s.heap.objs.size+1))->
   IsPair H (s.heap.objs.size+3) .none .none->gA b1 H s.heap.objs.size a 0->gA b2 H (s.heap.objs.size+1) b 0->(∀e o,s.heap.get? e=some o->H.get? e=some o)->Q (.ref (s.heap.objs.size+4)) { s with heap:=H }):
  wpAny (model prog w) A (call (.type "zip") [.ref a,.ref b]) Q E s:=by
 refine callType_new (S:=λ_ R c=>c=s/\R (.ok (.ret (.ref (s.heap.objs.size+4)))) { s with heap:=((((s.heap.push { cls:=.type (fg b1),data:=.fields (List.toArray [.ref a,.int 0 0]) }).push { cls:=.type (fg b2),data:=.fields (List.toArray [.ref b,.int 0 0]) }).push { cls:=.type "tuple",data:=.seq (List.toArray [.ref s.heap.objs.size,.ref (s.heap.objs.size+1)]) }).push { cls:=.type "tuple",data:=.seq (List.toArray [.none,.none]) }).push { cls:=.type "zip",data:=.fields (List.toArray [.none,.bool false,.bool false,.ref (s.heap.objs.size+2),.ref (s.heap.objs.size+3)]) } })
  PySem.F.called_zip MO (PySem.F.typeCall_zip_2 _ _) (PySem.F.newCall_zip_2 _ _) (λO=>PySem.F.args_object_init_3 O _ _) PySem.F.entry_zip_new (.of_wp λp w' A' R c P=>?_) #[Z,?_]
 ·obtain⟨rfl,q⟩:=P
  obtain⟨r,g,D,t,os⟩:=c
  have u:=sub_zip
  have T:iq b1 (Shared.heap #[r,g,D,t,os]) a xs:=J
  have L2:iq b2 (Shared.heap #[r.push { cls:=.type (fg b1),data:=.fields (List.toArray [.ref a,.int 0 0]) },g,D,t,os]) b ys:=L.kp λo e=>Fx _ e
  wp_walk using xI T,xI L2
  refine#[_,Z,?_]
  simp only[GH]at q ⊢
  exact q
 ·have z (h:Heap) (o:Obj):(h.push o).objs.size=h.objs.size+1:=GH ..
  generalize d:s.heap.push { cls:=.type (fg b1),data:=.fields (List.toArray [.ref a,.int 0 0]) }=M
  generalize f:M.push { cls:=.type (fg b2),data:=.fields (List.toArray [.ref b,.int 0 0]) }=i
  generalize j:i.push { cls:=.type "tuple",data:=.seq (List.toArray [.ref s.heap.objs.size,.ref (s.heap.objs.size+1)]) }=k
  generalize l:k.push { cls:=.type "tuple",data:=.seq (List.toArray [.none,.none]) }=n
  generalize v:n.push { cls:=.type "zip",data:=.fields (List.toArray [.none,.bool false,.bool false,.ref (s.heap.objs.size+2),.ref (s.heap.objs.size+3)]) }=m
  have N:M.objs.size=s.heap.objs.size+1:=by rw[<- d,z]
  have x:i.objs.size=s.heap.objs.size+2:=by rw[<- f,z,N]
  have y:k.objs.size=s.heap.objs.size+3:=by rw[<- j,z,x]
  have U:n.objs.size=s.heap.objs.size+4:=by rw[<- l,z,y]
  have K:∀e o,n.get? e=some o->m.get? e=some o:=λe o w=>by rw[<- v];exact Fx _ w
  have B:∀e o,k.get? e=some o->m.get? e=some o:=λe o w=>K e o (by rw[<- l];exact Fx _ w)
  have C:∀e o,i.get? e=some o->m.get? e=some o:=λe o w=>B e o (by rw[<- j];exact Fx _ w)
  have G:∀e o,M.get? e=some o->m.get? e=some o:=λe o w=>C e o (by rw[<- f];exact Fx _ w)
  have V:∀e o,s.heap.get? e=some o->m.get? e=some o:=λe o w=>G e o (by rw[<- d];exact Fx _ w)
  have I:IsZip m (s.heap.objs.size+4) (s.heap.objs.size+2) (s.heap.objs.size+3) .none:=by rw[<- U,<- v];exact FG _ Z
  have W:IsPair m (s.heap.objs.size+3) .none .none:=K _ _ (by rw[<- y,<- l];exact FG _ Z)
  have X:IsPair m (s.heap.objs.size+2) (.ref s.heap.objs.size) (.ref (s.heap.objs.size+1)):=B _ _ (by rw[<- x,<- j];exact FG _ Z)
  have Y:m.get? (s.heap.objs.size+1)=some { cls:=.type (fg b2),data:=.fields (List.toArray [.ref b,.int 0 0]) }:=C _ _ (by rw[<- N,<- f];exact FG _ Z)
  have q1:m.get? s.heap.objs.size=some { cls:=.type (fg b1),data:=.fields (List.toArray [.ref a,.int 0 0]) }:=G _ _ (by rw[<- d];exact FG _ Z)
  refine#[#[_,I,Z],h m I X W ?_ ?_ V]
  ·cases b1<;>exact#[_,q1,Z,Z]
  ·cases b2<;>exact#[_,Y,Z,Z]
end
theorem wW(n a b:Nat)(h:a < n)(H:b < n):uD (n+4) (n+2) (n+3) n (n+1) a b:=by
 refine#[?_,?_,?_,?_,?_,?_,?_,?_,?_,?_,?_,?_,?_,?_,?_,?_,?_,?_]<;>(show(_:Nat)≠_;omega)
section
variable {prog:Program}{w:World}{A:Around}{E:Value->Shared->Prop}
theorem xt(h:l≠J):∀(n i:Nat) (s:Shared) (Q:List Value->Shared->Prop),s.heap.IsListIter J l i->s.heap.IsList l I->i+n<=I.size->
  (∀a,a.IsListIter J l (i+n)->Heap.SameBut J s.heap a->Q ((I.toList.drop i).take n) { s with heap:=a })->wpAny (model prog w) A (draw (.ref J) n) Q E s
 |0,i,s,Q,b,_,_,q=>show wpAny _ _ (pure []) Q E s from Fv (by simpa using q s.heap b (Heap.SameBut.refl ..))
 |n+1,i,s,Q,b,c,d,q=>by
  have H:i < I.size:=by omega
  refine(show wpAny _ _ (pyNext (.ref J) >>= _) Q E s from Ft (wpAny_pyNext_list_item b c (x:=I[i]) (by simp [H]) λm j S=>?_))
  refine Ft (Gc (xt h n (i+1) _ _ j (c.extBut S.extBut h) MP λf g k=>Fv ?_))
  have e:=q f (by rw[show i+(n+1)=i+1+n by omega];exact g) (S.trans k)
  rwa [show I.toList.drop i=I[i]::I.toList.drop (i+1) by simp [List.drop_eq_getElem_cons,H],List.take_succ_cons]at e
theorem wQ{s:Shared}{Q:List Value->Shared->Prop}(f:A.handled=none)(h:s.heap.IsList l i)(a:i.size=n)
  (q:∀c,Heap.ExtBut s.heap.objs.size s.heap c->Q i.toList { s with heap:=c }):wpAny (model prog w) A (unpackItems (.ref l) n none) Q E s:=by
 have H:l≠s.heap.objs.size:=by obtain⟨o,g,_⟩:=h;exact FJ (FF g)
 unfold unpackItems
 refine Ft ?_
 unfold notIterableAtAll
 refine Ft (Hz h.typeIs slot_list_iter.lookup ?_)
 refine Fv ?_
 simp only[FK,Hg]
 refine Ft (Gc (Lq h ?_))
 have I:(s.heap.push { cls:=.type "list_iterator",data:=.fields (List.toArray [.ref l,.int 0 0]) }).IsListIter s.heap.objs.size l 0:=#[_,FG _ Z,Z,Z]
 refine Ft (Gc (xt H n 0 _ _ I (h.push _) MP λj J S=>?_))
 have k:(i.toList.drop 0).take n=i.toList:=by rw[List.drop_zero,Hw (by simp [a])]
 rw[k,FV (by simp [a])]
 have L:j.IsList l i:=(h.push _).extBut S.extBut H
 refine Ft (Gc (wpAny_pyNext_list_end f J L (by simp [a]) λm p=>?_))
 simp only[Option.isSome_none,FK,Hg]
 exact Fv (q m λb o d e=>p b o d (S.extBut b o d (Fx _ e)))
end
section
variable {X:Cx}{pos:Pos}
def ER(K:Frag)(n:Nat)(t:uf):TG:=λv b H Q=>∃a x,v= .ref a/\aP K H a x/\x.length=n/\t x b H Q
theorem YY{E:List Expr}{k n:Nat}{t:uf}(g:X.calm=true)(h:By X E t)
  (i:(assignEach E X.env).length=n:=by rfl) (c:(assignEach E X.env).findIdx? (·.1)=none:=by rfl):PG X (.Tuple E k pos) (ER X.K n t):=by
 intro P s f H v u Q I r d
 obtain⟨a,x,j,l,m,d⟩:=d
 subst j
 cases r
 obtain⟨q,R,p,A⟩:=I.list l
 rw[assign_Tuple]
 refine Ft (Iu ?_)
 unfold unpack
 rw[i,c]
 refine Ft (Gc (wQ (I.ok.hd g) p.isList (by simp [<- m,R.length]) λw y=>?_))
 have z:ap X P f H { s with heap:=w }:=I.kept (t':=s.toks) λb o e=>y b o (FJ (FF e)) e
 exact h P _ f H x _ Q z (by simpa using R) d
def xY(K:Frag)(t:TE)(i j k:Nat):TS:=λD b H=>t b H λx h=>∃a v V c,x= .ref a/\aA K h a [v,V,c]/\D.nx (((b.set k (some c)).set j (some V)).set i (some v)) h
theorem vY{t e:Expr}{T:TE}{x y z:Str}{i j k:Nat}(n:X.calm=true)(c:X.N.Nodup)(w:X.N[i]?=some x)(A:X.N[j]?=some y)(B:X.N[k]?=some z)(L:oC X.env.scope x)(C:oC X.env.scope y)(E:oC X.env.scope z)(F:PE X e T)
  (G:X.fn x=true∨X.env.scope.names.lookup x=some .local:=by first |exact .inl Z |exact .inr Z) (J:X.fn y=true∨X.env.scope.names.lookup y=some .local:=by first |exact .inl Z |exact .inr Z) (M:X.fn z=true∨X.env.scope.names.lookup z=some .local:=by first |exact .inl Z |exact .inr Z)
  (O:swapsWithSole [t] e pos.line X.env=pure false:=by rfl) (P:swappedStores [t] e X.env=pure (some [x,y,z]):=by rfl):PS X (.Assign [t] e pos) (xY X.K T i j k):=by
 intro p s f H D I h
 rw[exec_Assign_arm]
 refine Ft (Iu ?_)
 rw[O]
 refine Ft (Fv ?_)
 rw[FV MO]
 refine Ft (aW (F p s f H _ I h) λv S d=>?_)
 obtain⟨xv,g,l,R,a,v1,v2,v3,Q,V,q⟩:=d
 rw[P]
 refine Ft (Fv ?_)
 subst Q
 cases R
 obtain⟨W,r,Y,hz⟩:=l.tuple V
 cases r with
 |cons q1 r=>
  cases r with
  |cons q2 r=>
   cases r with
   |cons q3 r=>
    cases r
    rename_i u U m
    unfold assignStores
    refine Ft (HU (Ft (wpAny_unpackItems_tuple (items:=(List.toArray [u,U,m])) (I.ok.hd n) Y λh' hx=>?_)))
    have I2:ap X p f g { S with heap:=h' }:=l.kept (t':=S.toks) λb o e=>hx b o (FJ (FF e)) e
    refine Ft ?_
    show wpAny _ _ (assignInOrder [λv=>bindName X.env z v,λv=>bindName X.env y v,λv=>bindName X.env x v] [m,U,u]) _ _ _
    refine Ft (Gc (wpAny_bindName (zq I2 c B E q3 (λs2 I3=>?_) M)))
    refine Ft (Gc (wpAny_bindName (zq I3 c A C q2 (λs3 I4=>?_) J)))
    refine Ft (Gc (wpAny_bindName (zq I4 c w L q1 (λs4 I5=>?_) G)))
    exact Fv (Fv #[_,g,I5,q])
end
theorem uR(l b:Addr)(I i:Array Value)(n N:Nat)(D:Option Addr)(S:Array (Option Value))(e:¬(!I.isEmpty&&Builtin.List.listTooLong (I.size+i.size))=true)(W:I.size<=sizeLine)(a:I.size+i.size<=sizeLine+1):
  Meets (Builtin.«list.extend» #[[.ref l,.ref b],[]]) (λ_ R s=>s.heap.get? l=some { cls:=.type "list",dict:=none,data:=.seq I n,slots:=(List.toArray []) }/\s.heap.get? b=some #[.type "tuple",D,.seq i N,S]/\R (.ok (.ret Value.none)) { s with heap:=s.heap.update l (Obj.mapSeq λx=>x++i),toks:=s.toks }):=by
 refine Meets.of_wp λp w A R s h=>?_
 obtain⟨f,g,d,t,os⟩:=s
 obtain⟨H,c,h⟩:=h
 have F:=AutoSeq1.idx_int
 have j:=AutoSeq1.sub_tuple_tuple
 have k:=AutoSeq1.sub_list_list
 have m:=AutoSeq1.sub_tuple_list
 have o:=AutoSeq1.sub_list_tuple
 have hz:(I++i).size<=sizeLine+1:=by rw[Mf];exact a
 wp_walk using (LQ H Z (hz:=W) (_hz':=hz)),Hu H,Hu c
 exact#[_,Z,h]
section
variable {X:Cx}
def lG(K:Frag):V->List V->Hp->VK->Prop:=λx v H Q=>∃l b a z,x= .ref l/\v=[.ref b]/\H l=some (.lst a)/\aA K H b z/\a.length+z.length<=sizeLine/\Q .non (af H l (.lst (a++z)))
theorem Yn:DA X "list.extend" (lG X.K):=by
 intro p s A H x V v U Q I g j h
 obtain⟨l,b,B,C,rfl,rfl,f,k,D,q⟩:=h
 cases g
 obtain⟨u,rfl,m⟩:=j.one
 cases m
 obtain⟨z,a,n,r,E,e⟩:=I.lstM f
 obtain⟨i,R,P,G⟩:=I.tuple k
 have o:=R.length
 have d:a.toArray.size+i.toArray.size<=sizeLine:=by rw[FE,FE];omega
 have c:¬(!a.toArray.isEmpty&&Builtin.List.listTooLong (a.toArray.size+i.toArray.size))=true:=by
  rw[fi d,LK]
  exact FH
 obtain⟨⟨J,O,L,S⟩,t,w,N,y⟩:=P
 cases w
 cases y
 refine Ml F.slot_list_extend #[_,e,Z] F.entry_list_extend (F.args_list_extend_2 _ _) (uR l b a.toArray i.toArray n N O S c (by rw[FE];omega) MP) #[e,t,?_]
 refine#[.non,_,I.lset (its':=a++i) f e MQ (r.append R) (by rw[FD];omega),Z,q]
end
section
variable {prog:Program}{w:World}{A:Around}{E:Value->Shared->Prop}{s:Shared}
theorem Ji{R:Result->Shared->Prop}{P:Nat->Value->Prop}{St:Nat->Shared->Prop}
  (W:WalksS prog w A.in1 I N j G n P St) (S:Addr) (H:¬S∈N) (c:List Str) (O:c.length=n) (Q:∀i v,P i v->∃x t,c[i]?=some x/\v= .str x t) (d:∀L:List Str,L.Nodup->(∀x∈L,x∈c)->L.length+1 < scanBound):
  ∀(k i:Nat) (s:Shared) (L:List Str),n - i=k->i<=n->St i s->cQ prog w s.heap S L->(∀x,x∈L↔x∈c.take i)->L.length<=i->
   (∀a l,Moved (S::j) G s a->cQ prog w a.heap S l->(∀x,x∈l↔x∈c)->l.length<=n->R (.ok (.ret .none)) a)->
   codeAny (model prog w) A (.builtin "set.update.loop" #[[.ref S,.ref I],[]]) R s:=by
 have f:¬S∈j:=λz=>H (W.sub _ z)
 have sub:∀b∈j,b∈S::j:=λb z=>Ge _ z
 intro k
 induction k with
 |zero=>
  intro i s L T U st p q F r
  have e:i=n:=by omega
  subst e
  refine Hm LN ?_
  rw[GX Iz]
  show wpAny _ A.in1 (pyNext (.ref I) >>= _) _ _ s
  refine Ft (W.done s _ _ st λa m=>?_)
  show wpAny _ A.in1 (ret Value.none) _ _ a
  refine Fv (r a L (m.mono sub) (p.at λo e=>m.heap S o f e) (λx=>?_) F)
  rw[q x,<- O,Gz]
 |succ k V=>
  intro i s L T U st p q F r
  have J:i < n:=by omega
  refine Hm LN ?_
  rw[GX Iz]
  show wpAny _ A.in1 (pyNext (.ref I) >>= _) _ _ s
  refine Ft (W.item i s _ _ J st λv a X u m=>?_)
  obtain⟨x,t,B,rfl⟩:=Q i v X
  show wpAny _ A.in1 (holding [Value.str x t] (setAdd S (.str x t)) >>= _) _ _ a
  refine Ft (Gc ?_)
  have h:L.Nodup:=by obtain⟨_,_,_,_,_,_,_,_,_,h,_⟩:=p;exact h
  refine XF (p.at λo e=>m.heap S o f e) (d L h λx B=>GU ((q x).mp B)) λb h' Y K S2 g=>?_
  refine Fv #[Ih Iz _,V (i+1) _ _ MP J (W.frame _ a _ _ u g λb d o e=>?_) S2 (λy=>?_) ?_ λC l M D q1 q2=>?_]
  ·rw[K.2 b (λz:b=S=>H (by rw[<- z];exact d))];exact e
  ·have tk:c.take (i+1)=c.take i++[x]:=by rw[Iq,B];rfl
   rw[tk,IC,LV,<- q y]
   split
   ·rename_i hm
    exact#[.inl,λz=>z.elim id λe=>e▸hm]
   ·rw[IC,LV]
  ·split
   ·omega
   ·rw[FD,Ij];omega
  ·refine r C l (Moved.trans W.gtrans ((m.mono sub).then_heap g λb o d e=>?_) M) D q1 q2
   rw[K.2 b (λz:b=S=>d (by rw[z];exact FX))];exact e
end
section
variable {prog:Program}{w:World}{A:Around}{E:Value->Shared->Prop}{s:Shared}
set_option maxHeartbeats 3200000 in
theorem JP{Q:Value->Shared->Prop}
  (hh:A.handled=none) (hl:s.heap.IsList l I) (hi:StrsAre I.toList n) (C:∀L:List Str,L.Nodup->(∀x∈L,x∈n)->L.length+1 < scanBound)
  (h:∀(a:Heap) (t:Nat) L,cQ prog w a s.heap.objs.size L->(∀x,x∈L↔x∈n)->L.length<=I.size->
   (∀b o,b < s.heap.objs.size->s.heap.get? b=some o->a.get? b=some o)->s.toks<=t->Q (.ref s.heap.objs.size) { s with heap:=a,toks:=t }):
  wpAny (model prog w) A (call (.type "set") [.ref l]) Q E s:=by
 obtain⟨c,tl,m1⟩:=PySem.F.called_set.mro
 have m0:=PySem.F.called_set.made
 have sb:=PySem.F.called_set.sub
 refine wpAny_call (codeAny_of_tree ?_)
 show wpAny _ _ (callAny (.type "set") _) _ _ _
 refine Fv #[Code.quiet_builtin _ MS,Hm PySem.F.entry_type_call ?_]
 rw[Around.under_plain (weight_type_call_type "set" [.ref l] []) Z]
 have n1:=PySem.F.called_set.notType
 have n2:=PySem.F.called_set.canCreate
 have ct:=PySem.F.typeCall_set_1 (.ref l)
 repeat (any_goals (first |assumption |wp_step))
 refine Im (KU (.ref l) (E:=E) (G:=λv S=>v= .ref s.heap.objs.size/\S={ s with heap:=s.heap.push (bp w) }) #[Z,Z]) λr S D=>?_
 cases r with
 |error e=>exact D
 |ok fl=>
  cases fl with
  |ret o2=>
   obtain⟨rfl,rfl⟩:=D
   have J:(s.heap.push (bp w)).get? s.heap.objs.size=some (bp w):=FG _ Z
   have hT:Shared.TypeIs { s with heap:=s.heap.push (bp w) } (.ref s.heap.objs.size) "set":=#[_,J,Z]
   have li:=PySem.F.called_set.init.lookup
   have bi:=PySem.F.called_set.init.bind (.ref s.heap.objs.size)
   repeat (any_goals (first |assumption |wp_step))
   refine Im (codeAny_call_builtin (R:=wants (λr d=>r= .none/\∃a t L,d={ s with heap:=a,toks:=t }/\cQ prog w a s.heap.objs.size L/\(∀x,x∈L↔x∈n)/\L.length<=I.size/\
     (∀b o,b < s.heap.objs.size->s.heap.get? b=some o->a.get? b=some o)/\s.toks<=t) E) PySem.F.called_set.init.plain PySem.F.entry_set_init (check_set_init_1 hT ?_)) λp d H=>?_
   ·obtain⟨ol,q,u,nl,y⟩:=hl
    obtain⟨o1,g,K,O⟩:=ol
    simp only at u y
    subst u
    subst y
    have f:(s.heap.push (bp w)).get? l=some { cls:=.type "list",dict:=g,data:=.seq I nl,slots:=O }:=Fx _ q
    have ns:=PySem.F.sub_list_set
    have nf:=PySem.F.sub_list_frozenset
    have ne:(Value.type "list"==Value.type "dict")=false:=by decide
    have j:(s.heap.push (bp w)).IsList l I:=#[_,f,Z,nl,Z]
    unfold bp at J hT f j ⊢
    unfold Builtin.«set.__init__» noKeywords Builtin.Frozenset.updateFrom
    generalize M:pyIter=PI
    wp_walk
    subst M
    refine Lq j ?_
    refine Ft (wpAny_runValue ?_)
    have z:l < s.heap.objs.size:=FF q
    have h3:A.in1.in1.in1.handled=none:=by simp [hh]
    have N:l≠(s.heap.push (bp w)).objs.size:=by rw[GH];exact FJ (Ik z)
    have P:¬s.heap.objs.size∈[(s.heap.push (bp w)).objs.size,l]:=by
     rw[GH]
     simp only[Ib,Gh,I0,not_or]
     exact#[FJ (Hj _),GJ z]
    have B:n.length=I.size:=by rw[L2.StrsAre.len hi,Ga]
    refine Ji ((Walks.list h3 _ l N I).toS) s.heap.objs.size P n B (λi v hv=>StrsAre.at' hi i v (by rw[HP];exact hv)) C (I.size - 0) 0 _ [] MP (FN _)
     #[#[_,FG _ Z,Z,Z],j.push _] (XG (Fx _ J)) (λx=>by simp) (Fz _) λs' L m T U V=>?_
    obtain⟨a,g',d',W,X⟩:=s'
    have eg:g'=s.gens:=m.gens
    have ed:d'=s.drawn:=m.drawn
    have eo:X=s.os:=m.os
    subst eg
    subst ed
    subst eo
    show wpAny _ _ _ _ _ _
    refine Fv ?_
    show wpAny _ _ (ret Value.none) _ _ _
    refine Fv #[Z,a,W,L,Z,T,U,V,λb o C e=>?_,m.toks]
    have b1:b≠s.heap.objs.size:=FJ C
    have b2:b≠(s.heap.push (bp w)).objs.size:=by rw[GH];exact FJ (Ik C)
    exact m.heap b o (by simp only[Ib,Gh,I0,not_or];exact#[b1,b2]) (Fx _ (Fx _ e))
   ·cases p with
    |error e=>exact H
    |ok k=>
     cases k with
     |ret r=>
      obtain⟨rfl,a,t,L,rfl,T,U,V,Y,q3⟩:=H
      repeat (any_goals (first |assumption |wp_step))
      exact h _ _ _ T U V Y q3
     |_=>exact H.elim
  |_=>exact D.elim
end
section
variable {X:Cx}
theorem qN(m:X.calm=true):eG X (.type "set") (λg H Q=>∃(p:Addr) (S:List Str),g=[.ref p]/\aP X.K H p (S.map V.str)/\(∀L:List Str,L.Nodup->(∀x∈L,x∈S)->L.length+1 < scanBound)/\
  ∀l L,H l=none->L.Nodup->(∀x,x∈L↔x∈S)->Q (.ref l) (af H l (DF X.prog X.w l L))):=by
 intro P s B H g U Q I r h
 obtain⟨p,S,rfl,n,t,q⟩:=h
 obtain⟨u,rfl,R⟩:=eN r
 cases R
 obtain⟨i,v,y,C⟩:=I.list n
 have j:=zZ v
 have D:i.length=S.length:=(L2.StrsAre.len j).symm
 refine JP (I.ok.hd m) y.isList (by simpa using j) t λc T L d z E k _=>?_
 have a:L.Nodup:=by obtain⟨_,_,_,_,_,_,_,_,_,a,_⟩:=d;exact a
 have A:∀b o,s.heap.get? b=some o->c.get? b=some o:=λb o e=>k b o (FF e) e
 obtain⟨o,f⟩:∃o,c.get? s.heap.objs.size=some o:=let #[o,_,_,_,f,_]:=d;#[o,f]
 exact#[.ref s.heap.objs.size,_,I.laid A (Fz _) (show aX X.prog X.w _ c _ (DF X.prog X.w s.heap.objs.size L) from #[d,#[o,f],λF G x e=>cQ.at x e]),Z,q _ _ (I.hok.fresh (Fz _)) a z]
end
section
variable {X:Cx}{CX:nh}{k:Nat}{f C:Addr}{fd:FuncData}{ps:List Str}{sp:Sp}{dvs:List V}{ds:List Value}{E:XK}{x m:Str}{p pos apos:Pos}{e:Expr}{es:List Expr}{t:TA}
structure yd(K:Frag)(C:Addr)(m:Str)(f:Addr):Prop where
 rd:PySem.W.readsIn K C (.type "type")=true
 ga:specialIn K (.ref C) "__getattribute__"=some (some (.builtin "type.__getattribute__"))
 at_:PySem.W.findCls K (.ref C) (.type "type") m=some (.val (.ref f))
 kp:keepIn K (.ref f)=true
theorem vS{pl:Sem Bool}(j:Gl X x)(l:X.mg x=some (.ref C))(M:yd X.K C m f)(F:ah X.prog X.w X.K X.mg X.base CX k f fd ps sp)(n:bH k X.A)(q:ay X.K fd ps ds)(u:aw dvs ds)(v:dm CX X E)(y:PA X (e::es) t)
  (a:(x==("__debug__":Str))=false:=by decide)
  (c:starEach (e::es) X.env=(false,eval e X.env)::starEach es X.env:=by rfl) (d:(backTo pos (starEach es X.env)).any (·.1)=false:=by rfl)
  (z:eval (.Call (.Attribute (.Name x p) m apos) (e::es) [] pos) X.env=(do
   let O <- eval (.Name x p) X.env
   standAt apos.atName
   let (f,first) <- holding [O] (getMethod O m pl)
   callWith pos f first (backTo pos (starEach (e::es) X.env)) (backToKw pos (keywordEach [] X.env))):=by rfl):
  PE X (.Call (.Attribute (.Name x p) m apos) (e::es) [] pos) (dI sp dvs E t):=by
 intro P s g H Q I h
 refine LA (pl:=pl) (zg I j l ?_ a) z
 refine PySem.W.method_cls I.kIn M.ga (PySem.W.cls_value I.kIn M.rd M.at_ Z ?_)
 have B:ap X P g H { s with toks:=s.toks+1 }:=I.kept (h':=s.heap) λb o e=>e
 refine Mu (h₀:=X.base) I.ok.mod.kin M.kp (aW (y pos P _ g H _ B h) λU S #[G,J,i,r,D]=>#[i.kIn,?_]) c d
 exact QD F n q u v i r D
end
abbrev eS(h:Heap)(z u v T:Addr)(f:Bool):Prop:=
 h.get? z=some { cls:=.type "zip",dict:=none,data:=.fields (List.toArray [rawInt T,.bool f,.bool false,.ref u,.ref v]),slots:=(List.toArray []) }
section
variable {prog:Program}{w:World}{A:Around}{E:Value->Shared->Prop}{s:Shared}
theorem ZP{Q:Option Obj->Shared->Prop}(h:Q (s.heap.get? a) s):wpAny M A (loadIfAlive a) Q E s:=λ_ _ _=>h
theorem BS{Q:Bool->Shared->Prop}(H:eS s.heap z u v T f)(a:∃o,s.heap.get? T=some o)
  (q:∀h,eS h z u v T true->Heap.ExtBut z s.heap h->h.objs.size=s.heap.objs.size->Q false { s with heap:=h }):wpAny (model prog w) A (Builtin.SmallTypes.ownedTupleIsFree (.ref z)) Q E s:=by
 unfold Builtin.SmallTypes.ownedTupleIsFree
 refine Ft (Gb H Z (x:=rawInt T) Z ?_)
 show wpAny _ _ (loadIfAlive ((T:Int).toNat) >>= _) _ _ s
 refine Ft (ZP ?_)
 obtain⟨o,c⟩:=a
 rw[GQ,c]
 simp only[Option.isNone_some,FK,Hg]
 refine Ft (Gb H Z (x:=.bool f) Z ?_)
 cases f with
 |true=>
  simp only[HV,FK,Hg]
  exact Ft (Fv (Fv (q s.heap H (λb o _ e=>e) Z)))
 |false=>
  rw[FQ MO]
  refine Ft (Il H MQ λh d S=>Fv (q h d S.extBut S.1))
theorem wU{Q:Option Value->Shared->Prop}(D:uD z u v c d a b)
  (g:eS s.heap z u v T f) (p:∃o,s.heap.get? T=some o) (q:IsPair s.heap u (.ref c) (.ref d)) (r:gA B s.heap c a k) (t:gA l s.heap d b k) (G:iq B s.heap a C) (F:iq l s.heap b Y) (I:C[k]?=some x) (J:Y[k]?=some y)
  (L:∀h,eS h z u v T true->gA B h c a (k+1)->gA l h d b (k+1)->IsPair h s.heap.objs.size x y->h.objs.size=s.heap.objs.size+1->
   (∀e o,e≠z->e≠c->e≠d->s.heap.get? e=some o->h.get? e=some o)->Q (some (.ref s.heap.objs.size)) { s with heap:=h }):wpAny (model prog w) A (pyNext (.ref z)) Q E s:=by
 have H:s.TypeIs (.ref z) "zip":=#[_,g,Z]
 unfold pyNext
 refine Ft (IK (Gr (name:=Str.ofString "__next__") H Hh (Gw Hh H IM (show wpAny _ _ (field (.ref z) 2 >>= _) _ _ _ from ?_) (IH _))))
 refine Ft (Gb g Z (x:=.bool false) Z (show wpAny _ _ (field (.ref z) 3 >>= _) _ _ _ from Ft (Gb g Z (x:=.ref u) Z (Ft (GS q Z ?_)))))
 refine(show wpAny _ _ (Builtin.SmallTypes.ownedTupleIsFree (.ref z) >>= _) _ _ _ from Ft (BS g p λO P i n=>?_))
 simp only[FK,Hg]
 refine Ft ?_
 simp only[List.forIn_toArray,Ht,Is]
 refine Ft (Ft (Gc (show wpAny _ _ (Builtin.SmallTypes.nextOf (.ref c) >>= _) _ _ _ from ?_)))
 refine Ft (z9 (s:={ s with heap:=O }) (r.kp λo e=>i _ _ D.cz e) (G.kp λo e=>i _ _ D.az e) I λM R j=>Fv (Fv ?_))
 refine Ft (Ft (Gc (show wpAny _ _ (Builtin.SmallTypes.nextOf (.ref d) >>= _) _ _ _ from ?_)))
 have K:∀e o,e≠z->e≠c->s.heap.get? e=some o->M.get? e=some o:=λe o n U w=>j.extBut _ _ U (i _ _ n w)
 refine Ft (z9 (s:={ s with heap:=M }) (t.kp λo e=>K _ _ D.dz D.cd.symm e) (F.kp λo e=>K _ _ D.bz D.bc e) J λm V S=>Fv (Fv (Fv ?_)))
 show wpAny _ _ (newTuple [x,y] >>= _) _ _ _
 refine Ft (wpAny_newTuple (Fv #[_,Z,Fv ?_]))
 have N:m.objs.size=s.heap.objs.size:=by rw[S.1,j.1];exact n
 have W:eS m z u v T true:=S.extBut _ _ D.dz.symm (j.extBut _ _ D.cz.symm P)
 show Q (some (.ref m.objs.size)) _
 rw[N]
 refine L _ (Fx _ W) (R.kp λo e=>Fx _ (S.extBut _ _ D.cd e)) (V.kp λo e=>Fx _ e) (by rw[<- N];exact FG _ Z) (by rw[GH,N]) λe o X a2 a3 w=>Fx _ (S.extBut _ _ a3 (K _ _ X a2 w))
theorem Br{b2:Bool}{ys:Array Value}{Q:Option Value->Shared->Prop}(j:A.handled=none)(D:uD z u v c d a b)
  (H:eS s.heap z u v T f) (l:∃o,s.heap.get? T=some o) (m:IsPair s.heap u (.ref c) (.ref d)) (p:gA B s.heap c a k) (G:iq B s.heap a q) (r:q[k]?=none)
  (t:∀i,(∀e o,e≠z->e≠c->e≠d->s.heap.get? e=some o->i.get? e=some o)->Q none { s with heap:=i }):wpAny (model prog w) A (pyNext (.ref z)) Q E s:=by
 have h:s.TypeIs (.ref z) "zip":=#[_,H,Z]
 unfold pyNext
 refine Ft (IK (Gr (name:=Str.ofString "__next__") h Hh (Gw Hh h IM (show wpAny _ _ (field (.ref z) 2 >>= _) _ _ _ from ?_) (IH _))))
 refine Ft (Gb H Z (x:=.bool false) Z (show wpAny _ _ (field (.ref z) 3 >>= _) _ _ _ from Ft (Gb H Z (x:=.ref u) Z (Ft (GS m Z ?_)))))
 refine(show wpAny _ _ (Builtin.SmallTypes.ownedTupleIsFree (.ref z) >>= _) _ _ _ from Ft (BS H l λM F g n=>?_))
 simp only[FK,Hg]
 refine Ft ?_
 simp only[List.forIn_toArray,Ht,Is]
 refine Ft (Ft (Gc (show wpAny _ _ (Builtin.SmallTypes.nextOf (.ref c) >>= _) _ _ _ from ?_)))
 refine Ft (Qw (s:={ s with heap:=M }) (by simpa using j) (p.kp λo e=>g _ _ D.cz e) (G.kp λo e=>g _ _ D.az e) r λy e S C=>?_)
 exact Ft (Ii (T:="StopIteration") (b:=true) C LZ (Fv (t y λe o n N I w=>S _ _ N (g _ _ n w))))
end
theorem Jy:typeLookup (.type "zip") "__getattr__"=pure none:=by rw[Hl,Gy];kernel_rfl
theorem XJ:typeLookup (.type "zip") "keys"=pure none:=by rw[Hl,Gy];kernel_rfl
theorem Q4:entryFor table "zip.__getattribute__"=some Builtin.«object.__getattribute__»:=
 L9 (id':="object.__getattribute__") (by kernel_rfl) MS MS (by kernel_rfl)
theorem KN(a:Addr)(x:Array Value)(S:Array (Option Value))(u:Tok):
  Meets (Builtin.«object.__getattribute__» #[[.ref a,.str "keys" u],[]]) (λA R s=>s.heap.get? a=some { cls:=.type "zip",dict:=none,data:=.fields x,slots:=S }/\raisesAttr (.ref a) "keys" A R s):=
 Meets.of_wp λp w A R s H=>by
  obtain⟨c,g,d,t,os⟩:=s
  obtain⟨e,H⟩:=H
  have f:(#[c,g,d,t,os]:Shared).TypeIs (.ref a) "zip":=#[_,e,Z]
  have b:=XJ
  have h:(["__module__","__name__","__qualname__","__doc__","__annotations__"]:List Str).contains "keys"=false:=by decide+kernel
  unfold Builtin.«object.__getattribute__»
  repeat (any_goals (first |assumption |wp_step))
  try simp only[h,FK,Hg]
  repeat (any_goals (first |assumption |wp_step))
  exact wpAny_raiseAttrError H.1 H.2 (attrMsg_fits MS (by size_fits))
section
variable {prog:Program}{w:World}{A:Around}{E:Value->Shared->Prop}{s:Shared}
theorem vh{Q:Option Value->Shared->Prop}(f:s.heap.get? a=some { cls:=.type "zip",dict:=none,data:=.fields x,slots:=j })(k:A.handled=none)
  (h:∀c T,(∀b o,s.heap.get? b=some o->c.get? b=some o)->Q none { s with heap:=c,toks:=T }):wpAny (model prog w) A (getAttr? (.ref a) "keys") Q E s:=by
 obtain⟨l,g,d,T,os⟩:=s
 have i:∀t,(#[l,g,d,t,os]:Shared).TypeIs (.ref a) "zip":=λ_=>#[_,f,Z]
 have m:=sub_AttributeError
 have n:=PySem.F.slot_zip_getattribute.lookup
 have p:=PySem.F.slot_zip_getattribute.bind (.ref a)
 have q:=Jy
 unfold getAttr? getAttrBy? getAttrBy
 repeat (any_goals (first |assumption |exact i _ | ((with_reducible show wpAny _ _ (call (Value.builtin "zip.__getattribute__") _ _) _ _ _);refine Ml PySem.F.slot_zip_getattribute (i _) Q4 (PySem.F.args_zip_getattribute_2 _ _) (KN a x j _) #[f,by simpa using k,λc t e H=>?_]) |wp_step))
 obtain⟨r,u,v⟩:=H.there
 show wpAny _ _ (getattributeRaised _ _ _ _ _ _ _) _ _ _
 unfold getattributeRaised
 repeat (any_goals (first |assumption |wp_step))
 exact h _ _ H.keeps
def yl(h:Heap)(z u v c d a b Dd:Addr)(x y:Array Value)(i:Nat):Prop:=
 ((IsZip h z u v .none/\∃p q,IsPair h v p q)∨∃T f o,eS h z u v T f/\h.get? T=some o/\T≠z/\T≠c/\T≠d/\T≠Dd)/\IsPair h u (.ref c) (.ref d)/\gA false h c a i/\gA false h d b i/\iq false h a x/\iq false h b y
theorem wX{Dd:Addr}{Q:Option Value->Shared->Prop}(D:uD z u v c d a b)(l:Dd < s.heap.objs.size)(S:yl s.heap z u v c d a b Dd J Y k)(L:J[k]?=some x)(M:Y[k]?=some y)
  (N:∀h,yl h z u v c d a b Dd J Y (k+1)->IsPair h s.heap.objs.size x y->h.objs.size=s.heap.objs.size+1->(∀e o,e≠z->e≠v->e≠c->e≠d->s.heap.get? e=some o->h.get? e=some o)->Q (some (.ref s.heap.objs.size)) { s with heap:=h }):wpAny (model prog w) A (pyNext (.ref z)) Q E s:=by
 obtain⟨H,g,j,m,G,i⟩:=S
 obtain⟨oc,n,_⟩:=j.ob
 obtain⟨od,r,_⟩:=m.ob
 rcases H with ⟨H,p,q,U⟩ | ⟨T,f,o,H,O,t,P,R,V⟩
 ·refine wV D H g U j m G i L M λh B v1 I C t F K=>N h #[.inr #[s.heap.objs.size,false,_,B,t,GJ (FF H),GJ (FF n),GJ (FF r),GJ l],K _ _ D.uz D.uv D.uc D.ud g,I,C,G.kp λo e=>K _ _ D.az D.av D.ac D.ad e,i.kp λo e=>K _ _ D.bz D.bv D.bc D.bd e] t F K
 ·refine wU D H #[o,O] g j m G i L M λh B I C W F K=>N h #[.inr #[T,true,o,B,K _ _ t P R O,t,P,R,V],K _ _ D.uz D.uc D.ud g,I,C,G.kp λo e=>K _ _ D.az D.ac D.ad e,i.kp λo e=>K _ _ D.bz D.bc D.bd e] W F λe o X n2 n3 n4 w=>K e o X n3 n4 w
theorem Bu{Dd:Addr}{Q:Option Value->Shared->Prop}(g:A.handled=none)(D:uD z u v c d a b)(n:yl s.heap z u v c d a b Dd x ys k)(i:x[k]?=none)
  (j:∀H,(∀e o,e≠z->e≠v->e≠c->e≠d->s.heap.get? e=some o->H.get? e=some o)->Q none { s with heap:=H }):wpAny (model prog w) A (pyNext (.ref z)) Q E s:=by
 obtain⟨h,l,m,B,G,C⟩:=n
 rcases h with ⟨h,p,q,F⟩ | ⟨T,f,o,h,r,I,J,L,M⟩
 ·exact Bs (b2:=false) (p:=p) (q:=q) (ys:=ys) g D h l m G i j
 ·exact Br (b2:=false) (ys:=ys) g D h #[o,r] l m G i λH K=>j H λe o N O t y w=>K e o N t y w
structure DQ(D z u v c d a b:Addr):Prop where
 z:D≠z
 u:D≠u
 v:D≠v
 c:D≠c
 d:D≠d
 a:D≠a
 b:D≠b
theorem yl.keep{h j:Heap}{Dd:Addr}(F:DQ Dd z u v c d a b)(k:∀e o,e≠Dd->h.get? e=some o->j.get? e=some o)(st:yl h z u v c d a b Dd x y i):yl j z u v c d a b Dd x y i:=by
 obtain⟨H,l,m,n,G,r⟩:=st
 refine#[?_,k _ _ F.u.symm l,m.kp λo e=>k _ _ F.c.symm e,n.kp λo e=>k _ _ F.d.symm e,G.kp λo e=>k _ _ F.a.symm e,r.kp λo e=>k _ _ F.b.symm e]
 rcases H with ⟨H,p,q,B⟩ | ⟨T,f,o,H,g,C,D,I,t⟩
 ·exact .inl #[k _ _ F.z.symm H,p,q,k _ _ F.v.symm B]
 ·exact .inr #[T,f,o,k _ _ F.z.symm H,k _ _ t g,C,D,I,t]
theorem KO{K:Type}[DecidableEq K]{knd:KeyKind prog w K}{R:Result->Shared->Prop}{Dd:Addr}{x:Array Value}(X:A.handled=none)(D:uD z u v c d a b)(F:DQ Dd z u v c d a b)(m:List (K×Value))(Y:m.length=x.size)(h0:x.size<=sizeLine)
  (hP:∀(i:Nat),i < x.size->∃f V k,x[i]?=some f/\ys[i]?=some V/\knd.is k f=true/\m[i]?=some (k,V)):
  ∀(j i:Nat) (s:Shared) (n:Int),x.size - i=j->i<=x.size->yl s.heap z u v c d a b Dd x ys i->s.heap.DictOf knd Dd (merged [] (m.take i))->
   (∀h T,(∀e o,e≠Dd->e≠z->e≠v->e≠c->e≠d->s.heap.get? e=some o->h.get? e=some o)->h.DictOf knd Dd (merged [] m)->R (.ok (.ret .none)) { s with heap:=h,toks:=T })->
   codeAny (model prog w) A (.builtin "dict.update.loop" #[[.ref Dd,.ref z,.int n 0,.none],[]]) R s:=by
 intro j
 induction j with
 |zero=>
  intro i s n hj hi st q C
  have e:i=x.size:=by omega
  subst e
  refine Hm JJ ?_
  rw[GX zI]
  show wpAny _ A.in1 (pyNext (.ref z) >>= _) _ _ s
  refine Ft (Bu (by simpa using X) D st MQ λh g=>?_)
  show wpAny _ A.in1 (Builtin.Dict.addKeywords Dd [] >>= λ_=>ret Value.none) _ _ { s with heap:=h }
  refine Ft ?_
  unfold Builtin.Dict.addKeywords
  refine Fv (Fv (C h s.toks (λe o _ N t y B w=>g e o N t y B w) ?_))
  rw[<- Y,Gz]at q
  obtain⟨o,es,ep,ho,r⟩:=q
  exact#[o,es,ep,g _ _ F.z F.v F.c F.d ho,r]
 |succ j ih=>
  intro i s n hj hi st q C
  have M:i < x.size:=by omega
  obtain⟨f,V,k,hx,hy,O,hm⟩:=hP i M
  refine Hm JJ ?_
  rw[GX zI]
  show wpAny _ A.in1 (pyNext (.ref z) >>= _) _ _ s
  obtain⟨oD,G,I,H,rD⟩:=id q
  have L:Dd < s.heap.objs.size:=FF H
  refine Ft (wX D L st hx hy λl S P N g=>?_)
  have hb:Shared.TypeIs { s with heap:=l } (.ref s.heap.objs.size) "tuple":=#[_,P,Z]
  have J:l.DictOf knd Dd (merged [] (m.take i)):=#[oD,G,I,g _ _ F.z F.v F.c F.d H,rD]
  dsimp only
  refine Ft (Gc ?_)
  refine Ft (wpAny_tryCatch ?_)
  unfold Builtin.Dict.pairItems
  refine Ft (HQ hb ?_)
  rw[FQ MO]
  refine Ft (GS P Z (Fv ?_))
  show wpAny _ A.in1 (holding [f,V] (dictSet Dd f V)) _ _ { s with heap:=l }
  unfold dictSet
  refine Gc (Gc (Ft (knd.pyHash O ?_)))
  have Q:(merged ([]:List (K×Value)) (m.take i)).length<=i:=by
   have:=merged_length_le ([]:List (K×Value)) (m.take i)
   rw[Gf]at this
   simp only[Mo]at this
   omega
  refine wpAny_dictSetHashed_pairs (s:={ s with heap:=l,toks:=s.toks+1 }) O J (λh p sb=>?_) MP
  rw[<- merged_take_succ [] m i (k,V) hm]at p
  have U:∀e o,e≠Dd->l.get? e=some o->h.get? e=some o:=λe o ne w=>(sb.2 e ne).trans w
  refine Fv #[Ih zI _,ih (i+1) _ (n+1) MP M (S.keep F U) p λh2 T k2 d2=>C h2 T (λe o W N t y B w=>k2 e o W N t y B (U _ _ W (g e o N t y B w))) d2]
theorem K6{K:Type}[DecidableEq K]{knd:KeyKind prog w K}{more:List (K×Value)}{Q:Value->Shared->Prop}(N:A.handled=none)(D:uD z u v c d a b)
  (j:IsZip s.heap z u v .none) (P:IsPair s.heap u (.ref c) (.ref d)) (m:∃p q,IsPair s.heap v p q) (U:gA false s.heap c a 0) (V:gA false s.heap d b 0) (W:iq false s.heap a x) (X:iq false s.heap b ys)
  (hn:more.length=x.size) (n:x.size<=sizeLine) (hP:∀(i:Nat),i < x.size->∃Y vu k,x[i]?=some Y/\ys[i]?=some vu/\knd.is k Y=true/\more[i]?=some (k,vu))
  (h:∀l t,l.DictOf knd s.heap.objs.size (merged [] more)->(∀e o,e≠z->e≠v->e≠c->e≠d->s.heap.get? e=some o->l.get? e=some o)->Q (.ref s.heap.objs.size) { s with heap:=l,toks:=t }):
  wpAny (model prog w) A (call (.type "dict") [.ref z]) Q E s:=by
 refine callType_codes (Q₁:=λO S=>O= .ref s.heap.objs.size/\S={ s with heap:=s.heap.push { cls:=.type "dict",data:=.dict (List.toArray []) } }) PySem.F.kt_called_dict (PySem.F.kt_typeCall_dict_1 _) PySem.F.entry_dict_init (kt_code_dict_new _ #[Z,Z]) ?_
 rintro O S ⟨rfl,rfl⟩
 have f:(s.heap.push { cls:=.type "dict",data:=.dict (List.toArray []) }).DictOf knd s.heap.objs.size []:=Heap.DictOf.new s.heap
 refine#[f.typeIs,PySem.F.args_dict_init_2 _ _,?_]
 unfold Builtin.«dict.__init__»
 refine Ft ?_
 unfold Builtin.Dict.selfAndRest
 refine Ft (wpAny_notOrdered_dict f.typeIs ?_)
 show wpAny _ _ (pure (s.heap.objs.size,[Value.ref z])) _ _ _
 refine Fv ?_
 show wpAny _ _ (Builtin.Dict.updateFrom "dict.__init__" s.heap.objs.size (.ref z) [] .none) _ _ _
 unfold Builtin.Dict.updateFrom
 generalize hH:s.heap.push { cls:=.type "dict",data:=.dict (List.toArray []) }=H at f ⊢
 have G:∀b o,s.heap.get? b=some o->H.get? b=some o:=λb o e=>by rw[<- hH];exact Fx _ e
 refine Ft (HQ #[_,G _ _ j,Z] ?_)
 rw[FQ MO]
 refine Ft (vh (s:={ s with heap:=H }) (G _ _ j) (by simpa using N) λM t k1=>?_)
 simp only[Option.isNone_none,IL]
 refine Ft (HU ?_)
 have g:∀b o,s.heap.get? b=some o->M.get? b=some o:=λb o e=>k1 _ _ (G _ _ e)
 refine Ft (wpAny_pyIter_zip (s:={ s with heap:=M,toks:=t }) (g _ _ j) ?_)
 obtain⟨oD,eD,y,B,rD⟩:=f
 obtain⟨p,q,m⟩:=m
 obtain⟨oc,C,_⟩:=U.ob
 obtain⟨od,I,_⟩:=V.ob
 obtain⟨oa,J,_⟩:=id W
 obtain⟨ob,L,_⟩:=id X
 have F:DQ s.heap.objs.size z u v c d a b:=#[GJ (FF j),GJ (FF P),GJ (FF m),GJ (FF C),GJ (FF I),GJ (FF J),GJ (FF L)]
 refine Fv #[Ih zI _,Im (KO (knd:=knd) (A:=A.in1) (R:=λr s'=>r= .ok (.ret .none)/\Q (.ref s.heap.objs.size) s') (by simpa using N) D F more hn n hP x.size 0 { s with heap:=M,toks:=t } 0 Z (FN _)
  #[.inl #[g _ _ j,p,q,g _ _ m],g _ _ P,U.kp λo e=>g _ _ e,V.kp λo e=>g _ _ e,W.kp λo e=>g _ _ e,X.kp λo e=>g _ _ e] #[oD,eD,y,k1 _ _ B,rD] λl T k2 d2=>#[Z,?_]) λr s' q=>?_]
 ·exact h l T d2 λe o n1 n2 n3 n4 w=>k2 e o (FJ (FF w)) n1 n2 n3 n4 (g _ _ w)
 ·obtain⟨rfl,q⟩:=q
  exact#[Z,q]
end
section
variable {X:Cx}{e1 e2:Expr}{ta:TA}{p p2 pos pos2:Pos}
def Fg(K:Frag)(ta:TA):TE:=λc H Q=>ta c H λv h=>∃(a b:Addr) (k:List bE) (y:List V),v=[.ref a,.ref b]/\aA K h a (k.map kV)/\aA K h b y/\k.length=y.length/\∀l,h l=none->Q (.ref l) (af h l (.dK (db [] (k.zip y))))
theorem YZ{P:Program}{w:World}:∀{K:List bE} {U:List Value},aw (K.map kV) U->∀(i:Nat) (k:bE),K[i]?=some k->∃u,U[i]?=some u/\(a6 P w).is k u=true
 | [],_,_,i,k,h=>by simp at h
 |k0::K,_,.cons (b:=u) h t,0,k,e=>by
  have E:k0=k:=by simpa using e
  subst E
  exact#[u,Z,J5 h]
 |k0::K,_,.cons h t,i+1,k,e=>by simpa using YZ (P:=P) (w:=w) t i k (by simpa using e)
theorem pE:∀{K:List bE} {y:List V} {u:List Value},aw y u->KV (K.zip y) (K.zip u)
 | [],_,_,_=>by simp only[List.zip_nil_left];exact .nil
 |_::_,_,_,.nil=>by simp only[List.zip_nil_right];exact .nil
 |k::K,_,_,.cons h t=>.cons #[Z,h] (pE t)
theorem Y0(m:Gl X "dict")(n:X.mg "dict"=none)(t:Gl X "zip")(v:X.mg "zip"=none)(N:X.calm=true)(O:PA X [e1,e2] ta)
  (T:starEach [e1,e2] X.env=(false,eval e1 X.env)::starEach [e2] X.env:=by rfl) (U:(backTo pos2 (starEach [e2] X.env)).any (·.1)=false:=by rfl)
  (f:starEach [Expr.Call (.Name "zip" p2) [e1,e2] [] pos2] X.env=(false,eval (.Call (.Name "zip" p2) [e1,e2] [] pos2) X.env)::starEach [] X.env:=by rfl) (x:(backTo pos (starEach [] X.env)).any (·.1)=false:=by rfl):
  PE X (.Call (.Name "dict" p) [.Call (.Name "zip" p2) [e1,e2] [] pos2] [] pos) (Fg X.K ta):=by
 intro P s V H Q I h
 refine GZ (zR I m n PyProof.Rows.boot_dict ?_)
 refine GF ?_ f x
 rw[f]
 show wpAny _ _ (spliced ((false,eval _ X.env)::backTo pos (starEach [] X.env))) _ _ s
 refine Ia ?_
 refine GZ (zR I t v PyProof.Rows.boot_zip ?_)
 refine GF (aW (O pos2 P s V H _ I h) λus S z=>?_) T U
 obtain⟨vs,H1,d,W,Y⟩:=z
 obtain⟨a,b,c,ys,e,gx,gy,hl,q⟩:=Y
 subst e
 cases W with
 |cons r rr=>
  cases rr with
  |cons r' y=>
   cases y
   cases r
   cases r'
   obtain⟨A,F,G,z1⟩:=d.tuple gx
   obtain⟨j,R,C,z2⟩:=d.tuple gy
   have l1:=F.length
   have l2:=R.length
   rw[Fy]at l1 z1
   have la:a < S.heap.objs.size:=by obtain⟨o,D,_⟩:=G;exact FF D
   have lb:b < S.heap.objs.size:=by obtain⟨o,D,_⟩:=C;exact FF D
   refine Bt (b1:=false) (b2:=false) (xs:=A.toArray) (ys:=j.toArray) G C λE J u' v' i1 i2 k=>?_
   refine Iy ?_
   have Dz:=wW S.heap.objs.size a b la lb
   refine K6 (s:={ S with heap:=E }) (knd:=a6 X.prog X.w) (more:=c.zip j) (d.ok.hd N) Dz J u' #[_,_,v'] i1 i2 (iq.kp (b:=false) G λo e=>k _ _ e) (iq.kp (b:=false) C λo e=>k _ _ e) (by rw[Mn,FE];omega) (by rw[FE];omega) (λi hi=>?_) λh2 tk dd k2=>?_
   ·rw[FE]at hi
    have L:i < c.length:=by omega
    have M:i < j.length:=by omega
    obtain⟨u,hu,ku⟩:=YZ F i _ (Fu L)
    refine#[u,j[i],c[i],by simpa using hu,by simp [M],ku,?_]
    rw[Mz]
    exact#[Fu L,Fu M]
   ·have g:KV (db [] (c.zip ys)) (merged [] (c.zip j)):=KV.merge (pE R) .nil
    have zl:(db [] (c.zip ys)).length<=sizeLine:=by
     rw[g.length]
     have:=merged_length_le ([]:List (bE×Value)) (c.zip j)
     rw[Mn]at this
     simp only[Mo]at this
     omega
    have k3:∀e o,S.heap.get? e=some o->h2.get? e=some o:=λe o w=>by
     have l:=FF w
     exact k2 e o (FJ (FM l (Iw _ _))) (FJ (FM l (Iw _ _))) (FJ l) (FJ (FM l (Iw _ _))) (k _ _ w)
    have B:S.heap.objs.size<=E.objs.size:=Iv (Hq (Iw _ 4) (FF J))
    exact#[.ref E.objs.size,_,d.laid k3 B (XU zl (beq_eq_false_iff_ne.mpr (Gp (FJ (FM d.big B)))) g dd),Z,q _ (d.hok.fresh B)]
end
section
variable {X:Cx}{st:Stmt}{ss:List Stmt}{e:Expr}{es:List Expr}
def Ff:TS:=λ_ _ _=>False
theorem rq:ls X ss Ff:=λ_ _ _ _ _ _ h=>False.elim h
end
theorem ah.calm{P:Program}{K:Frag}{CX:nh}(F:ah P w K m b aE k f c p d):ah P w K m b CX k f c p d:=
 #[F.len,λA o s H a u v Q E g i j l n=>Im (F.run A o s H a u v Q E g i j l n) λr S h=>by
  cases r with
  |error e=>exact False.elim h
  |ok q=>cases q<;>exact h]
end L2
namespace L2
open PySem PySem.Spec PyProof.Rows PySem.SeqAt
def Eg(K:Frag):R2:=λx y H Q=>∃a b X Y,x= .ref a/\y= .ref b/\aA K H a X/\aA K H b Y/\
 ((X.all cV=true/\Y.all cV=true/\Q (.bl (oY X Y)) H)∨∃(w:Str) (c:Addr) (z:List V) (u:Str) (i:Int),X=[.str w,.ref c]/\aA K H c z/\Y=[.str u,.int i]/\Q (.bl false) H)
theorem Ax{X:Cx}(d:X.A.units+1 < cLine):em X (compareOp .Eq) (Eg X.K):=by
 intro p s m H x y v U Q I f g h
 obtain⟨a,b,n,Y,rfl,rfl,k,l,h | ⟨w,c,M,u,i,rfl,o,rfl,q⟩⟩:=h
 ·exact Aw (Mc d) p s m H _ _ v U Q I f g #[a,b,n,Y,Z,Z,k,l,h]
 cases f
 cases g
 obtain⟨N,r,P,_⟩:=I.tuple k
 obtain⟨O,R,t,_⟩:=I.tuple l
 obtain⟨S,V,z,_⟩:=I.tuple o
 cases r with
 |cons B r=>
  cases r with
  |cons C r=>
   cases r
   cases R with
   |cons D R=>
    cases R with
    |cons E R=>
     cases R
     obtain⟨T,rfl⟩:=B
     cases C
     obtain⟨F,rfl⟩:=D
     obtain⟨G,rfl⟩:=E
     refine eq_tupleAt (e:=λj=>if j=0 then w==u else false) (show s.heap.IsTuple a _ from P) (show s.heap.IsTuple b _ from t) (Mc d) (λj J L=>?_) ?_
     ·match j,J,L with
      |0,_,_=>exact EqAt.str_str w T u F
      |1,_,_=>exact EqAt.tuple_int i G (show s.heap.IsTuple c _ from z) (by simpa [Around.in1,Around.units] using d)
     ·have e:((List.range (min 2 2)).all (λj=>if j=0 then w==u else false)&&(2:Nat)==2)=false:=by
       show((if 0=0 then w==u else false)&&((if 1=0 then w==u else false)&&true)&&true)=false
       simp
      exact#[.bl false,H,I,Hf Value.bool e,q]
end L2
namespace L2
open PySem PySem.Spec PyProof.Rows
theorem XL(l:Addr)(i:Array Value)(n:Nat)(D:Option Addr)(S:Array (Option Value)):
  Meets (Builtin.«enumerate.__new__» #[[.type "enumerate",.ref l],[]]) (λ_ R s=>s.heap.get? l=some { cls:=.type "tuple",dict:=D,data:=.seq i n,slots:=S }/\
   R (.ok (.ret (.ref (s.heap.push { cls:=.type "tuple_iterator",data:=.fields (List.toArray [.ref l,.int 0 0]) }).objs.size)))
    { s with heap:=(s.heap.push { cls:=.type "tuple_iterator",data:=.fields (List.toArray [.ref l,.int 0 0]) }).push { cls:=.type "enumerate",data:=.fields (List.toArray [.none,.bool false,.ref s.heap.objs.size,rawInt 0,.none,.none]) } }):=
 .of_wp λp w A R s h=>by
  obtain⟨e,g,d,t,os⟩:=s;obtain⟨H,h⟩:=h
  have b:=sub_enumerate
  have a:Heap.IsTuple (Shared.heap #[e,g,d,t,os]) l i:=#[_,H,Z,n,Z]
  wp_walk using Hu H
  refine wpAny_stack_any λst=>Fv ?_
  split
  ·rename_i c _ _ _ _ _
   cases (c==Value.type "enumerate")
   ·wp_walk using Hu H,IQ a
    exact#[_,Z,h]
   ·wp_walk using Hu H,IQ a
    exact#[_,Z,h]
  ·wp_walk using Hu H,IQ a
   exact#[_,Z,h]
section
variable {prog:Program}{w:World}{A:Around}{E:Value->Shared->Prop}{s:Shared}
theorem Yo{Q:Value->Shared->Prop}(j:s.heap.IsTuple l i)
  (h:∀H,IsEnum H (s.heap.objs.size+1) s.heap.objs.size 0 .none->H.IsTupleIter s.heap.objs.size l 0->(∀b o,s.heap.get? b=some o->H.get? b=some o)->Q (.ref (s.heap.objs.size+1)) { s with heap:=H }):
  wpAny (model prog w) A (call (.type "enumerate") [.ref l]) Q E s:=by
 obtain⟨⟨c,d,D,S⟩,k,a,n,e⟩:=j
 replace a:c= .type "tuple":=a
 replace e:D= .seq i n:=e
 subst a e
 refine callType_new PySem.F.called_enumerate MO (PySem.F.typeCall_enumerate_1 _) (PySem.F.newCall_enumerate_1 _) (λO=>I9 O _) PySem.F.entry_enumerate_new (XL l i n d S) #[k,?_]
 have f:(s.heap.push { cls:=.type "tuple_iterator",data:=.fields (List.toArray [.ref l,.int 0 0]) }).objs.size=s.heap.objs.size+1:=GH ..
 show _/\_
 rw[f]
 have g:IsEnum ((s.heap.push { cls:=.type "tuple_iterator",data:=.fields (List.toArray [.ref l,.int 0 0]) }).push { cls:=.type "enumerate",data:=.fields (List.toArray [.none,.bool false,.ref s.heap.objs.size,rawInt 0,.none,.none]) }) (s.heap.objs.size+1) s.heap.objs.size 0 .none:=by
  have:=FG (s.heap.push { cls:=.type "tuple_iterator",data:=.fields (List.toArray [.ref l,.int 0 0]) }) (o:={ cls:=.type "enumerate",data:=.fields (List.toArray [.none,.bool false,.ref s.heap.objs.size,rawInt 0,.none,.none]) }) Z
  rw[f]at this;exact this
 exact#[#[_,g,Z],h _ g #[_,Fx _ (FG _ Z),Z,Z] λb o x=>Fx _ (Fx _ x)]
theorem t9{c:Type}{Q:c->Shared->Prop}(d:A.handled=none)
  (h:∀H (e:Addr),(∀b o,s.heap.get? b=some o->H.get? b=some o)->Shared.TypeIs { s with heap:=H } (.ref e) "StopIteration"->E (.ref e) { s with heap:=H }):
  wpAny (model prog w) A (do raiseNew (<- newExc (.type "StopIteration") []):Sem c) Q E s:=by
 refine Ft ?_
 simp only[newExc,newTuple]
 refine Ft (Gu ?_ (by size_fits))
 refine Ft (m:=firstArgMember _ _) (Ls (a:=Value.none) ?_ ?_)
 ·first |rfl | (simp only[firstArgMember];rfl)
 refine Gu ?_ (by size_fits)
 simp only[raiseNew]
 refine Ft (wpAny_handled ?_)
 rw[d]
 refine Ft (Fv (wpAny_throw (h _ _ (λb o e=>Fx _ (Fx _ e)) ?_)))
 exact#[_,FG _ Z,Z]
theorem KD{J T:Addr}{i:Nat}{I:Array Value}{Q:Value->Shared->Prop}(g:A.handled=none)(H:s.heap.IsTupleIter J T i)(j:s.heap.IsTuple T I)(l:I[i]?=none)
  (q:∀h (e:Addr),Heap.ExtBut J s.heap h->Shared.TypeIs { s with heap:=h } (.ref e) "StopIteration"->E (.ref e) { s with heap:=h }):wpAny (model prog w) A (Builtin.SmallTypes.nextOf (.ref J)) Q E s:=by
 obtain⟨o,a,p,c⟩:=id H
 obtain⟨O,d,_,N,f⟩:=j
 unfold Builtin.SmallTypes.nextOf
 refine Ft (Gr (name:=Str.ofString "__next__") H.typeIs Hd (Gw Hd H.typeIs IJ (show wpAny _ _ (field (.ref J) 0 >>= _) _ _ s from ?_) (IF _)))
 refine Ft (Gb a c (x:=.ref T) Z (show wpAny _ _ (if (Value.ref T==Value.none)=true then _ else _) _ _ s from ?_))
 rw[FV (show ¬((Value.ref T==Value.none)=true) from FH)]
 refine(show wpAny _ _ (field (.ref J) 1 >>= _) _ _ s from Ft (Gb a c (x:=.int i 0) Z (show wpAny _ _ (seqItems? (.ref T) >>= _) _ _ s from Ft (GS d f ?_))))
 simp only[GQ,l]
 refine Ft (HU (Ft (GG a c MQ ?_)))
 refine t9 (by simpa using g) λh e k t=>q h e (λb o m n=>k b o ?_) t
 exact(FP _ _ (Gp m)).trans n
theorem ZQ(m:A.handled=none)(a l:Addr)(d:l≠a)(I:Array Value):
  Draws prog w A a [a,l] I.size (λi v=>I[i]?=some v) (λi h=>h.IsTupleIter a l i/\h.IsTuple l I) where
 live:=λ_ _ st=>let #[o,H,_]:=st.1;#[o,H]
 frame:=λ_ _ _ st g=>#[st.1.at λo e=>g a MQ o e,let #[o,H,r]:=st.2;#[o,g l MQ o H,r]]
 item:=λi s Q E j st n=>KC st.1 st.2 (x:=I[i]) (by simp [j]) λf b c=>n _ f s.toks (by simp [j]) #[b,let #[o,H,r]:=st.2;#[o,c.extBut l o d H,r]] c
 done:=λs Q E st p=>KD m st.1 st.2 MQ λf e k t=>p f e k t
theorem Yp(c:A.handled=none)(a l:Addr)(I:Array Value)(i:Nat)(d:I[i]?=none):
  Draws prog w A a [a,l] i (λ_ _=>True) (λj h=>j=i/\h.IsTupleIter a l i/\h.IsTuple l I) where
 live:=λ_ _ st=>let #[o,H,_]:=st.2.1;#[o,H]
 frame:=λ_ _ _ st b=>#[st.1,st.2.1.at λo e=>b a MQ o e,let #[o,H,r]:=st.2.2;#[o,b l MQ o H,r]]
 item:=λj s Q E f st n=>absurd st.1 (FJ f)
 done:=λs Q E st g=>KD c st.2.1 st.2.2 d λm e k t=>g m e k t
end
noncomputable def yf(K:Frag)(a:Addr):It:=
 #[λi H=>∃X x,aA K H a X/\X[i]?=some x,λi H x h=>∃p v,x= .ref p/\H p=none/\h=af H p (.tup [.int i,v])/\∀X,aA K H a X->X[i]?=some v,λi H=>∃X,aA K H a X/\X.length<=i]
theorem Yq{P:Program}{K:Frag}(a e g:Addr)(r:e≠g):me P w K (.Tuple e0 kx tp) (yf K a) [e,g] e (λi h=>(∃O,IsEnum h e g i O)/\h.IsTupleIter g a i) where
 mem:=by simp
 obj:=λi h st b hb=>by
  obtain⟨⟨O,j⟩,⟨o,ei,c,d⟩⟩:=st
  rcases List.mem_cons.mp hb with rfl |hb
  ·exact#[_,j,λv z=>by cases (show Data.fields _=Data.cell v from z)]
  ·have q:b=g:=by simpa using hb
   subst q
   exact#[o,ei,λv z=>by rw[d]at z;cases z]
 keep:=λi h A st k=>#[let #[O,j]:=st.1;#[O,k e MQ _ j],st.2.at λo q=>k g MQ o q]
 item:=by
  intro X Q S T U i f s J H E I L st W
  subst Q S T
  obtain⟨⟨O,j⟩,l⟩:=st
  obtain⟨xs,x,M,N⟩:=W
  obtain⟨m,R,p,hz⟩:=I.tuple M
  obtain⟨u,hu,ru⟩:=R.get N
  have Y:e < s.heap.objs.size:=FF j
  have l0:g < s.heap.objs.size:=by obtain⟨_,q,_⟩:=l;exact FF q
  have h0:a≠g:=λz=>by rw[z]at p;obtain⟨o1,e1,c1,_⟩:=l;obtain⟨o2,B,c2,_⟩:=p;rw[e1]at B;cases B;exact absurd (c1.symm.trans c2) MO
  have h1:e∉[g,a]:=λz=>by
   rcases List.mem_cons.mp z with z |z
   ·exact r z
   ·rw[List.mem_singleton.mp z]at j;obtain⟨o2,B,c2,_⟩:=p;unfold IsEnum at j;rw[j]at B;cases B;exact absurd (show Value.type "enumerate"=Value.type "tuple" from c2) MO
  refine wpAny_pyNext_enum_itemD (ZQ (by simpa using I.ok.hd U) g a h0 m.toArray) j #[l,p] (by have:=R.length;have:=(List.getElem?_eq_some_iff.mp N).1;simp;omega) r h1 λx' A t C ho y hT h4 hk=>#[_,Z,?_]
  have D:=y.1
  have ex:u=x':=by
   have h2:m.toArray[i]?=some u:=by simpa using hu
   rw[h2]at C
   exact GK C
  subst ex
  have hn:H s.heap.objs.size=none:=I.hok.fresh (Fz _)
  have I1:ap X f J H { s with heap:=A,toks:=t+1 }:=I.turnedN L λb o hb q=>hk b o (λz=>hb (by simp [z])) (λz=>hb (by simp [z])) q
  have r2:aw [V.int i,x] [Value.int i t,u]:=.cons #[_,Z] (.cons ru .nil)
  have I2:ap X f J (af H s.heap.objs.size (.tup [.int i,x])) { s with heap:=A,toks:=t+1 }:=
   I1.track (I.fpOk (Fz _) hn) I.sz #[by show 2<=sizeLine;decide,_,r2,_,hT,Z,_,Z]
  have F:∀b∈[e,g],fc X f (af H s.heap.objs.size (.tup [.int i,x])) b:=λb hb=>by
   obtain⟨f0,f1⟩:=L b hb
   refine#[?_,f1]
   rw[jk]
   ·exact f0
   ·rcases List.mem_cons.mp hb with rfl |hb
    ·exact FJ Y
    ·have q:b=g:=by simpa using hb
     subst q
     exact FJ l0
  refine wpAny_letOwnedTupleGo_enum (s:={ s with heap:=A,toks:=t+1 }) ho λG h3 n=>?_
  replace n:Heap.SameBut e A G:=n
  have I3:ap X f J (af H s.heap.objs.size (.tup [.int i,x])) { s with heap:=G,toks:=t+1 }:=I2.turnedN F λb o hb q=>(n.2 b λz=>hb (by simp [z])).trans q
  refine#[.ref s.heap.objs.size,_,I3,Z,#[_,x,Z,hn,Z,λys hy=>by rw[I.tuple_inj hy M];exact N],#[#[u,by simpa using h3],D.at λo q=>(n.2 g r.symm).trans q],λb hb=>(F b hb).1]
 done:=by
  intro X Q S T U i f s J H E I L st W
  subst Q S T
  obtain⟨⟨O,j⟩,l⟩:=st
  obtain⟨xs,M,N⟩:=W
  obtain⟨m,R,p,hz⟩:=I.tuple M
  have hl:=R.length
  refine wpAny_pyNext_enum_endD (Yp (by simpa using I.ok.hd U) g a m.toArray i (by simp;omega)) j #[Z,l,p] λA eb=>#[Z,?_]
  exact I.turnedN (t':=s.toks) L λb o hb q=>eb b o (λz=>hb (by simp [z])) q
 self:=λ_ _ _ _ _ st h=>by
  obtain⟨⟨O,j⟩,_⟩:=st
  exact wpAny_pyIter_enum j h
section
variable {X:Cx}{elts:List Expr}{kx:Nat}{tp:Pos}
def yH(K:Frag)(t:TA):TI:=λb H R=>t b H λv h=>∃a,v=[.ref a]/\(∃x,aA K h a x)/\R (yf K a) h
theorem Xi(g:Gl X "enumerate")(j:X.mg "enumerate"=none)(k:PA X [a] t)(m:starEach [a] X.env=[(false,eval a X.env)]:=by rfl):PI X (.Tuple elts kx tp) (.Call (.Name "enumerate" p) [a] [] c) (yH X.K t):=by
 intro P s n H R I h
 refine Call_ (zR I g j PyProof.Rows.boot_enumerate (GF (aW (k c P s n H _ I h) λU S z=>?_) m Z))
 obtain⟨V,o,i,u,Q⟩:=z
 obtain⟨l,e,⟨A,v⟩,q⟩:=Q
 subst e
 cases u with
 |cons r w=>
  cases w
  cases r
  obtain⟨x,B,p,C⟩:=i.tuple v
  refine Yo p λD f d y=>?_
  refine wpAny_pyIter_enum f ?_
  refine#[S.heap.objs.size+1,[S.heap.objs.size+1,S.heap.objs.size],_,_,o,Z,i.kept (t':=S.toks) y,Yq l _ _ (GJ (Hj _)),#[#[_,f],d],λb hb=>?_,q]
  rcases List.mem_cons.mp hb with rfl |hb
  ·exact i.fpOk (Hs _) (i.hok.fresh (Hs _))
  ·have e:b=S.heap.objs.size:=by simpa using hb
   subst e
   exact i.fpOk (Fz _) (i.hok.fresh (Fz _))
end
theorem KE{K:Frag}{xs:List V}{g:TG}{t:TS}{D:bu}(Pv:Nat->St->Hp->Prop)(j:Pv 0 b H)(k:∀i b H,i<=xs.length->Pv i b H->aA K H a xs)
  (l:∀E:bu,E.rt=D.rt->∀i x p b H,xs[i]?=some x->H p=none->(∀c e,Pv (i+1) c e->E.nx c e)->∀G:Prop,((g (.ref p) b (af H p (.tup [.int i,x])) λf n=>t E f n)->G)->Pv i b H->G) (o:∀b H,Pv xs.length b H->D.nx b H):nZ (yf K a) g t D b H:=by
 refine#[λi m b H=>m=xs.length - i/\i<=xs.length/\Pv i b H,#[xs.length,MQ,FN _,j],?_]
 rintro i m b H ⟨rfl,s,p⟩
 have q:=k i b H s p
 by_cases d:i < xs.length
 ·refine .inr #[#[xs,xs[i],q,Fu d],Pv (i+1),λc e P=>#[xs.length - (i+1),MP,Z,d,P],λx e y=>?_]
  obtain⟨r,v,rfl,u,rfl,w⟩:=y
  exact l { D with nx:=Pv (i+1),ct:=Pv (i+1),bk:=D.nx } Z i v r b H (w xs q) u (λ_ _ h=>h) _ (λz=>z) p
 ·exact .inl #[#[xs,q,MP],o _ _ (by rw[show xs.length=i by omega];exact p)]
section
open PySem.W
theorem ZR{K:Frag}(X:K.In h)(a:h.get? x=some o)(b:o.cls= .ref C)(H:clsIn K B≠none)(tB:typeIn K (.ref B)=some (.type "type"))(m:mroIn K B (.type "BaseException")=some true)(c:mroIn K C (.ref B)=some false):
  Looks M h (excMatches (.ref x) (.ref B)) false:=by
 have L:Looks M h (typeOf (.ref x)) (.ref C):=b▸(Looks.ld a).andThen .now
 have l:=looks_typeIn (M:=M) X tB
 have L2:Looks M h (isInstance (.ref B) (.type "tuple")) false:=l.andThen (Looks.of_pure tc_notTuple)
 have d:Looks M h (isType (.ref B)) true:=by
  unfold clsIn at H
  split at H
  ·rename_i e
   intro A Q E s k q
   unfold isType loadHead
   exact Ft (LW (k _ _ (X _ _ e)) (Fv q))
  ·exact absurd Z H
 have f:Looks M h (isExcClass (.ref B)) true:=by
  unfold isExcClass
  exact d.andThen (by rw[FQ Z];exact Mi X m)
 have g:=Mi (M:=M) X c
 intro A Q E s k q
 unfold excMatches
 refine Ft (L2 A _ E s k ?_)
 rw[FV MO]
 refine Ft (Fv ?_)
 dsimp only
 refine Ft ?_
 rw[Ht]
 refine Ft (Ft (f A _ E s k ?_))
 simp only[IA,FK,Hg]
 refine Fv ?_
 dsimp only
 rw[Is]
 refine Fv ?_
 refine Ft (L A _ E s k ?_)
 refine Ft ?_
 rw[Ht]
 refine Ft (Ft (g A _ E s k ?_))
 simp only[FK,Hg]
 refine Fv ?_
 dsimp only
 rw[Is]
 refine Fv ?_
 exact Fv q
end
def xZ(K:Frag)(A B:Addr)(t:DE)(b c:TS):TS:=λD a H=>t D (λx C d _ h=>(mroIn K C (.ref A)=some true/\∀T,h T=none->b D a (af (af h T (fe T)) x (gB C d T x)))∨(mroIn K C (.ref A)=some false/\mroIn K C (.ref B)=some true/\∀T,h T=none->c D a (af (af h T (fe T)) x (gB C d T x)))) a H
section
variable {X:Cx}{st a₀ b₀:Stmt}{as bs:List Stmt}{tb:DE}{ta tc:TS}{ca cb:Str}{np np' hp hp' pos:Pos}{A B:Addr}
theorem v0(b:X.stack=X.env::X.outer)(M:X.env.frame=some X.env.locals)(hb:DU X st tb)(hg:Gl X ca)(hm:X.mg ca=some (.ref A))(hA:clsIn X.K A≠none)(tA:typeIn X.K (.ref A)=some (.type "type"))(mA:mroIn X.K A (.type "BaseException")=some true)
  (N:Gl X cb) (O:X.mg cb=some (.ref B)) (hB:clsIn X.K B≠none) (tB:typeIn X.K (.ref B)=some (.type "type")) (mB:mroIn X.K B (.type "BaseException")=some true)
  (hs:∀e,ls (X.mark e λ_ _=>False) (a₀::as) ta) (P:∀e,ls (X.mark e λ_ _=>False) (b₀::bs) tc) (l:(ca==("__debug__":Str))=false:=by decide) (R:(cb==("__debug__":Str))=false:=by decide):
  PS X (.Try [st] [.ExceptHandler (some (.Name ca np)) none (a₀::as) hp,.ExceptHandler (some (.Name cb np')) none (b₀::bs) hp'] [] [] pos) (xZ X.K A B tb ta tc):=by
 intro p s U H D I h
 refine wpAny_Try_except (LH (GY (hb p s U H D _ I h) (λf g q=>?_) λe g q=>?_))
 ·cases f with
  |next=>exact Ie (Ie q)
  |ret v=>exact q
  |brk=>exact q
  |cont=>exact q
 obtain⟨x,C,d,T,V,rfl,m,hx,hT,o,q⟩:=q
 obtain⟨⟨ox,vs,h1,h2,h3,h4,W,h6⟩,_⟩:=m.hok x _ hx
 obtain⟨⟨oT,J,t1,t2,t3⟩,_⟩:=m.hok T _ hT
 have u:=(Array.getElem?_eq_some_iff.mp h6).1
 have Y:X.A.frames=some (X.env::X.outer):=by rw[<- b];exact m.ok.frames
 have f0:g.heap.FunFrames X.base (X.env::X.outer):=by rw[<- b];exact m.stack
 refine Qr (base:=X.base) Y f0 M h1 W h6 o t1 t2 t3 λg2 Nd=>?_
 have E:(dQ T g.heap).get? x=some ox:=(FP _ _ o).trans h1
 refine yP (s:={ g with heap:=g2 }) Nd E W u λg3 N0=>?_
 obtain⟨t,hn,F,i⟩:=(m.cleared hT t1 t2 t3).noted (C:=C) (d:=d) (t':=g.toks) hx E h2 h4 W u (by unfold iB;rw[b];exact N0)
 have i:ap X p U (af (af V t (fe t)) x (gB C d t x)) { g with heap:=g3 }:=i
 obtain⟨⟨o1,v1,L,k2,k3,k4,k5,k6⟩,_⟩:=i.hok x _ jc
 have G:af (af V t (fe t)) x (gB C d t x) t=some (fe t):=by rw[jk F,jc]
 obtain⟨⟨o2,t0,u1,u2,u3⟩,_⟩:=i.hok t _ G
 have S:∀{E':Value->Shared->Prop} {c:Stmt} {cs:List Stmt} {J:TS} {hp:Pos},(∀e,ls (X.mark e λ_ _=>False) (c::cs) J)->J D U (af (af V t (fe t)) x (gB C d t x))->codeAny (model X.prog X.w) (X.A.mark (some (.ref x))) (Code.handlers (.ref x) [.ExceptHandler none none (c::cs) hp] X.env) (λr a=>match r with | .ok f=>SP X p D f a | .error y=>cameBackBy (model X.prog X.w) X.A X.env E' y a) { g with heap:=g3 }:=by
  intro E' c cs J hp hz qz
  refine codeAny_handlers_suite ?_
  unfold setFlight
  refine Ft (Gb L k5 k6 ?_)
  rw[FQ (show(Value.ref t != Value.none)=true from by simp)]
  refine GG u1 u2 (Array.getElem?_eq_some_iff.mp u3).1 ?_
  have I4:=i.cleared G u1 u2 u3
  refine GY (hz (.ref x) p _ _ _ D (I4.mark (.ref x) λ_ _=>False) qz) (λf s6 Q=>?_) λ_ _ z=>z.elim
  cases f with
  |next=>obtain⟨j,H6,k,n⟩:=Q;exact#[_,_,k.unmark I.ok,n]
  |brk=>obtain⟨j,H6,k,n⟩:=Q;exact#[_,_,k.unmark I.ok,n]
  |cont=>obtain⟨j,H6,k,n⟩:=Q;exact#[_,_,k.unmark I.ok,n]
  |ret v=>obtain⟨y,j,H6,k,rv,n⟩:=Q;exact#[y,_,_,k.unmark I.ok,rv,n]
 rcases q with ⟨mC,q⟩ | ⟨mC,m0,q⟩
 ·refine Mh (LS ?_) (by intro z;cases z)
  refine zg (i.mark (.ref x) λ_ _=>False) hg hm ?_ l
  refine qD i.kIn L k2 hA tA mA mC _ _ _ _ (λ_ _ e=>e) ?_
  exact S hs (q t hn)
 ·refine Mh (LS ?_) (by intro z;cases z)
  refine zg (i.mark (.ref x) λ_ _=>False) hg hm ?_ l
  refine ZR i.kIn L k2 hA tA mA mC _ _ _ _ (λ_ _ e=>e) ?_
  refine Mh (LS ?_) (by intro z;cases z)
  refine zg (i.mark (.ref x) λ_ _=>False) N O ?_ R
  refine qD i.kIn L k2 hB tB mB m0 _ _ _ _ (λ_ _ e=>e) ?_
  exact S P (q t hn)
end
end L2
namespace L2
open PySem PySem.Spec PyProof.Rows
theorem bH.m(r:bH k A)(h:j<=k:=by omega):bH j A:=r.mono h
theorem bP{N P:List Str}{s:Scope}(a:s.kind=.function:=by rfl)(b:s.isCoroutine=false:=by rfl)(c:s.isGenerator=false:=by rfl)(d:N.Nodup:=by decide +kernel)(e:N.take P.length=P:=by rfl)(f:∀x∈P,s.names.lookup x=some .local ∨ s.names.lookup x=some .cell:=by decide +kernel)(g:∀y∈s.names,y.2≠.free:=by decide +kernel):al N P s:=#[a,b,c,d,e,f,g]
theorem ui{N:List Str}{s t:Scope}{M:List Str}{i:List Nat}(a:∀y∈t.names,y.2≠.cell:=by decide +kernel)(b:t.kind=.function:=by rfl)(c:∀y∈t.names,y.2=.local->t.names.lookup y.1=some .local:=by decide +kernel)(d:∀y∈t.names,y.2=.free->s.names.lookup y.1=some .cell:=by decide +kernel)(e:M.drop n=i.map (λi=>N.getD i Str.empty):=by decide +kernel)(f:M.length=n+i.length:=by rfl)(g:∀j∈i,t.names.lookup (N.getD j Str.empty)=some .free:=by decide +kernel):bM N s t M n i:=#[a,b,c,d,e,f,g]
end L2
namespace K30
open PySem PySem.Spec PyProof.Rows L2
variable {P:Program}{w:World}{K:Frag}{mg:Str->Option Value}{base:Heap}
noncomputable def bQ(i:Nat):Stmt:=PySem.Challenge.pw_againbook_k30_whole_right_and_true_is_th.main.body.getD i (.Pass #[0,0,0,0])
noncomputable abbrev AV:Stmt:=bQ 57
noncomputable abbrev sf:Stmt:=bQ 58
noncomputable abbrev gY:Stmt:=bQ 60
def au(p:Addr)(H h:Hp):Prop:=∀b o,b≠p->H b=some o->h b=some o
theorem au.refl:au p H H:=λ_ _ _ h=>h
theorem au.trans(a:au p H d)(b:au p d e):au p H e:=λc o n h=>b c o n (a c o n h)
theorem au.of_eq{H a:Hp}(h:∀b,b≠p->a b=H b):au p H a:=λb o n e=>by rw[h b n];exact e
theorem au.upd_new{o:HO}(a:au p H h)(n:h r=none):au p H (af h r o):=λb u N e=>by
 have q:=a b u N e
 rw[jk (jm q n)];exact q
theorem au.upd_own(a:au p H h)(n:H r=none):au p H (af h r o):=λb u N e=>by
 rw[jk (jm e n)];exact a b u N e
structure aq(H:Hp)(p:Addr):Prop where
 ob:∃a b:Int,0<=a/\1<=b/\b<=2147483646/\H p=some (.lst [.int a,.int b])
theorem aq.eq{c:Hp}(B:aq H p)(e:c p=H p):aq c p:=by
 refine aZ λG k=>?_
 obtain⟨a,b,d,f,g,h⟩:=B.ob
 refine k ?_
 clear k
 exact#[a,b,d,f,g,by rw[e];exact h]
theorem aq.upd_new{o:HO}(B:aq H p)(n:H r=none):aq (af H r o) p:=by
 refine aZ λG k=>?_
 obtain⟨a,b,c,d,e,h⟩:=B.ob
 refine k ?_
 clear k
 exact B.eq (by rw[jk (jm h n)])
theorem aq.ne(B:aq H p)(n:H r=none):r≠p:=by
 refine aZ λG k=>?_
 obtain⟨a,b,c,d,e,h⟩:=B.ob
 refine k ?_
 clear k
 exact Gp (jm h n)
def ba:Sp:=λv H Q _=>∃(p:Addr) (w:Int),v=[.ref p,.int w]/\aq H p/\0 < w/\w<=1000000000000000000/\
 ∀(d:Int) (h:Hp),0<=d->d < w->aq h p->(∀b,b≠p->h b=H b)->Q (.int d) h
def sR(K:Frag):Sp:=λv H Q _=>∃(a:Addr) (n:List Int) (k:Int),v=[.ref a,.int k]/\aP K H a (n.map V.int)/\0<=k/\k < 1000/\
 ∀(r:Addr) (h:Hp),H r=none->aq h r->(∀b,b≠r->h b=H b)->Q (.ref r) h
theorem nY:(10:Int) ^ (18:Int).toNat=1000000000000000000:=by decide
theorem px{ns:List Int}{k:Int}(H:0<=k)(a:k < (ns.length:Int)):∃v:Int,dF (ns.map V.int) k=some (.int v):=by
 have h:k.toNat < ns.length:=by omega
 have e:k=((k.toNat:Nat):Int):=by omega
 have q:dF (ns.map V.int) ((k.toNat:Nat):Int)=some (.int ns[k.toNat]):=jN (by rw[FT,Fu h];rfl)
 rw[<- e]at q
 exact#[_,q]
structure Cl(P:Program)(w:World)(K:Frag)(mg:Str->Option Value)(base:Heap)(L:Nat)(f:Addr)(fd:FuncData)(ps:List Str)(sp:Sp)(py:Str):Prop where
 g:ah P w K mg base aE L f fd ps sp
 b:ay K fd ps []
 k:keepIn K (.ref f)=true
 m:mg py=some (.ref f)
theorem Cl.e{X:Cx}{e:Expr}(c:Cl X.prog X.w X.K X.mg X.base L f o q s a)(i:bH L X.A)(j:PA X (e::E) t)(l:Gl X a:=by rfl)(h:(a==("__debug__":Str))=false:=by decide)(n:starEach (e::E) X.env=(false,eval e X.env)::starEach E X.env:=by rfl)(H:(backTo d (starEach E X.env)).any (·.1)=false:=by rfl):PE X (.Call (.Name a p) (e::E) [] d) (dI s [] E0 t):=kA c.g i l c.m c.k c.b .nil bL j h n H
theorem jy{X:Cx}(h:PE X a t):PE X (.Subscript a (.Constant (.int i) j p) b) (dJ (gr X.K) t (tC (.int i))):=jv j5 h jf λ_ _=>Z
theorem jA{X:Cx}{p:Pos}(i:Nat)(h:X.N.Nodup)(H:PE X e t)(b:X.N[i]?=some x:=by rfl)(c:oC X.env.scope x:=by exact Or.inl Z)(d:swapsWith e (some (.Name x a)) p.line X.env=pure false:=by rfl)(f:X.fn x=true∨X.env.scope.names.lookup x=some .local:=by first |exact .inl Z |exact .inr Z |assumption):PS X (.Assign [.Name x a] e p) (dC t (bK i)):=kP h b c H d f
theorem jq{K:Frag}{H:Hp}{Q:VK}(h:H p=some (.tup x))(a:dF x n=some v)(q:Q v H)(e:b[i]?=some (some (.ref p)):=by rfl):dJ (gr K) (be i) (tC (.int n)) b H Q:=#[_,e,p,x,n,v,Z,Z,aA.of h,a,q]
theorem jZ{X:Cx}(h:PE X a t):PT X (.Compare a [.Eq] [.Constant (.str x) j p] b) (iI (dJ CV t (tC (.str x)))):=jB qO h jl Z
theorem za{X:Cx}(h:PE X a t):PT X (.Compare a [.Eq] [.Constant (.int x) j p] b) (iI (dJ CV t (tC (.int x)))):=jB qO h jf Z
theorem hG:al ["_law_box_here","_law_wide","_law_digit","_law_one","_law_mixed"] ["_law_box_here","_law_wide"] (aa sf):=bP
theorem vJ(F:aU K "_law_take" "_law_take" sf f x):ah P w K mg base aE 1 f x ["_law_box_here","_law_wide"] ba:=by
 refine F.ok hG ?_ λC A O s H V Q E z h=>?_
 ·rintro _ _ _ _ ⟨p,w,rfl,_⟩
  rfl
 refine aZ λG k=>?_
 obtain⟨p,W,rfl,B,d,g,q⟩:=h
 refine k ?_
 clear k
 refine aZ λG k=>?_
 obtain⟨a,b,l,i,j,e⟩:=B.ob
 refine k ?_
 clear k
 refine#[_,jd (jx (jB Jz (jv jr (pv 0) jf (λ_ _=>Z)) jf (aK _))
   (jd (jA 2 hG.nd (ju kW (jv jr (pv 0) jf (λ_ _=>Z)) (pv 1)))
   (jd (zf (ju Km (jv jr (pv 0) jf (λ_ _=>Z)) (pv 1)) (qH (pv 0) jf zr))
   (jg (jo (pv 2))))) jp)
  (jd (jA 3 hG.nd (ju kW (ju zn (jv jr (pv 0) jf (λ_ _=>Z)) jf) jf))
  (jd (zf (ju jX (ju kW (ju jX (ju zn (pv 3) jf) jf) jf) jf) (qH (pv 0) jf zr))
  (jd (jA 4 hG.nd (ju Km (ju jX (ju zn (pv 3) jf) (jv jr (pv 0) jf (λ_ _=>Z))) jf))
  (jd (jx (jB Jz (pv 1) (ju Jl jf jf) (aK _)) (jg (jA 4 hG.nd (ju zn (pv 4) (pv 4)))) jp)
  (jg (jo (ju kW (pv 4) (pv 1)))))))),?_]
 refine#[_,Z,p,_,_,_,Z,Z,aP.of e,Z,_,_,Z,Z,_,Z,?_]
 refine bV (λc=>?_) (λc=>?_)
 ·have D:(0:Int) < a:=GN c
  refine#[_,Z,p,_,_,_,Z,Z,aP.of e,Z,_,Z,_,_,Z,Z,d,?_]
  refine#[_,Z,p,_,_,_,Z,Z,aP.of e,Z,_,Z,_,_,Z,Z,#[d,g],_,Z,p,_,_,0,Z,Z,e,Z,_,Z,?_]
  refine q (a % W) _ (GV _ MP) (Gx _ d) #[a / W,b,Int.ediv_nonneg l MP,i,j,jc] λb n=>jk n
 ·have I:0<=b*69621 % 2147483647:=GV _ MO
  have J:b*69621 % 2147483647 < 2147483647:=Gx _ MO
  refine#[_,Z,p,_,_,_,Z,Z,aP.of e,Z,_,_,Z,Z,.inr #[MO,MO],_,_,Z,Z,(by show(0:Int) < 2147483647;decide),?_]
  refine#[_,Z,_,_,Z,Z,.inr #[MO,MO],_,_,Z,Z,_,_,Z,Z,(by show(0:Int) < 2147483646;decide),_,_,Z,Z,_,Z,p,_,_,1,Z,Z,e,Z,?_]
  generalize m:b*69621 % 2147483647=o at*
  have N:0<=(o*48271+30103) % 2147483646:=GV _ MO
  have L:(o*48271+30103) % 2147483646 < 2147483646:=Gx _ MO
  generalize r:(o*48271+30103) % 2147483646=t at*
  refine#[_,Z,_,_,Z,Z,.inr #[MO,MO],_,Z,p,_,_,_,Z,Z,aP.of jc,Z,_,_,Z,Z,_,_,Z,Z,#[MO,MO],?_]
  have X:0<=(o*2147483647+(t+1)) / 8191:=by omega
  have R:(o*2147483647+(t+1)) / 8191 < 18446744073709551616:=by omega
  generalize u:(o*2147483647+(t+1)) / 8191=M at*
  refine#[_,Z,_,_,Z,Z,#[MO,MO,MO],_,_,Z,Z,_,Z,?_]
  have v:aq (af H p (.lst [.int a,.int (t+1)])) p:=#[a,t+1,l,MP,MP,jc]
  refine bV (λy=>?_) (λy=>?_)
  ·refine#[_,Z,_,Z,_,_,Z,Z,.inl #[MP,MP],?_]
   refine#[_,Z,_,Z,_,_,Z,Z,d,?_]
   exact q _ _ (GV _ MP) (Gx _ d) v λb n=>jk n
  ·refine#[_,Z,_,Z,_,_,Z,Z,d,?_]
   exact q _ _ (GV _ MP) (Gx _ d) v λb n=>jk n
theorem lI:al ["_law_script","_law_k","_law_cell","_law_seed"] ["_law_script","_law_k"] (aa AV):=bP
theorem Ab(F:aU K "_law_box" "_law_box" AV f I)(m:mg "len"=none)(M:mg "int"=none):ah P w K mg base aE 1 f I ["_law_script","_law_k"] (sR K):=by
 refine F.ok lI ?_ λJ A o s H W Q E X h=>?_
 ·rintro _ _ _ _ ⟨a,ns,k,rfl,_⟩
  rfl
 refine aZ λY t=>?_
 obtain⟨a,ns,k,rfl,d,i,L,q⟩:=h
 refine t ?_
 clear t
 refine#[_,jd (jA 2 lI.nd (ju jX (ju zn jf (pv 1)) jf))
  (jd (jx (jB Qb (pv 1) (jP jK Z m Hi (ja (pv 0) jb)) (aK _))
   (jg (jA 2 lI.nd (jv jr (pv 0) (pv 1) (λ_ _=>Z))))
   (jg (jx (jB Jz (jP jK Z m Hi (ja (pv 0) jb)) jf (aK _))
    (jg (jA 2 lI.nd (ju jX (pv 2) (ju zn (ju kW (jv jr (pv 0) (ju kW (pv 1) (jP jK Z m Hi (ja (pv 0) jb))) (λ_ _=>Z)) jf) jf)))) jp)))
  (jd (jA 3 lI.nd (ju jX (ju kW (ju jX (ju zn (ju kW (pv 2) jf) jf) (ju zn jf (pv 1))) jf) jf))
  (jg (jo (jF (ja (ju zn (pv 2) (jE Js Z M boot_int (ja (qu Z8 (pv 2) (ju Jl jf jf) (aK _)) jb))) (ja (pv 3) jb))))))),?_]
 have e:(ns.map V.int).length=ns.length:=Fy _
 have T:∀c:Int,∃v:V,∃x:Int,v= .int x/\1<=x/\x<=2147483646/\v= .int ((c % 2147483629*48271+40692*k) % 2147483646+1):=λc=>by
  have N:0<=(c % 2147483629*48271+40692*k) % 2147483646:=GV _ MO
  have O:(c % 2147483629*48271+40692*k) % 2147483646 < 2147483646:=Gx _ MO
  exact#[_,_,Z,MP,MP,Z]
 have j:∀(c:Int) (r:Addr),H r=none->Q (.ref r) (af H r (.lst [.int (c*(if decide ((10:Int) ^ (18:Int).toNat<=c)=true then 1 else 0)),.int ((c % 2147483629*48271+40692*k) % 2147483646+1)])):=λc r R=>by
  refine q r _ R #[_,_,?_,?_,?_,jc] λb n=>jk n
  ·rw[nY]
   by_cases h:(1000000000000000000:Int)<=c
   ·rw[Gn h,FQ Z];omega
   ·rw[FY h,FV FH];omega
  ·have N:0<=(c % 2147483629*48271+40692*k) % 2147483646:=GV _ MO
   omega
  ·have O:(c % 2147483629*48271+40692*k) % 2147483646 < 2147483646:=Gx _ MO
   omega
 have B:∀c:Int,uk c (if decide ((10:Int) ^ (18:Int).toNat<=c)=true then 1 else 0):=λc=>.inr (by split<;>decide)
 refine aj λF0 u=>#[_,Z,_,_,Z,Z,.inl #[MO,MO],_,_,Z,Z,u _ _ ?_]
 clear u
 refine aj λS y=>?_
 have l:∀c:Int,S [some (.ref a),some (.int k),some (.int c),none] H:=λc=>y _ _ (aj λF2 U=>#[_,Z,_,_,Z,Z,(by show(0:Int) < 2147483629;decide),_,_,Z,Z,.inr #[MO,MO],_,Z,_,_,Z,Z,.inl #[MO,MO],_,_,Z,Z,_,_,Z,Z,(by show(0:Int) < 2147483646;decide),_,_,Z,Z,U _ _ (#[_,Z,_,Z,_,_,Z,Z,#[MO,MO,MO],_,_,Z,Z,.inr #[_,Z,_,_,Z,Z,B c,_,Z,bX,j c]])])
 clear y
 refine nk λG g=>#[_,Z,_,Z,a,_,Z,.inl d,_,_,Z,Z,_,Z,g _ _ ?_]
 clear g
 refine bV (λc=>?_) (λc=>?_)
 ·have C:k < (((ns.map V.int).length:Nat):Int):=GN c
  rw[e]at C
  obtain⟨v,p⟩:=px (ns:=ns) i C
  exact#[_,Z,_,Z,a,_,_,_,Z,Z,d,p,l v]
 ·have C:¬k < (((ns.map V.int).length:Nat):Int):=I8 (Bool.eq_false_iff.mpr c)
  rw[e]at C
  refine nk λG g=>#[_,Z,a,_,Z,.inl d,_,_,Z,Z,_,Z,g _ _ ?_]
  clear g
  refine bV (λz=>?_) (λz=>?_)
  ·have D:(0:Int) < (((ns.map V.int).length:Nat):Int):=GN z
   obtain⟨v,p⟩:=px (ns:=ns) (k:=k % (((ns.map V.int).length:Nat):Int)) (GV _ MP) (by have:=Gx k D;rw[e]at this;rw[e];exact this)
   exact#[_,Z,_,Z,_,Z,_,Z,a,_,Z,.inl d,_,_,Z,Z,D,a,_,_,_,Z,Z,d,p,_,_,Z,Z,(by show(0:Int) < 2147483629;decide),_,_,Z,Z,.inr #[MO,MO],_,_,Z,Z,l _]
  ·exact l _
theorem mJ(i j:Str):(i++j).length=i.length+j.length:=by
 show(i.cps++j.cps).size=i.cps.size+j.cps.size
 exact Mf
theorem zu:1000000<=sizeLine:=by rw[LY];decide
theorem ao{H:Hp}{o:HO}(h:H b=some u)(n:H r=none):af H r o b=some u:=by rw[jk (jm h n)];exact h
theorem tq{z:Str}{k:Int}(H:0<=k)(a:k < (z.length:Int)):∃c:Nat,dF z.cps.toList k=some c:=by
 have b:z.cps.toList.length=z.length:=Ga
 have h:k.toNat < z.cps.toList.length:=by omega
 have e:k=((k.toNat:Nat):Int):=by omega
 have q:dF z.cps.toList ((k.toNat:Nat):Int)=some z.cps.toList[k.toNat]:=jN (Fu h)
 rw[<- e]at q
 exact#[_,q]
theorem Ke{ys:List Str}{k:Int}(H:0<=k)(a:k < (ys.length:Int)):∃y∈ys,dF (ys.map V.str) k=some (.str y):=by
 have h:k.toNat < ys.length:=by omega
 have e:k=((k.toNat:Nat):Int):=by omega
 have q:dF (ys.map V.str) ((k.toNat:Nat):Int)=some (.str ys[k.toNat]):=jN (by rw[FT,Fu h];rfl)
 rw[<- e]at q
 exact#[_,IV h,q]
noncomputable def bn(s:List Str)(lo h:Option Int):List Str:=(s.drop (HT.sIx s.length 0 lo)).take (HT.sIx s.length s.length h - HT.sIx s.length 0 lo)
theorem zw(s:List Str)(lo h:Option Int):a8 (s.map V.str) lo h=(bn s lo h).map V.str:=by
 unfold a8 bn
 rw[Fy,Ld,List.map_drop]
theorem zM{lo:Option Int}(h:y∈bn s lo H):y∈s:=List.mem_of_mem_drop (GU h)
theorem qo(s:List Str)(lo h:Option Int):(bn s lo h).length<=s.length:=by
 unfold bn
 rw[Gf,HL]
 omega
theorem qT:∀{ys:List Str},(∀y∈ys,y.length<=1)->(ys.map (·.length)).sum<=ys.length
 | [],_=>Fz _
 |y::r,h=>by
  have a:=h y FX
  have b:=qT (ys:=r) λz H=>h z (Ge _ H)
  rw[Hr,List.sum_cons,Gi]
  omega
theorem qU{z:Str}{ys:List Str}(H:z.length=0)(h:∀y∈ys,y.length<=1):(Txt.join z ys).length<=ys.length:=by
 show(Builtin.Str.glued z ys).length<=_
 rw[size_glued,H,Nat.mul_zero,Nat.add_zero]
 exact qT h
noncomputable def dj:Str:="abcdefghijklmnopqrstuvwxyz"
theorem JK:dj.length=26:=by decide+kernel
noncomputable def oi(d:Int)(k:Nat):Nat:=97+((d+5*(0+(k:Int))) % 26).toNat
theorem vb(H:i < 20)(a:j < 20)(h:oi d i=oi d j):i=j:=by
 unfold oi at h
 omega
theorem yQ(H:0<=k)(a:k < 26)(h:dF dj.cps.toList k=some c):c=97+k.toNat:=by
 have q:∀m:Fin 26,dF dj.cps.toList (m.val:Int)=some (97+m.val):=by decide+kernel
 have e:=q #[k.toNat,MP]
 have E:((k.toNat:Nat):Int)=k:=by omega
 dsimp only at e
 rw[E,h]at e
 injection e
def Sh(A S:Str)(d:Int)(c:Nat)(w:Str):Prop:=if d=2 then ∃R:Str,w=R++#[(List.toArray [c])] else w=A++#[(List.toArray [c])]++S∨w=A++#[(List.toArray [c])]++S++"z"∨w="qqqqqqq"++#[(List.toArray [c])]
theorem kC(a b:Str):(a++b).cps.toList=a.cps.toList++b.cps.toList:=by
 show(a.cps++b.cps).toList=_
 exact Array.toList_append
theorem Xj{R:Str}(h:R++(#[(List.toArray [c])]:Str)=r++#[(List.toArray [C])]):c=C:=by
 have e:=Hf (Array.toList ∘ Str.cps) h
 have e:(R++(#[(List.toArray [c])]:Str)).cps.toList=(r++(#[(List.toArray [C])]:Str)).cps.toList:=e
 rw[kC,kC]at e
 have:=List.append_inj_right' e Z
 injection this
theorem ve{S:Str}(h:A++(#[(List.toArray [c])]:Str)++S=A++#[(List.toArray [C])]++S):c=C:=by
 have e:=Hf (Array.toList ∘ Str.cps) h
 have e:(A++(#[(List.toArray [c])]:Str)++S).cps.toList=(A++(#[(List.toArray [C])]:Str)++S).cps.toList:=e
 rw[kC,kC,kC,kC]at e
 have:=MM (Le e)
 injection this
theorem Dc{A S : Str}{d : Int}{c C : Nat}{w : Str}(i : A.length + S.length <= 5)(h : Sh A S d c w)(H : Sh A S d C w) : c = C := by
  unfold Sh at h H
  have l : ∀ c : Nat, (#[(List.toArray [c])] : Str).length = 1 :=λ_ => Z
  have L : (Str.ofString "z").length = 1 := by decide +kernel
  have f : (Str.ofString "qqqqqqq").length = 7 := by decide +kernel
  split at h
  · rename_i a
    rw [FQ a] at H
    obtain ⟨R, rfl⟩ := h
    obtain ⟨r, e⟩ := H
    exact Xj e
  · rename_i a
    rw [FV a] at H
    rcases h with rfl | rfl | rfl <;> rcases H with e | e | e
    · exact ve e
    all_goals first
      | exact Xj e
      | (have g := Hf Str.length e
         simp only [mJ, l, L, f] at g
         omega)
      | skip
    have E := Hf (Array.toList ∘ Str.cps) e
    have E : (A ++ (#[(List.toArray [c])] : Str) ++ S ++ ("z" : Str)).cps.toList = (A ++ (#[(List.toArray [C])] : Str) ++ S ++ ("z" : Str)).cps.toList := E
    rw [kC, kC (A ++ _ ++ S)] at E
    have b := Le E
    rw [kC, kC, kC, kC] at b
    have := MM (Le b)
    injection this
theorem Xk{y:List Str}:y.Nodup↔∀i j:Nat,i < j->j < y.length->y[i]?≠y[j]?:=by
 unfold List.Nodup
 rw[List.pairwise_iff_getElem]
 refine#[λh i j H a e=>?_,λh i j b a H e=>h i j H a ?_]
 ·rw[Fu (by omega:i < y.length),Fu a]at e
  injection e with e
  exact h i j MP a H e
 ·rw[Fu b,Fu a,e]
theorem sM{A S:Str}{d D:Int}{Y:List Str}(b:A.length+S.length<=5)(g:Y.length<=20)(h:∀j y,Y[j]?=some y->Sh A S D (oi d j) y):Y.Nodup:=by
 rw[Xk]
 intro i j c H e
 have a:=h i _ (Fu (by omega:i < Y.length))
 have f:=h j _ (Fu H)
 rw[Fu (by omega:i < Y.length),Fu H]at e
 injection e with e
 rw[e]at a
 have:=vb MP MP (Dc b a f)
 omega
theorem ZS{y:List Str}(h:y.Nodup)(b:a∉y):(y.set n a).Nodup:=by
 rw[Xk]at h ⊢
 intro i j H c e
 rw[Ly]at c
 by_cases d:n=i
 ·rw[d,IP MP,HZ MP]at e
  exact b (F' e.symm)
 ·by_cases f:n=j
  ·rw[f,IP MP,HZ MP]at e
   exact b (F' e)
  ·rw[HZ d,HZ f]at e
   exact h i j H c e
theorem vm{y:List Str}(h:nq (.str a) (y.map V.str)=false):a∉y:=λm=>by
 unfold nq at h
 rw[List.any_eq_false]at h
 exact h (.str a) (List.mem_map.mpr #[a,m,Z]) (by simp [lU])
theorem uL{ss:List Str}{d1 d2:Int}(h:ss.length=(1+d1).toNat)(a:0<=d2)(b:d2 < 1+d1):(bn ss none (some d2)).length+(bn ss (some (d2+1)) none).length<=d1.toNat:=by
 obtain⟨k,rfl⟩:∃k:Nat,d2=k:=#[d2.toNat,(Int.toNat_of_nonneg a).symm]
 obtain⟨n,rfl⟩:∃n:Nat,d1=n:=#[d1.toNat,(Int.toNat_of_nonneg MP).symm]
 have H:k<=n:=by omega
 have h:ss.length=n+1:=by rw[h];omega
 clear a b
 unfold bn
 rw[show((k:Int)+1)=((k+1:Nat):Int) from Z,HT.sIx_nat,HT.sIx_nat,Gf,Gf,HL,h,IB (Ho H),IB (Nat.le_succ_of_le H)]
 refine FL (Nat.add_le_add (Mm _ _) (Mm _ _)) ?_
 show k - 0+(n+1 - (k+1))<=n
 rw[Mb,Nat.add_sub_add_right,Nat.add_sub_cancel' H]
 exact Fz _
theorem Ep{S:Str}:Sh A S d c ("qqqqqqq"++#[(List.toArray [c])]):=by
 unfold Sh
 split
 ·exact#[_,Z]
 ·exact .inr (.inr Z)
theorem Er{A S:Str}{d:Int}{c:Nat}{w:Str}(h:if d=2 then ∃R:Str,w=R++#[(List.toArray [c])] else w=A++#[(List.toArray [c])]++S∨w=A++#[(List.toArray [c])]++S++"z"):Sh A S d c w:=by
 unfold Sh
 split at h
 ·rename_i e;rw[FQ e];exact h
 ·rename_i e;rw[FV e];exact h.elim .inl λz=>.inr (.inl z)
noncomputable def pre(s:List Str)(d:Int):Str:=Txt.join "" (bn s none (some d))
noncomputable def eY(s:List Str)(d:Int):Str:=Txt.join "" (bn s (some (d+1)) none)
def gN:Sp:=λv H Q _=>∃(p:Addr) (n:Int),v=[.ref p,.int n]/\aq H p/\1<=n/\n<=20/\
 ∀(r:Addr) (Y:List Str) (h:Hp),H r=none->h r=some (.lst (Y.map V.str))->(Y.length:Int)=n->(∀y∈Y,y.length<=20)/\Y.Nodup->aq h p->au p H h->Q (.ref r) h
theorem bf:al ["_law_box_here","_law_total","_law_letters","_law_wide","_law_spot_here","_law_signs","_law_first","_law_form","_law_found","_law_k","_law_one","_law_word","_law_some","_law_odd"] ["_law_box_here","_law_total"] (aa gY):=bP
noncomputable def K7:Scope:=#[.function,[(".0",.local),("_law_k",.local),("_law_take",.globalImplicit),("_law_box_here",.free),("_law_letters",.free)],false,false,[]]
theorem Yr:(["_law_k","_law_box_here","_law_letters"]:List Str).Nodup:=by decide+kernel
theorem Ys:bM ["_law_box_here","_law_total","_law_letters","_law_wide","_law_spot_here","_law_signs","_law_first","_law_form","_law_found","_law_k","_law_one","_law_word","_law_some","_law_odd"] (aa gY) K7 ["_law_k","_law_box_here","_law_letters"] 1 [0,2]:=ui
noncomputable def K8:Scope:=#[.function,[(".0",.local),("_law_j",.local),("_law_take",.globalImplicit),("_law_box_here",.free),("_law_letters",.free)],false,false,[]]
theorem Yt:(["_law_j","_law_box_here","_law_letters"]:List Str).Nodup:=by decide+kernel
theorem Yu:bM ["_law_box_here","_law_total","_law_letters","_law_wide","_law_spot_here","_law_signs","_law_first","_law_form","_law_found","_law_k","_law_one","_law_word","_law_some","_law_odd"] (aa gY) K8 ["_law_j","_law_box_here","_law_letters"] 1 [0,2]:=ui
theorem Jg{p:Addr}{Q:List V->Hp->Prop}(o:n<=20)(B:aq f p)
  (q:∀(S:List Str) (H:Hp),S.length=n->(∀s∈S,s.length<=1)->aq H p->(∀b,b≠p->H b=f b)->Q (S.map V.str) H):
  fb (ut 0 n) 1 [some (.ref p),some (.str dj)] (bK 0) lP (dJ AQ (be 2) (dI ba [] E0 (am (be 1) (am (tC (.int 26)) aT)))) Q f:=by
 refine XB (λi y H=>∃S:List Str,y=S.map V.str/\S.length=i/\(∀s∈S,s.length<=1)/\aq H p/\∀b,b≠p->H b=f b)
  #[[],Z,Z,(λ_ h=>nomatch h),B,λ_ _=>Z] (FL o MO) (λi y H #[S,e,l,_]=>by rw[e,Fy,l];exact Fz _) ?_ ?_
 ·intro i y H x a
  refine aZ λG k=>?_
  obtain⟨S,rfl,g,j,m,E⟩:=a
  refine k ?_
  clear k
  refine#[_,Z,_,Z,p,26,Z,m,MO,MO,λd A D r t u=>?_]
  obtain⟨c,v⟩:=tq (z:=dj) D (by rw[JK];exact r)
  refine#[_,_,c,Z,Z,MO,v,S++[#[(List.toArray [c])]],by rw[Gm];rfl,by rw[FD,g];rfl,λs hs=>?_,t,λb N=>(u b N).trans (E b N)]
  rcases List.mem_append.mp hs with hs |hs
  ·exact j s hs
  ·rw[List.mem_singleton.mp hs];exact Fz 1
 ·intro y H a
  refine aZ λG k=>?_
  obtain⟨S,rfl,g,j,m,E⟩:=a
  refine k ?_
  clear k
  exact q S H g j m E
def Rw(p g r:Addr)(n d D b e:Int)(i c:Nat)(s y:List Str)(H:Hp)(L:Nat)(Z:Str->Prop):L2.St->Hp->Prop:=λa h=>∃W:Str,(W.length<=L/\Z W)/\
 a=[some (.ref p),some (.int n),some (.str dj),some (.int (1+d)),some (.int D),some (.ref g),some (.int b),some (.int e),some (.ref r),some (.int (0+(i:Int))),some (.str #[(List.toArray [c])]),some (.str W),none,none]/\
 h g=some (.lst (s.map V.str))/\h r=some (.lst (y.map V.str))/\aq h p/\au p H h
def Rf(p r:Addr)(n:Int)(H:Hp):L2.St->Hp->Prop:=λa h=>a[8]?=some (some (.ref r))/\∃Y:List Str,h r=some (.lst (Y.map V.str))/\(Y.length:Int)=n/\((∀y∈Y,y.length<=20)/\Y.Nodup)/\aq h p/\au p H h
theorem Qx(Y:List Str):(Y.map V.str).all cV=true:=by
 rw[Lk]
 intro v h
 obtain⟨y,_,rfl⟩:=List.mem_map.mp h
 rfl
theorem sK(Y:List Str)(j:Nat)(y:Str):(Y.map V.str).set j (V.str y)=(Y.set j y).map V.str:=(List.map_set ..).symm
inductive NI(p g r:Addr)(n d1 d2 d4 d5:Int)(ss:List Str)(H:Hp)(i:Nat)(σ:L2.St)(H':Hp):Prop
 |mk (ok oo ow:Option V) (ys:List Str) (e0:σ=[some (.ref p),some (.int n),some (.str dj),some (.int (1+d1)),some (.int d2),some (.ref g),some (.int d4),some (.int d5),some (.ref r),ok,oo,ow,none,none]) (e1:H' g=some (.lst (ss.map V.str))) (e2:H' r=some (.lst (ys.map V.str))) (e3:ys.length=i) (e4:(∀y∈ys,y.length<=20)/\∀j y,ys[j]?=some y->Sh (pre ss d2) (eY ss d2) d5 (oi d4 j) y) (e5:aq H' p) (e6:au p H H'):NI p g r n d1 d2 d4 d5 ss H i σ H'
theorem pW{cf:FuncData}(F:aU K "_law_names" "_law_names" gY f fd)(GT:ah P w K mg base aE 1 fT cf ["_law_box_here","_law_wide"] ba)(x:ay K cf ["_law_box_here","_law_wide"] [])(C:keepIn K (.ref fT)=true)
  (M:mg "_law_take"=some (.ref fT)) (mr:mg "range"=none):ah P w K mg base aE 2 f fd ["_law_box_here","_law_total"] gN:=by
 refine F.ok bf ?_ λc1 A o1 s H vs Q E D h=>?_
 ·rintro _ _ _ _ ⟨p,n,rfl,_⟩
  rfl
 refine aZ λGq T=>?_
 obtain⟨p,n,rfl,B,a4,a',q⟩:=h
 refine T ?_
 clear T
 refine#[_,(@jd _ _ _ _ _ (@kP _ _ (2) _ _ _ _ bf.nd Z (Or.inr Z) (@jl _ _ _ _) MT (.inl Z)) (@jd _ _ _ _ _ (@kP _ _ (3) _ _ _ _ bf.nd Z (Or.inl Z) (@ju _ _ _ _ _ _ _ _ jX (@jf _ _ _ _) (@kA _ _ _ _ _ _ _ _ _ _ _ _ _ _ _ _ GT D Z M C x .nil bL (@ja _ _ _ _ _ (@pv _ 0 _ _ MT (.inr (.inl Z)) MO MO) (@ja _ _ _ _ _ (@jf _ _ _ _) (@jb _) MT) MT) MO MT MT)) MT (.inl Z)) (@jd _ _ _ _ _ (@kP _ _ (4) _ _ _ _ bf.nd Z (Or.inl Z) (@kA _ _ _ _ _ _ _ _ _ _ _ _ _ _ _ _ GT D Z M C x .nil bL (@ja _ _ _ _ _ (@pv _ 0 _ _ MT (.inr (.inl Z)) MO MO) (@ja _ _ _ _ _ (@pv _ 3 _ _ MT (.inl Z) MO MO) (@jb _) MT) MT) MO MT MT) MT (.inl Z)) (@jd _ _ _ _ _ (@YS _ _ _ _ _ _ _ _ _ _ (5) (["_law_k","_law_box_here","_law_letters"]) (1) ([0,2]) _ _ _ _ bf.nd Z (Or.inl Z) Z (@kM _ _ _ _ _ _ Z mr (@ja _ _ _ _ _ (@pv _ 3 _ _ MT (by first |exact Or.inl Z |exact Or.inr (Or.inl Z) |exact Or.inr (Or.inr Z)) MO MO) (@jb _) MT) MT) Ys (λ_ _ _ _ _=>(@jw _ _ (0) _ Yr Z (Or.inl Z) (by first |exact .inl Z |exact .inr Z))) (λ_ _ _ _ _=>(@zU _)) (λ_ _ _ _ _=>(@jv _ _ _ _ _ _ _ Kd (@pv _ 2 _ _ MT (by first |exact Or.inl Z |exact Or.inr (Or.inl Z) |exact Or.inr (Or.inr Z)) MO MO) (@kA _ _ _ _ _ _ _ _ _ _ _ _ _ _ _ _ GT D Z M C x .nil bL (@ja _ _ _ _ _ (@pv _ 1 _ _ MT (by first |exact Or.inl Z |exact Or.inr (Or.inl Z) |exact Or.inr (Or.inr Z)) MO MO) (@ja _ _ _ _ _ (@jf _ _ _ _) (@jb _) MT) MT) MO MT MT) (λ_ _=>Z))) MT (by first |exact .inl Z |exact .inr Z) (by intro _;rfl)) (@jd _ _ _ _ _ (@kP _ _ (6) _ _ _ _ bf.nd Z (Or.inl Z) (@kA _ _ _ _ _ _ _ _ _ _ _ _ _ _ _ _ GT D Z M C x .nil bL (@ja _ _ _ _ _ (@pv _ 0 _ _ MT (.inr (.inl Z)) MO MO) (@ja _ _ _ _ _ (@jf _ _ _ _) (@jb _) MT) MT) MO MT MT) MT (.inl Z)) (@jd _ _ _ _ _ (@kP _ _ (7) _ _ _ _ bf.nd Z (Or.inl Z) (@kA _ _ _ _ _ _ _ _ _ _ _ _ _ _ _ _ GT D Z M C x .nil bL (@ja _ _ _ _ _ (@pv _ 0 _ _ MT (.inr (.inl Z)) MO MO) (@ja _ _ _ _ _ (@jf _ _ _ _) (@jb _) MT) MT) MO MT MT) MT (.inl Z)) (@jd _ _ _ _ _ (@kP _ _ (8) _ _ _ _ bf.nd Z (Or.inl Z) (@jF _ _ _ _ (@jb _)) MT (.inl Z)) (@jd _ _ _ _ _ (@j9 _ _ _ _ _ _ _ _ Gv Z (@kM _ _ _ _ _ _ Z mr (@ja _ _ _ _ _ (@pv _ 1 _ _ MT (.inl Z) MO MO) (@jb _) MT) MT) (@jw _ _ (9) _ bf.nd Z (Or.inl Z) (.inl Z)) (@jd _ _ _ _ _ (@kP _ _ (10) _ _ _ _ bf.nd Z (Or.inl Z) (@jv _ _ _ _ _ _ _ Kd (@pv _ 2 _ _ MT (.inr (.inl Z)) MO MO) (@ju _ _ _ _ _ _ _ _ kW (@ju _ _ _ _ _ _ _ _ jX (@pv _ 6 _ _ MT (.inl Z) MO MO) (@ju _ _ _ _ _ _ _ _ zn (@jf _ _ _ _) (@pv _ 9 _ _ MT (.inl Z) MO MO))) (@jf _ _ _ _)) (λ_ _=>Z)) MT (.inl Z)) (@jd _ _ _ _ _ (@jY _ _ _ (@kP _ _ (11) _ _ _ _ bf.nd Z (Or.inl Z) (@ju _ _ _ _ _ _ _ _ zD (@ju _ _ _ _ _ _ _ _ zD (@kN _ _ _ _ _ _ _ _ _ _ _ _ Lm LC LB QO (@jl _ _ _ _) (@ja _ _ _ _ _ (@jJ _ _ _ _ _ _ _ _ _ _ kB (@pv _ 5 _ _ MT (.inl Z) MO MO) (@j7 _) (@jG _ _ _ (@pv _ 4 _ _ MT (.inl Z) MO MO))) (@jb _) MT) MT MT MT MT MT) (@pv _ 10 _ _ MT (.inl Z) MO MO)) (@kN _ _ _ _ _ _ _ _ _ _ _ _ Lm LC LB QO (@jl _ _ _ _) (@ja _ _ _ _ _ (@jJ _ _ _ _ _ _ _ _ _ _ kB (@pv _ 5 _ _ MT (.inl Z) MO MO) (@jG _ _ _ (@ju _ _ _ _ _ _ _ _ jX (@pv _ 4 _ _ MT (.inl Z) MO MO) (@jf _ _ _ _))) (@j7 _)) (@jb _) MT) MT MT MT MT MT)) MT (.inl Z))) (@jd _ _ _ _ _ (@jY _ _ _ (@jx _ _ _ _ _ _ _ _ (@PW.pt _ _ _ (@zS _ _ _ _ _ _ _ (za (@pv _ 7 _ _ MT (.inl Z) MO MO)) (@zF _ _ _ _ (za (@ju _ _ _ _ _ _ _ _ kW (@pv _ 9 _ _ MT (.inl Z) MO MO) (@jf _ _ _ _)))))) (@jg _ _ _ (@kP _ _ (11) _ _ _ _ bf.nd Z (Or.inl Z) (@ju _ _ _ _ _ _ _ _ zD (@pv _ 11 _ _ MT (.inl Z) MO MO) (@jl _ _ _ _)) MT (.inl Z))) (@jp _))) (@jd _ _ _ _ _ (@jY _ _ _ (@jx _ _ _ _ _ _ _ _ (za (@pv _ 7 _ _ MT (.inl Z) MO MO)) (@jg _ _ _ (@kP _ _ (11) _ _ _ _ bf.nd Z (Or.inl Z) (@ju _ _ _ _ _ _ _ _ zD (@kN _ _ _ _ _ _ _ _ _ _ _ _ Lm LC LB QO (@jl _ _ _ _) (@ja _ _ _ _ _ (@zG _ _ _ _ _ _ _ (["_law_j","_law_box_here","_law_letters"]) (1) ([0,2]) _ _ _ _ Z (@kM _ _ _ _ _ _ Z mr (@ja _ _ _ _ _ (@kA _ _ _ _ _ _ _ _ _ _ _ _ _ _ _ _ GT D Z M C x .nil bL (@ja _ _ _ _ _ (@pv _ 0 _ _ MT (by first |exact Or.inl Z |exact Or.inr (Or.inl Z) |exact Or.inr (Or.inr Z)) MO MO) (@ja _ _ _ _ _ (@jf _ _ _ _) (@jb _) MT) MT) MO MT MT) (@jb _) MT) MT) Yu (λ_ _ _ _ _=>(@jw _ _ (0) _ Yt Z (Or.inl Z) (by first |exact .inl Z |exact .inr Z))) (λ_ _ _ _ _=>(@zU _)) (λ_ _ _ _ _=>(@jv _ _ _ _ _ _ _ Kd (@pv _ 2 _ _ MT (by first |exact Or.inl Z |exact Or.inr (Or.inl Z) |exact Or.inr (Or.inr Z)) MO MO) (@kA _ _ _ _ _ _ _ _ _ _ _ _ _ _ _ _ GT D Z M C x .nil bL (@ja _ _ _ _ _ (@pv _ 1 _ _ MT (by first |exact Or.inl Z |exact Or.inr (Or.inl Z) |exact Or.inr (Or.inr Z)) MO MO) (@ja _ _ _ _ _ (@jf _ _ _ _) (@jb _) MT) MT) MO MT MT) (λ_ _=>Z))) (by intro _;rfl)) (@jb _) MT) MT MT MT MT MT) (@pv _ 10 _ _ MT (.inl Z) MO MO)) MT (.inl Z))) (@jp _))) (@jd _ _ _ _ _ (@jY _ _ _ (@jx _ _ _ _ _ _ _ _ (@jB _ _ _ _ _ _ _ _ zk (@pv _ 11 _ _ MT (.inl Z) MO MO) (@jh _ _ _ _ _ (@QP _ _ MT)) Z) (@jg _ _ _ (@kP _ _ (11) _ _ _ _ bf.nd Z (Or.inl Z) (@ju _ _ _ _ _ _ _ _ zD (@jl _ _ _ _) (@pv _ 10 _ _ MT (.inl Z) MO MO)) MT (.inl Z))) (@jp _))) (@jg _ _ _ (@jT _ _ _ _ (@kN _ _ _ _ _ _ _ _ _ _ _ _ F8 Gk Gj jR (@pv _ 8 _ _ MT (.inl Z) MO MO) (@ja _ _ _ _ _ (@pv _ 11 _ _ MT (.inl Z) MO MO) (@jb _) MT) MT MT MT MT MT) MT))))))) (by intro _;rfl)) (@jd _ _ _ _ _ (@jY _ _ _ (@jx _ _ _ _ _ _ _ _ (@jB _ _ _ _ _ _ _ _ qO (@kA _ _ _ _ _ _ _ _ _ _ _ _ _ _ _ _ GT D Z M C x .nil bL (@ja _ _ _ _ _ (@pv _ 0 _ _ MT (.inr (.inl Z)) MO MO) (@ja _ _ _ _ _ (@jf _ _ _ _) (@jb _) MT) MT) MO MT MT) (@jf _ _ _ _) (aK _)) (@jd _ _ _ _ _ (@kP _ _ (12) _ _ _ _ bf.nd Z (Or.inl Z) (@jF _ _ _ _ (@QP _ _ MT)) MT (.inl Z)) (@jd _ _ _ _ _ (@kP _ _ (13) _ _ _ _ bf.nd Z (Or.inl Z) (@jv _ _ _ _ _ _ _ jr (@pv _ 12 _ _ MT (.inl Z) MO MO) (@kA _ _ _ _ _ _ _ _ _ _ _ _ _ _ _ _ GT D Z M C x .nil bL (@ja _ _ _ _ _ (@pv _ 0 _ _ MT (.inr (.inl Z)) MO MO) (@ja _ _ _ _ _ (@jf _ _ _ _) (@jb _) MT) MT) MO MT MT) (λ_ _=>Z)) MT (.inl Z)) (@jg _ _ _ (@jx _ _ _ _ _ _ _ _ (@jB _ _ _ _ _ _ _ _ Jb (@pv _ 13 _ _ MT (.inl Z) MO MO) (@pv _ 8 _ _ MT (.inl Z) MO MO) Z) (@jg _ _ _ (@zf _ _ _ _ _ _ (@pv _ 13 _ _ MT (.inl Z) MO MO) (@qH _ _ _ _ _ _ _ (@pv _ 8 _ _ MT (.inl Z) MO MO) (@kA _ _ _ _ _ _ _ _ _ _ _ _ _ _ _ _ GT D Z M C x .nil bL (@ja _ _ _ _ _ (@pv _ 0 _ _ MT (.inr (.inl Z)) MO MO) (@ja _ _ _ _ _ (@pv _ 1 _ _ MT (.inl Z) MO MO) (@jb _) MT) MT) MO MT MT) zr (by intro _;rfl)) MT MT MT)) (@jp _))))) (@jp _))) (@jg _ _ _ (@jo _ _ _ _ (@pv _ 8 _ _ MT (.inl Z) MO MO)))))))))))),?_]
 refine eX λE0 f0=>f0 _ _ ?_
 refine eX λG a=>#[_,Z,p,6,Z,B,MO,MO,λd1 H1 b0 b1 U e1=>#[_,_,Z,Z,a _ _ ?_]]
 refine eX λE2 f2=>#[_,Z,_,Z,p,_,Z,U,MP,MP,λd2 H2 b2 b3 B2 e2=>f2 _ _ ?_]
 clear f0 a f2
 refine eX λG a=>#[_,Z,_,Z,MP,MP,?_]
 refine Jg (p:=p) MP B2 λss H3 a3 e B3 e3 g hg=>a _ _ ?_
 clear a
 have k3:au p H H3:=(au.of_eq e1).trans ((au.of_eq e2).trans (au.of_eq e3))
 have v:g≠p:=B3.ne hg
 refine eX λG a=>#[_,Z,p,26,Z,B3.upd_new hg,MO,MO,λW H4 b4 b5 B4 e4=>a _ _ ?_]
 refine eX λE2 f2=>#[_,Z,p,3,Z,B4,MO,MO,λI H5 b7 b9 B5 e5=>f2 _ _ ?_]
 clear a f2
 have h2:H5 g=some (.lst (ss.map V.str)):=by rw[e5 g v,e4 g v];exact jc
 have k5:au p H H5:=(k3.upd_new hg).trans ((au.of_eq e4).trans (au.of_eq e5))
 refine eX λG a=>#[MO,λr u=>a _ _ ?_]
 clear a
 have m:r≠p:=B5.ne u
 have h4:g≠r:=jm h2 u
 have n3:H g=none:=by
  cases z:H g with
  |none=>rfl
  |some o=>have:=k3 g o v z;rw[hg]at this;cases this
 have X:H r=none:=by
  cases z:H r with
  |none=>rfl
  |some o=>have:=k5 r o m z;rw[u]at this;cases this
 have b':=zu
 refine eX λG a=>eB λJ j=>#[_,Z,_,Z,MP,MP,j _ _ ?_]
 clear j
 refine zE (lo:=0) (NI p g r n d1 d2 W I ss H) #[none,none,none,[],Z,ao h2 u,jc,Z,#[(λ_ h=>nomatch h),(λ_ _ h=>nomatch h)],B5.upd_new u,k5.upd_new u] ?_ ?_
 ·intro E0 _ i σ H' hi fE Gq T b
  obtain⟨ok,oo,ow,ys,rfl,L,Y,h0,d,B',k'⟩:=b
  clear a
  obtain⟨c,hc⟩:=tq (z:=dj) (k:=(W+5*(0+(i:Int))) % 26) (GV _ MO) (by rw[JK];exact Gx _ MO)
  refine T ?_
  clear T
  show dO (dC _ _) _ E0 _ _
  refine eX λG a=>#[_,Z,_,Z,_,Z,_,_,Z,Z,.inl #[MO,MO],_,_,Z,Z,_,_,Z,Z,(by show(0:Int) < 26;decide),_,_,c,Z,Z,MO,hc,a _ _ ?_]
  clear a
  have c2:(#[(List.toArray [c])]:Str).length=1:=rfl
  have h5:c=oi W i:=yQ (GV _ MO) (Gx _ MO) hc
  refine eX λG a=>dB (Rw p g r n d1 d2 W I i c ss ys H 13 (·=pre ss d2++#[(List.toArray [c])]++eY ss d2)) (λE2 _ t=>?_) λO H1 b=>?_
  ·clear a fE
   refine#[Z,_,Z,_,Z,_,Z,g,_,Z,aP.of L,λs1 n1=>?_]
   have z1:=qT (ys:=bn ss none (some d2)) λy d=>e y (zM d)
   have z2:=qo ss none (some d2)
   refine#[_,s1,bn ss none (some d2),Z,Z,aP.of (by rw[jc,zw]),MO,MP,?_]
   have j1:=qU (z:="") (ys:=bn ss none (some d2)) MS λy d=>e y (zM d)
   refine#[_,Z,_,_,Z,Z,MP,?_]
   refine#[Z,_,Z,_,Z,_,_,Z,Z,_,Z,g,_,Z,aP.of (ao L n1),λs2 n2=>?_]
   have z3:=qT (ys:=bn ss (some (d2+1)) none) λy d=>e y (zM d)
   have z4:=qo ss (some (d2+1)) none
   refine#[_,s2,bn ss (some (d2+1)) none,Z,Z,aP.of (by rw[jc,zw]),MO,MP,?_]
   have j2:=qU (z:="") (ys:=bn ss (some (d2+1)) none) MS λy d=>e y (zM d)
   refine#[_,_,Z,Z,by rw[mJ];omega,?_]
   exact t _ _ #[_,#[by show(Txt.join ("":Str) (bn ss none (some d2))++(#[(List.toArray [c])]:Str)++Txt.join ("":Str) (bn ss (some (d2+1)) none)).length<=13;rw[mJ,mJ];omega,Z],Z,ao (ao L n1) n2,ao (ao Y n1) n2,(B'.upd_new n1).upd_new n2,(k'.upd_new n1).upd_new n2]
  obtain⟨w1,⟨c3,z1⟩,rfl,g1,r1,U,k1⟩:=b
  refine a _ _ ?_
  clear a
  refine eX λG a=>dB (Rw p g r n d1 d2 W I i c ss ys H 14 (λw=>w=pre ss d2++#[(List.toArray [c])]++eY ss d2∨w=pre ss d2++#[(List.toArray [c])]++eY ss d2++"z")) (λE2 _ t=>?_) λO H2 b=>?_
  ·clear a fE
   refine#[_,Z,Z,_,Z,?_]
   refine bV (λS=>?_) (λS=>?_)
   ·refine#[_,Z,_,_,Z,Z,(by show(0:Int) < 2;decide),Z,_,Z,?_]
    refine bV (λcb=>?_) (λcb=>?_)
    ·have hz:(Str.ofString "z").length=1:=by decide+kernel
     refine#[_,Z,_,_,Z,Z,by rw[hz];omega,?_]
     exact t _ _ #[_,#[by rw[mJ,hz];omega,.inr (by rw[z1])],Z,g1,r1,U,k1]
    ·exact t _ _ #[w1,#[MP,.inl z1],Z,g1,r1,U,k1]
   ·exact og (t _ _ #[w1,#[MP,.inl z1],Z,g1,r1,U,k1])
  obtain⟨w2,⟨c4,z2⟩,rfl,g2,r2,B2,k2⟩:=b
  refine a _ _ ?_
  clear a
  refine eX λG a=>dB (Rw p g r n d1 d2 W I i c ss ys H 14 (λw=>if I=2 then ∃R:Str,w=R++#[(List.toArray [c])] else w=pre ss d2++#[(List.toArray [c])]++eY ss d2∨w=pre ss d2++#[(List.toArray [c])]++eY ss d2++"z")) (λE2 _ t=>?_) λO H3 b=>?_
  ·clear a fE
   refine#[_,Z,Z,_,Z,?_]
   refine bV (λS=>?_) (λS=>?_)
   ·refine#[Z,_,Z,p,8,Z,B2,MO,MO,λd6 H6 d0 d3 B6 e6=>?_]
    refine#[_,Z,MP,MP,?_]
    refine Jg (p:=p) MP B6 λtt H7 c5 h3 B7 e7 g7 n7=>?_
    have jt:=qU (z:="") (ys:=tt) MS h3
    have zt:=qT h3
    refine#[_,g7,tt,Z,Z,aP.of jc,MO,MP,?_]
    refine#[_,Z,_,_,Z,Z,MP,?_]
    have g8:H7 g=some (.lst (ss.map V.str)):=by rw[e7 g v,e6 g v];exact g2
    have r8:H7 r=some (.lst (ys.map V.str)):=by rw[e7 r m,e6 r m];exact r2
    have e5:I=2:=by injection GN S
    exact t _ _ #[_,#[by rw[mJ];omega,(FQ e5).mpr #[_,Z]],Z,ao g8 n7,ao r8 n7,B7.upd_new n7,(k2.trans ((au.of_eq e6).trans (au.of_eq e7))).upd_new n7]
   ·have e5:I≠2:=λz=>S (by rw[z];exact Gn Z)
    exact t _ _ #[w2,#[MP,(FV e5).mpr z2],Z,g2,r2,B2,k2]
  obtain⟨w3,⟨c6,z3⟩,rfl,g3,r3,B3,k3⟩:=b
  refine a _ _ ?_
  clear a
  refine eX λG a=>dB (Rw p g r n d1 d2 W I i c ss ys H 14 (Sh (pre ss d2) (eY ss d2) I c)) (λE2 _ t=>?_) λO H4 b=>?_
  ·clear a fE
   refine#[_,Z,MO,λt0 N=>?_]
   refine#[t0,_,Z,.inr (aA.of jc),Z,ZD MT,_,Z,?_]
   refine bV (λS=>?_) (λS=>?_)
   ·have hq:(Str.ofString "qqqqqqq").length=7:=by decide+kernel
    refine#[_,Z,_,_,Z,Z,by rw[hq];omega,?_]
    exact t _ _ #[_,#[by rw[mJ,hq];omega,Ep],Z,ao g3 N,ao r3 N,B3.upd_new N,k3.upd_new N]
   ·exact t _ _ #[w3,#[MP,Er z3],Z,ao g3 N,ao r3 N,B3.upd_new N,k3.upd_new N]
  obtain⟨w4,⟨c9,z4⟩,rfl,g4,r4,B4,k4⟩:=b
  refine a _ _ ?_
  clear a
  refine#[_,Z,.inl #[Z,_,aP.of r4],_,Z,r,_,_,Z,Z,r4,by rw[Fy];omega,?_]
  refine fE _ _ #[_,_,_,ys++[w4],Z,by rw[jk h4];exact g4,by rw[jc,Gm];rfl,by rw[FD,h0];rfl,#[λy hm=>?_,λj y hj=>?_],B4.eq (jk (Gp m)),k4.upd_own X]
  ·rcases List.mem_append.mp hm with hm |hm
   ·exact d.1 y hm
   ·rw[List.mem_singleton.mp hm];omega
  ·by_cases h6:j < ys.length
   ·rw[HR h6]at hj
    exact d.2 j y hj
   ·have lj:=(List.getElem?_eq_some_iff.mp hj).1
    rw[FD,Ij]at lj
    have ej:j=ys.length:=by omega
    rw[ej,HM (Fz _),Ln]at hj
    injection hj with hj
    rw[<- hj,ej,h0,<- h5]
    exact z4
 ·intro σ H' b
  refine aZ λGq T=>?_
  obtain⟨ok,oo,ow,ys,rfl,L,Y,h0,d,B',k'⟩:=b
  refine T ?_
  clear T
  have h1:(ys.length:Int)=n:=by omega
  have f4:=uL (ss:=ss) (d1:=d1) (d2:=d2) MP MP MP
  have j1:(pre ss d2).length<=_:=qU (z:="") (ys:=bn ss none (some d2)) MS λy d=>e y (zM d)
  have j2:(eY ss d2).length<=_:=qU (z:="") (ys:=bn ss (some (d2+1)) none) MS λy d=>e y (zM d)
  have nd:=sM MP MP d.2
  have d:=d.1
  refine a _ _ ?_
  clear a
  refine aj λF1 a=>dB (Rf p r n H) (λE2 _ t=>?_) λO H1 b=>?_
  ·clear a
   refine nk λG' g'=>#[_,Z,p,6,Z,B',MO,MO,λd6 H6 d0 d3 B6 e6=>#[Z,_,Z,g' _ _ ?_]]
   clear g'
   have r6:H6 r=some (.lst (ys.map V.str)):=by rw[e6 r m];exact Y
   have k6:au p H H6:=k'.trans (au.of_eq e6)
   refine bV (λS=>?_) (λS=>?_)
   ·refine eX λE3 f3=>#[MO,λt0 N=>f3 _ _ ?_]
    clear f3
    have t1:t0≠p:=B6.ne N
    refine eX λE4 f3=>#[_,Z,_,Z,p,13,Z,B6.upd_new N,MO,MO,λd7 H7 d' a0 B7 e7=>?_]
    have t7:H7 t0=some (.lst ((["num","var","op","go","ask","back","chain","sets","iff","ends","calls","reads","gives"]:List Str).map V.str)):=((e7 t0 t1).trans jc).trans (Hf (λl=>some (HO.lst l)) MS)
    have r7:H7 r=some (.lst (ys.map V.str)):=by rw[e7 r m];exact ao r6 N
    have k7:au p H H7:=(k6.upd_new N).trans (au.of_eq e7)
    obtain⟨od,h7,h8⟩:=Ke (ys:=(["num","var","op","go","ask","back","chain","sets","iff","ends","calls","reads","gives"]:List Str)) d' (by simpa using a0)
    refine#[t0,_,_,_,Z,Z,aP.of t7,h8,f3 _ _ ?_]
    clear f3
    have h':od.length<=20:=by
     have:∀y∈(["num","var","op","go","ask","back","chain","sets","iff","ends","calls","reads","gives"]:List Str),y.length<=20:=by decide+kernel
     exact this od h7
    refine nk λG' g'=>#[_,Z,_,Z,r,_,Z,.inl (aP.of r7),Z,Qx _,_,Z,g' _ _ ?_]
    clear g'
    refine bV (λcb=>?_) (λcb=>?_)
    ·refine#[_,Z,_,Z,_,Z,_,Z,p,n,Z,B7,MP,MP,λd8 H8 a1 c' B8 e8=>?_]
     have r8:H8 r=some (.lst (ys.map V.str)):=by rw[e8 r m];exact r7
     have k8:au p H H8:=k7.trans (au.of_eq e8)
     refine#[r,_,d8,d8.toNat,Z,Z,r8,?_,?_]
     ·unfold mj
      rw[FQ a1,Fy,FQ MP]
     refine t _ _ #[Z,ys.set d8.toNat od,by rw[jc,sK],by rw[Ly];exact h1,#[λy hm=>?_,ZS nd (vm (by have c0:(!nq (.str od) (ys.map V.str))=true:=cb;rw[Bool.not_eq_true']at c0;exact c0))],B8.eq (jk (Gp m)),k8.upd_own X]
     rcases List.mem_or_eq_of_mem_set hm with hm |hm
     ·exact d y hm
     ·rw[hm];exact h'
    ·exact t _ _ #[Z,ys,r7,h1,#[d,nd],B7,k7]
   ·exact t _ _ #[Z,ys,r6,h1,#[d,nd],B6,k6]
  obtain⟨a2,y0,r1,l1,y1,U,k1⟩:=b
  refine a _ _ ?_
  exact#[_,a2,q r y0 H1 X r1 l1 y1 U k1]
def ai(H h:Hp):Prop:=∀b x,H b=some (.tup x)->h b=some (.tup x)
theorem ae.tm(a:ae H c):ai H c:=λb x h=>a b _ h
theorem je{H:Hp}{o:HO}(n:H p=none):ae H (af H p o):=λb u e=>ao e n
theorem cq{b:Bool}{A B:Prop}(h:b=true)(x:A):if b=true then A else B:=by rw[FQ h];exact x
theorem aO{b:Bool}{A B:Prop}(h:b=false)(x:B):if b=true then A else B:=by rw[h,FV FH];exact x
theorem aN:sizeLine=16777216:=by rw[LY]
theorem aq.same(B:aq H p)(s:ae H c):aq c p:=by
 refine aZ λG k=>?_
 obtain⟨a,b,d,e,f,h⟩:=B.ob
 refine k ?_
 clear k
 exact#[a,b,d,e,f,s _ _ h]
theorem au.of_same(s:ae H h):au p H h:=λb o _ e=>s _ _ e
theorem au.tm(k:au p H h)(B:aq H p):ai H h:=λb x e=>by
 refine aZ λG d=>?_
 obtain⟨a,c,_,_,_,f⟩:=B.ob
 refine d ?_
 clear d
 exact k b _ (jO e f (by intro w;cases w)) e
theorem au.none(k:au p H h)(B:aq h p)(n:h r=none):H r=none:=by
 cases z:H r with
 |none=>rfl
 |some o=>have:=k _ _ (B.ne n) z;rw[n]at this;cases this
theorem ZT{K:Frag}{a:Addr}{xs:List V}{t:TE}{Q:List V->Hp->Prop}(u:xs.length<=sizeLine)(Pv:Nat->List V->Hp->Prop)(l:Pv 0 [] H)
  (n:∀i Y h,Pv i Y h->aP K h a xs/\Y.length<=i) (o:∀i x Y h,xs[i]?=some x->Pv i Y h->t (some x::d) h λy c=>Pv (i+1) (Y++[y]) c) (q:∀Y h,Pv xs.length Y h->Q Y h):
  fb (xj K a) 1 d (bK 0) lP t Q H:=by
 refine#[λi m Y h=>m=xs.length - i/\i<=xs.length/\Pv i Y h,#[xs.length,MQ,FN _,l],?_]
 intro i m Y h f
 refine aZ λG k=>?_
 obtain⟨rfl,z,p⟩:=f
 refine k ?_
 clear k
 obtain⟨g,A⟩:=n i Y h p
 by_cases b:i < xs.length
 ·refine .inr #[#[xs,xs[i],g,Fu b],MP,Pv (i+1),λr c s=>#[xs.length - (i+1),MP,Z,b,s],λv c T j y=>?_]
  obtain⟨e,y⟩:=y
  subst e
  obtain⟨w,rfl⟩:=va j
  exact#[#[[some _],Z,Z],o i v Y c (y xs g) p]
 ·have e:i=xs.length:=by omega
  subst e
  exact .inl #[#[xs,g,Fz _],q Y h p]
theorem qw{K:Frag}{xs:List V}{t:TE}{Q:List V->Hp->Prop}(u:xs.length<=sizeLine)(Pv:Nat->List V->Hp->Prop)(l:Pv 0 [] H)
  (n:∀i Y h,Pv i Y h->aA K h a xs/\Y.length<=i) (o:∀i x Y h,xs[i]?=some x->Pv i Y h->t (some x::d) h λy c=>Pv (i+1) (Y++[y]) c) (q:∀Y h,Pv xs.length Y h->Q Y h):
  fb (uu K a) 1 d (bK 0) lP t Q H:=by
 refine#[λi m Y h=>m=xs.length - i/\i<=xs.length/\Pv i Y h,#[xs.length,MQ,FN _,l],?_]
 intro i m Y h f
 refine aZ λG k=>?_
 obtain⟨rfl,z,p⟩:=f
 refine k ?_
 clear k
 obtain⟨g,A⟩:=n i Y h p
 by_cases b:i < xs.length
 ·refine .inr #[#[xs,xs[i],g,Fu b],MP,Pv (i+1),λr c s=>#[xs.length - (i+1),MP,Z,b,s],λv c T j y=>?_]
  obtain⟨e,y⟩:=y
  subst e
  obtain⟨w,rfl⟩:=va j
  exact#[#[[some _],Z,Z],o i v Y c (y xs g) p]
 ·have e:i=xs.length:=by omega
  subst e
  exact .inl #[#[xs,g,Fz _],q Y h p]
noncomputable abbrev iU:Stmt:=bQ 59
noncomputable abbrev nH:Stmt:=bQ 61
inductive Tm where
 |num (n:Int) |var (x:Str) |op (i:Nat) (a b:Tm)
noncomputable def Tm.depth:Tm->Nat
 | .num _=>0
 | .var _=>0
 | .op _ a b=>max a.depth b.depth+1
noncomputable def i5:Str:="+-*/<="
theorem sL:i5.length=6:=by decide+kernel
noncomputable def Eo(i:Nat):Str:=#[(List.toArray [i5.cps.toList.getD i 0])]
theorem Bc(H:0<=d)(a:d < 6):dF i5.cps.toList d=some (i5.cps.toList.getD d.toNat 0):=by
 have b:i5.cps.toList.length=6:=by decide+kernel
 have h:d.toNat < i5.cps.toList.length:=by omega
 have e:d=((d.toNat:Nat):Int):=by omega
 have q:dF i5.cps.toList ((d.toNat:Nat):Int)=some (i5.cps.toList.getD d.toNat 0):=jN (by rw[Ir,Fu h];rfl)
 rw[<- e]at q
 exact q
def Tm.Good(y:List Str):Tm->Prop
 | .num n=>0<=n/\n < 1000000000000000000
 | .var x=>x∈y
 | .op i a b=>i < 6/\a.Good y/\b.Good y
def bj(H:Hp):Tm->Addr->Prop
 | .num n,p=>H p=some (.tup [.str "num",.int n])
 | .var x,p=>H p=some (.tup [.str "var",.str x])
 | .op i a b,p=>∃q r,H p=some (.tup [.str "op",.str (Eo i),.ref q,.ref r])/\bj H a q/\bj H b r
theorem bj.mono{H a:Hp}(h:∀b x,H b=some (.tup x)->a b=some (.tup x)):∀{t:Tm} {p:Addr},bj H t p->bj a t p
 | .num _,_,e=>h _ _ e
 | .var _,_,e=>h _ _ e
 | .op _ _ _,_,z=>by obtain⟨q,r,e,E,c⟩:=z;exact #[q,r,h _ _ e,bj.mono h E,bj.mono h c]
theorem bj.same(h:ae H a)(e:bj H t p):bj a t p:=e.mono λb x z=>h b _ z
theorem bj.but(B:aq H p)(k:au p H h)(e:bj H t a):bj h t a:=e.mono λb X z=>by
 refine aZ λG c=>?_
 obtain⟨x,y,_,_,_,d⟩:=B.ob
 refine c ?_
 clear c
 exact k b _ (jO z d (by intro q;cases q)) z
theorem bj.new{H:Hp}{o:HO}(n:H r=none)(e:bj H t a):bj (af H r o) t a:=e.mono λb x z=>ao z n
def ie:Sp:=λv H Q _=>∃p:Addr,v=[.ref p]/\aq H p/\∀(d:Int) (h:Hp),0<=d->d < 1000000000000000000->aq h p->(∀b,b≠p->h b=H b)->Q (.int d) h
def dh(n:Nat):Sp:=λv H Q _=>∃(p g:Addr) (d:Int) (y:List Str),v=[.ref p,.ref g,.int d]/\aq H p/\H g=some (.lst (y.map V.str))/\1<=y.length/\y.length<=20/\0<=d/\d < (n:Int)/\
 ∀(r:Addr) (T:Tm) (h:Hp),bj h T r->(T.depth:Int)<=d->T.Good y->aq h p->au p H h->Q (.ref r) h
theorem qj{Y:List Str}(B:aq H p)(h:H g=some (.lst (Y.map V.str))):g≠p:=by
 refine aZ λG k=>?_
 obtain⟨x,y,_,_,_,b⟩:=B.ob
 refine k ?_
 clear k
 refine jO h b λz=>?_
 injection z with z
 match Y,z with
 |a::r,z=>injection z with c _;cases c
theorem sw:al ["_law_box_here"] ["_law_box_here"] (aa iU):=bP
theorem ZU(F:aU K "_law_number" "_law_number" iU f t)(C:Cl P w K mg base 1 G cf ["_law_box_here","_law_wide"] ba "_law_take"):ah P w K mg base aE 2 f t ["_law_box_here"] ie:=by
 refine F.ok sw (λv H Q E h=>?_) (λu A o s H v Q E a h=>?_)
 ·obtain⟨p,rfl,_⟩:=h
  rfl
 refine aZ λI l=>?_
 obtain⟨p,rfl,B,q⟩:=h
 refine l ?_
 clear l
 refine#[_,(jd (jx (za (C.e a (ja (pv 0) (ja jf jb)))) (jg (jo (C.e a (ja (pv 0) (ja (ju Jl jf jf) jb))))) jp) (jg (jo (C.e a (ja (pv 0) (ja jf jb)))))),?_]
 refine#[_,Z,p,4,Z,B,MO,MO,λJ L x y m r=>#[Z,_,Z,?_]]
 refine bV (λc=>?_) (λc=>?_)
 ·refine#[_,Z,_,_,Z,Z,#[MO,MO,MO],p,_,Z,m,MO,MO,λD g d i j k=>?_]
  have z:=nY
  exact q D g d MP j λb n=>(k b n).trans (r b n)
 ·refine#[_,Z,p,9,Z,m,MO,MO,λD g d i j k=>?_]
  exact q D g d MP j λb n=>(k b n).trans (r b n)
theorem mH:al ["_law_box_here","_law_names_here","_law_deep","_law_kind","_law_one"] ["_law_box_here","_law_names_here","_law_deep"] (aa nH):=bP
theorem vK(F:aU K "_law_term" "_law_term" nH f fd)(cF:Cl P w K mg base (n+2) f fd ["_law_box_here","_law_names_here","_law_deep"] (dh n) "_law_term")(S:Cl P w K mg base 1 fT cf ["_law_box_here","_law_wide"] ba "_law_take")(cN:Cl P w K mg base 2 fN f0 ["_law_box_here"] ie "_law_number")(ml:mg "len"=none):ah P w K mg base aE (n+3) f fd ["_law_box_here","_law_names_here","_law_deep"] (dh (n+1)):=by
 refine F.ok mH ?_ λc0 A T s H vs Q E u h=>?_
 ·rintro _ _ _ _ ⟨p,g,d,ys,rfl,_⟩
  rfl
 refine aZ λGq kq=>?_
 obtain⟨p,g,d,ys,rfl,B,hg,v,x,h1,h2,q⟩:=h
 refine kq ?_
 clear kq
 refine#[_,(jd (jA 3 mH.nd (S.e u.m (ja (pv 0) (ja jf jb)))) (jd (jY (jx (PW.pt (Qa (jB Qb (pv 3) jf (aK _)) (Jk (PW.pt (zS (jB Jz (pv 3) jf (aK _)) (zF (za (pv 2)))))))) (jg (jo (jh (ja jl (ja (cN.e u.m (ja (pv 0) jb)) jb))))) jp)) (jd (jx (jB Qb (pv 3) jf (aK _)) (jg (jo (jh (ja jl (ja (jv jr (pv 1) (S.e u.m (ja (pv 0) (ja (jP jK Z ml Hi (ja (pv 1) jb)) jb))) (λ_ _=>Z)) jb))))) jp) (jd (jA 4 mH.nd (cF.e u (ja (pv 0) (ja (pv 1) (ja (ju kL (pv 2) jf) jb))))) (jg (jo (jh (ja jl (ja (jv Kd jl (S.e u.m (ja (pv 0) (ja jf jb))) (λ_ _=>Z)) (ja (pv 4) (ja (cF.e u (ja (pv 0) (ja (pv 1) (ja (ju kL (pv 2) jf) jb)))) jb))))))))))),?_]
 have b0:=zu
 have j:g≠p:=qj B hg
 refine aj λF1 l=>#[_,Z,p,6,Z,B,MO,MO,λM O k0 k1 R e1=>l _ _ ?_]
 clear l
 have k:O g=some (.lst (ys.map V.str)):=by rw[e1 g j];exact hg
 have U:au p H O:=au.of_eq e1
 have num:∀(D:Int) (a:Hp) (r:Addr),0<=D->D < 1000000000000000000->aq a p->(∀b,b≠p->a b=O b)->a r=none->Q (.ref r) (af a r (.tup [.str "num",.int D])):=λD a r C I i o N=>
  q r (.num D) _ jc (by show((0:Nat):Int)<=d;omega) #[C,I] (i.upd_new N) ((U.trans (au.of_eq o)).upd_new N)
 refine aj λF1 l=>dB (λJ H'=>J=[some (.ref p),some (.ref g),some (.int d),some (.int M),none]/\H'=O/\(M<=3∨d≠0)) (λE2 eR fm=>?_) λJ H' W=>?_
 ·clear l
  refine nk λG' G=>#[_,Z,_,_,Z,Z,_,Z,?_]
  refine bV (λc=>?_) (λc=>?_)
  ·refine G _ _ (oh ?_)
   show eF _ E2 _ _
   unfold eF
   rw[eR]
   exact#[_,Z,p,Z,R,λD a C I i o=>#[bX,λr N=>num D a r C I i o N]]
  refine#[_,Z,_,_,Z,Z,_,Z,?_]
  refine bV (λc2=>?_) (λc2=>?_)
  ·refine#[_,Z,Z,_,Z,G _ _ ?_]
   refine bV (λc3=>?_) (λc3=>?_)
   ·show eF _ E2 _ _
    unfold eF
    rw[eR]
    exact#[_,Z,p,Z,R,λD a C I i o=>#[bX,λr N=>num D a r C I i o N]]
   ·exact fm _ _ #[Z,Z,.inr λz=>c3 (by rw[z];rfl)]
  ·have c1:¬(3:Int) < M:=I8 (Bool.eq_false_iff.mpr c2)
   exact G _ _ (og (fm _ _ #[Z,Z,.inl MP]))
 obtain⟨rfl,eH,hk⟩:=W
 rw[eH]
 refine l _ _ ?_
 clear l
 refine aj λF1 l=>nk λG' G=>#[_,Z,_,_,Z,Z,_,Z,G _ _ ?_]
 clear G
 refine bV (λc=>?_) (λc=>l _ _ ?_)
 ·-- a variable
  refine#[_,Z,_,Z,_,Z,g,_,Z,.inl (aP.of k),p,_,Z,R,by rw[Fy];omega,by rw[Fy];omega,λD a X L i o=>?_]
  rw[Fy]at L
  obtain⟨y,hy,Y⟩:=Ke (ys:=ys) X L
  have t:a g=some (.lst (ys.map V.str)):=by rw[o g j];exact k
  refine#[g,_,_,_,Z,Z,aP.of t,Y,bX,λr N=>?_]
  exact q r (.var y) _ jc (by show((0:Nat):Int)<=d;omega) hy (i.upd_new N) ((U.trans (au.of_eq o)).upd_new N)
 ·have c':¬M < (4:Int):=I8 (Bool.eq_false_iff.mpr c)
  have hd:d≠0:=hk.resolve_left MP
  refine#[_,Z,_,Z,_,Z,_,_,Z,Z,p,g,d - 1,ys,Z,R,k,v,x,MP,MP,λr1 T1 a t1 d3 g0 i k2=>?_]
  have t:a g=some (.lst (ys.map V.str)):=k2 g _ j k
  refine#[_,Z,p,6,Z,i,MO,MO,λs3 H3 s0 s1 B3 e3=>?_]
  have h0:H3 g=some (.lst (ys.map V.str)):=by rw[e3 g j];exact t
  have k3:au p a H3:=au.of_eq e3
  refine#[i5,_,_,Z,Z,(by rw[sL];omega),Bc s0 s1,?_]
  refine#[_,Z,_,Z,_,Z,_,Z,_,_,Z,Z,p,g,d - 1,ys,Z,B3,h0,v,x,MP,MP,λr2 T2 H4 t2 d4 g1 B4 k4=>?_]
  refine#[tE,λr N=>?_]
  have t0:bj H4 T1 r1:=(t1.but i k3).but B3 k4
  refine q r (.op s3.toNat T1 T2) _ #[r1,r2,jc,t0.new N,t2.new N] ?_ #[MP,g0,g1] (B4.upd_new N) (((U.trans k2).trans (k3.trans k4)).upd_new N)
  show((max T1.depth T2.depth+1:Nat):Int)<=d
  omega
theorem vk:ah P w K mg base aE 2 f e ["_law_box_here","_law_names_here","_law_deep"] (dh 0):=by
 have n:∀v H Q E,¬dh 0 v H Q E:=λv H Q E h=>by
  refine aZ λG k=>?_
  obtain⟨p,g,d,y,_,_,_,_,_,i,b,_⟩:=h
  refine k ?_
  clear k
  have c:d < ((0:Nat):Int):=b
  omega
 exact#[λv H Q E h=>absurd h (n v H Q E),λA o s H a u v Q E _ _ _ _ h=>absurd h (n v H Q E)]
theorem x6{cf:FuncData}(F:aU K "_law_term" "_law_term" nH f a)(b:ay K a ["_law_box_here","_law_names_here","_law_deep"] [])(m:mg "_law_term"=some (.ref f))(c:Cl P w K mg base 1 e cf ["_law_box_here","_law_wide"] ba "_law_take")(C:Cl P w K mg base 2 g d ["_law_box_here"] ie "_law_number")(M:mg "len"=none):
  ∀n:Nat,ah P w K mg base aE (n+2) f a ["_law_box_here","_law_names_here","_law_deep"] (dh n)
 |0=>vk
 |n+1=>vK F #[(x6 F b m c C M n),b,F.kp,m] c C M
end K30
namespace K30
open PySem PySem.Spec PyProof.Rows L2
variable {P:Program}{w:World}{K:Frag}{mg:Str->Option Value}{base:Heap}
noncomputable def Tm.vars:Tm->List Str
 | .num _=>[]
 | .var x=>[x]
 | .op _ a b=>a.vars++b.vars
theorem kj:∀{t:Tm},t.Good y->∀x∈t.vars,x∈y
 | .num _,_,_,h=>nomatch h
 | .var _,g,_,h=>by rw[List.mem_singleton.mp h];exact g
 | .op _ _ _,g,_,h=>(List.mem_append.mp h).elim (kj g.2.1 _) (kj g.2.2 _)
theorem j4:∀{l m:List Str},l.Nodup->(∀x∈l,x∈m)->l.length<=m.length
 | [],_,_,_=>FN _
 |x::l,m,n,h=>by
  rw[List.nodup_cons]at n
  have H:=h x FX
  have q:=j4 (l:=l) (m:=m.erase x) n.2 λy a=>(List.mem_erase_of_ne (λe=>n.1 (by rw[<- e];exact a))).mpr (h y (Ge _ a))
  rw[List.length_erase_of_mem H]at q
  have:0 < m.length:=List.length_pos_of_mem H
  rw[Gi]
  omega
theorem KF:∀{l m:List Str},l.Nodup->m.Nodup->(∀x,x∈l↔x∈m)->l.Perm m
 | [],[],_,_,_=>.nil
 | [],y::m,_,_,h=>absurd ((h y).mpr FX) MQ
 |x::l,m,n,N,h=>by
  rw[List.nodup_cons]at n
  have a:x∈m:=(h x).mp FX
  refine(List.Perm.cons x (KF n.2 (N.erase x) λy=>?_)).trans (List.perm_cons_erase a).symm
  rw[N.mem_erase_iff]
  constructor
  ·intro H
   exact#[λe=>n.1 (by rw[<- e];exact H),(h y).mp (Ge _ H)]
  ·rintro ⟨b,H⟩
   exact(List.mem_cons.mp ((h y).mpr H)).resolve_left b
theorem Qy:∀{p:Str} {l:List Str},risingS p l=true->(p::l).Pairwise λa b=>a.cps.toList<=b.cps.toList
 |p,[],_=>by simp
 |p,x::r,h=>by
  have H:(!ltCps x.cps.toList p.cps.toList&&risingS x r)=true:=h
  rw[GL]at H
  have i:=Qy H.2
  have c:p.cps.toList<=x.cps.toList:=by
   have z:=H.1
   rw[ltCps_eq]at z
   simpa using z
  rw[List.pairwise_cons]at i ⊢
  refine#[λy hy=>?_,List.pairwise_cons.mpr i]
  rcases List.mem_cons.mp hy with rfl |hy
  ·exact c
  ·exact List.le_trans c (i.1 y hy)
theorem Qz(h:sortedS l=true):l.Pairwise λa b=>a.cps.toList<=b.cps.toList:=by
 cases l with
 |nil=>exact .nil
 |cons x r=>exact Qy h
theorem XN{l:List Str}(p:l.Perm m)(h:sortedS l=true)(H:sortedS m=true):l=m:=by
 refine List.Perm.eq_of_pairwise (λa b _ _ x y=>?_) (Qz h) (Qz H) p
 have e:=List.le_antisymm x y
 cases a
 cases b
 exact Hf Str.mk (Array.toList_inj.mp e)
inductive Lf where
 |rd (x:Str) (t:Addr) (T:Tm)
 |st (x:Str) (t:Addr) (T:Tm)
 |wr (t u:Addr) (T U:Tm)
 |cl (x f:Str) (q:Addr) (ts:List (Addr×Tm))
 |gv (t:Addr) (T:Tm)
def uy(H:Hp):Lf->List V->Prop
 | .rd x t T,v=>v=[.str "read",.str x,.ref t]/\bj H T t
 | .st x t T,v=>v=[.str "set",.str x,.ref t]/\bj H T t
 | .wr t u T U,v=>v=[.str "write",.ref t,.ref u]/\bj H T t/\bj H U u
 | .cl x f q a,v=>v=[.str "call",.str x,.str f,.ref q]/\H q=some (.tup (a.map λc=>V.ref c.1))/\∀c∈a,bj H c.2 c.1
 | .gv t T,v=>v=[.str "give",.ref t]/\bj H T t
theorem uy.mono(k:ai H a)(h:uy H l v):uy a l v:=by
 cases l with
 |rd x t T |st x t T |gv t T=>exact#[h.1,h.2.mono k]
 |wr t u T U=>exact#[h.1,h.2.1.mono k,h.2.2.mono k]
 |cl x f q d=>exact#[h.1,k _ _ h.2.1,λc b=>(h.2.2 c b).mono k]
inductive Bd where
 |nil
 |lf (p:Addr) (l:Lf) (r:Bd)
 |ite (p t:Addr) (T:Tm) (a b r:Bd)
 |loop (p t:Addr) (T:Tm) (a r:Bd)
noncomputable def Bd.app:Bd->Bd->Bd
 | .nil,s=>s
 | .lf p l r,s=>.lf p l (r.app s)
 | .ite p t T a b r,s=>.ite p t T a b (r.app s)
 | .loop p t T a r,s=>.loop p t T a (r.app s)
noncomputable def Bd.size:Bd->Nat
 | .nil=>0
 | .lf _ _ r=>r.size+1
 | .ite _ _ _ a b r=>a.size+b.size+r.size+1
 | .loop _ _ _ a r=>a.size+r.size+1
noncomputable def Bd.dep:Bd->Nat
 | .nil=>0
 | .lf _ _ r=>r.dep
 | .ite _ _ _ a b r=>max (max a.dep b.dep+1) r.dep
 | .loop _ _ _ a r=>max (a.dep+1) r.dep
def di(y:List Str)(T:Tm):Prop:=T.Good y/\T.depth < 6
def Lf.Ok(y:List Str):Lf->Prop
 | .rd x _ T=>x∈y/\di y T
 | .st x _ T=>x∈y/\di y T
 | .wr _ _ T U=>di y T/\di y U
 | .cl x _ _ t=>x∈y/\t.length<=6/\∀c∈t,di y c.2
 | .gv _ T=>di y T
def Bd.Ok(y:List Str):Bd->Prop
 | .nil=>True
 | .lf _ l r=>l.Ok y/\r.Ok y
 | .ite _ _ T a b r=>di y T/\a.Ok y/\b.Ok y/\r.Ok y
 | .loop _ _ T a r=>di y T/\a.Ok y/\r.Ok y
abbrev gU:=List (Str×Nat)
def Lf.Cs(F:gU):Lf->Prop
 | .cl _ f _ t=>(f,t.length)∈F
 |_=>True
def Bd.Cs(F:gU):Bd->Prop
 | .nil=>True
 | .lf _ l r=>l.Cs F/\r.Cs F
 | .ite _ _ _ a b r=>a.Cs F/\b.Cs F/\r.Cs F
 | .loop _ _ _ a r=>a.Cs F/\r.Cs F
theorem Kf{F:gU}:∀{a b:Bd},a.Cs F->b.Cs F->(a.app b).Cs F
 | .nil,_,_,h=>h
 | .lf _ _ _,_,h,k=>#[h.1,Kf h.2 k]
 | .ite _ _ _ _ _ _,_,h,k=>#[h.1,h.2.1,Kf h.2.2 k]
 | .loop _ _ _ _ _,_,h,k=>#[h.1,Kf h.2 k]
theorem km{F:gU}(k:∀f∈F,f∈G):∀{a:Bd},a.Cs F->a.Cs G
 | .nil,_=>trivial
 | .lf _ l _,h=>#[by cases l<;>first |exact k _ h.1 |trivial,km k h.2]
 | .ite _ _ _ _ _ _,h=>#[km k h.1,km k h.2.1,km k h.2.2]
 | .loop _ _ _ _ _,h=>#[km k h.1,km k h.2]
noncomputable def Lf.calls:Lf->gU
 | .cl _ f _ t=>[(f,t.length)]
 |_=>[]
noncomputable def Bd.calls:Bd->gU
 | .nil=>[]
 | .lf _ l r=>l.calls++r.calls
 | .ite _ _ _ a b r=>a.calls++(b.calls++r.calls)
 | .loop _ _ _ a r=>a.calls++r.calls
theorem zA:∀b:Bd,b.Cs b.calls
 | .nil=>trivial
 | .lf _ l r=>#[by cases l<;>first |exact List.mem_append_left _ List.mem_cons_self |trivial,km (λ_ h=>List.mem_append_right _ h) (zA r)]
 | .ite _ _ _ a b r=>#[km (λ_ h=>List.mem_append_left _ h) (zA a),km (λ_ h=>List.mem_append_right _ (List.mem_append_left _ h)) (zA b),km (λ_ h=>List.mem_append_right _ (List.mem_append_right _ h)) (zA r)]
 | .loop _ _ _ a r=>#[km (λ_ h=>List.mem_append_left _ h) (zA a),km (λ_ h=>List.mem_append_right _ h) (zA r)]
theorem zB{F:gU}:∀{b:Bd},b.Cs F->∀f∈b.calls,f∈F
 | .nil,_,_,h=>nomatch h
 | .lf _ l r,k,f,h=>(List.mem_append.mp h).elim (λh=>by cases l<;>first | (rw[List.mem_singleton.mp h];exact k.1) |exact nomatch h) (zB k.2 f)
 | .ite _ _ _ a b r,k,f,h=>(List.mem_append.mp h).elim (zB k.1 f) λh=>(List.mem_append.mp h).elim (zB k.2.1 f) (zB k.2.2 f)
 | .loop _ _ _ a r,k,f,h=>(List.mem_append.mp h).elim (zB k.1 f) (zB k.2 f)
theorem jV:∀(a b:Bd),(a.app b).size=a.size+b.size
 | .nil,b=>by show b.size=0+b.size;omega
 | .lf _ _ r,b=>by have:=jV r b;show(r.app b).size+1=r.size+1+b.size;omega
 | .ite _ _ _ x y r,b=>by have:=jV r b;show x.size+y.size+(r.app b).size+1=x.size+y.size+r.size+1+b.size;omega
 | .loop _ _ _ x r,b=>by have:=jV r b;show x.size+(r.app b).size+1=x.size+r.size+1+b.size;omega
theorem zi:∀(a b:Bd),(a.app b).dep=max a.dep b.dep
 | .nil,b=>(Nat.zero_max b.dep).symm
 | .lf _ _ r,b=>zi r b
 | .ite _ _ _ x y r,b=>by show max _ (r.app b).dep=max (max _ r.dep) b.dep;rw[zi r b,Nat.max_assoc]
 | .loop _ _ _ x r,b=>by show max _ (r.app b).dep=max (max _ r.dep) b.dep;rw[zi r b,Nat.max_assoc]
theorem Kg:∀{a b:Bd},a.Ok y->b.Ok y->(a.app b).Ok y
 | .nil,_,_,h=>h
 | .lf _ _ _,_,g,h=>#[g.1,Kg g.2 h]
 | .ite _ _ _ _ _ _,_,g,h=>#[g.1,g.2.1,g.2.2.1,Kg g.2.2.2 h]
 | .loop _ _ _ _ _,_,g,h=>#[g.1,g.2.1,Kg g.2.2 h]
def dw(H:Hp):Bd->List V->Prop
 | .nil,x=>x=[]
 | .lf p l r,x=>∃v y,x= .ref p::y/\H p=some (.tup v)/\uy H l v/\dw H r y
 | .ite p t T a b r,x=>∃q Q A B y,x= .ref p::y/\H p=some (.tup [.str "if",.ref t,.ref q,.ref Q])/\bj H T t/\H q=some (.tup A)/\H Q=some (.tup B)/\dw H a A/\dw H b B/\dw H r y
 | .loop p t T a r,x=>∃q A y,x= .ref p::y/\H p=some (.tup [.str "while",.ref t,.ref q])/\bj H T t/\H q=some (.tup A)/\dw H a A/\dw H r y
theorem dw.mono(k:ai H m):∀{x:List V},dw H a x->dw m a x:=by
 induction a with
 |nil=>exactλh=>h
 |lf p l r n=>rintro x ⟨v,y,e,c,d,f⟩;exact#[v,y,e,k _ _ c,d.mono k,n f]
 |ite p t T a b r i o I=>rintro x ⟨q,Q,A,B,y,e,c,g,d,f,j,s,u⟩;exact#[q,Q,A,B,y,e,k _ _ c,g.mono k,k _ _ d,k _ _ f,i j,o s,I u]
 |loop p t T a r i I=>rintro x ⟨q,A,y,e,c,g,d,f,j⟩;exact#[q,A,y,e,k _ _ c,g.mono k,k _ _ d,i f,I j]
theorem dw.app(k:dw H b y):∀{x:List V},dw H a x->dw H (a.app b) (x++y):=by
 induction a with
 |nil=>intro x h;have e:x=[]:=h;rw[e];exact k
 |lf p l r I=>rintro x ⟨v,z,e,c,d,f⟩;exact#[v,z++y,by rw[e];rfl,c,d,I f]
 |ite p t T a b r _ _ i=>rintro x ⟨q,Q,A,B,z,e,c,g,d,f,j,m,n⟩;exact#[q,Q,A,B,z++y,by rw[e];rfl,c,g,d,f,j,m,i n]
 |loop p t T a r _ i=>rintro x ⟨q,A,z,e,c,g,d,f,j⟩;exact#[q,A,z++y,by rw[e];rfl,c,g,d,f,i j]
theorem dw.len:∀{x:List V},dw H a x->x.length<=a.size:=by
 induction a with
 |nil=>intro x h;have e:x=[]:=h;rw[e];exact Fz 0
 |lf p l r I=>rintro x ⟨v,y,e,d,f,c⟩;rw[e];exact Ho (I c)
 |ite p t T a b r _ _ i=>rintro x ⟨q,Q,A,B,y,e,d,j,f,c,g,m,k⟩;rw[e];exact Ho (FL (i k) (Nat.le_add_left _ _))
 |loop p t T a r _ i=>rintro x ⟨q,A,y,e,d,j,f,c,g⟩;rw[e];exact Ho (FL (i g) (Nat.le_add_left _ _))
inductive gJ(H:Hp):V->Bd->Prop
 |lf (p:Addr) (l:Lf) (vs:List V) (h1:H p=some (.tup vs)) (h2:uy H l vs):gJ H (.ref p) (.lf p l .nil)
 |ite (p t:Addr) (T:Tm) (a b:Bd) (qa qb:Addr) (as bs:List V) (h1:H p=some (.tup [.str "if",.ref t,.ref qa,.ref qb])) (h0:bj H T t) (h2:H qa=some (.tup as)) (h3:H qb=some (.tup bs)) (h4:dw H a as) (h5:dw H b bs):gJ H (.ref p) (.ite p t T a b .nil)
 |loop (p t:Addr) (T:Tm) (a:Bd) (qa:Addr) (as:List V) (h1:H p=some (.tup [.str "while",.ref t,.ref qa])) (h0:bj H T t) (h2:H qa=some (.tup as)) (h3:dw H a as):gJ H (.ref p) (.loop p t T a .nil)
theorem gJ.bd(h:gJ H v s):dw H s [v]:=by
 cases h with
 |lf p l V c d=>exact#[V,[],Z,c,d,Z]
 |ite p t T a b q Q A B c e d f g i=>exact#[q,Q,A,B,[],Z,c,e,d,f,g,i,Z]
 |loop p t T a q A c e d f=>exact#[q,A,[],Z,c,e,d,f,Z]
theorem gJ.mono(k:ai H g)(h:gJ H v s):gJ g v s:=by
 cases h with
 |lf p l V c d=>exact .lf p l V (k _ _ c) (d.mono k)
 |ite p t T a b q Q A B c e d f i j=>exact .ite p t T a b q Q A B (k _ _ c) (e.mono k) (k _ _ d) (k _ _ f) (i.mono k) (j.mono k)
 |loop p t T a q A c e d f=>exact .loop p t T a q A (k _ _ c) (e.mono k) (k _ _ d) (f.mono k)
theorem dw.last:∀{x:List V},dw H a x->x=[]/\a= .nil∨∃z v b s,x=z++[v]/\a=b.app s/\dw H b z/\gJ H v s:=by
 induction a with
 |nil=>exactλh=>.inl #[h,Z]
 |lf p l r i=>
  rintro x ⟨u,y,e,f,g,n⟩
  rcases i n with ⟨E,d⟩ | ⟨z,v,b,s,E,d,j,k⟩
  ·exact .inr #[[],.ref p,.nil,.lf p l .nil,by rw[e,E];rfl,by rw[d];rfl,Z,.lf p l u f g]
  ·exact .inr #[.ref p::z,v,.lf p l b,s,by rw[e,E];rfl,by rw[d];rfl,#[u,z,Z,f,g,j],k]
 |ite p t T a b r _ _ i=>
  rintro x ⟨q,Q,A,B,y,e,f,m,g,n,G,C,o⟩
  rcases i o with ⟨E,d⟩ | ⟨z,v,c,s,E,d,j,k⟩
  ·exact .inr #[[],.ref p,.nil,.ite p t T a b .nil,by rw[e,E];rfl,by rw[d];rfl,Z,.ite p t T a b q Q A B f m g n G C]
  ·exact .inr #[.ref p::z,v,.ite p t T a b c,s,by rw[e,E];rfl,by rw[d];rfl,#[q,Q,A,B,z,Z,f,m,g,n,G,C,j],k]
 |loop p t T a r _ i=>
  rintro x ⟨q,A,y,e,f,m,g,G,o⟩
  rcases i o with ⟨E,d⟩ | ⟨z,v,c,s,E,d,j,k⟩
  ·exact .inr #[[],.ref p,.nil,.loop p t T a .nil,by rw[e,E];rfl,by rw[d];rfl,Z,.loop p t T a q A f m g G]
  ·exact .inr #[.ref p::z,v,.loop p t T a c,s,by rw[e,E];rfl,by rw[d];rfl,#[q,A,z,Z,f,m,g,G,j],k]
theorem zJ:∀{a b:Bd},(a.app b).Ok y->a.Ok y/\b.Ok y
 | .nil,_,h=>#[Gg,h]
 | .lf _ _ _,_,h=>#[#[h.1,(zJ h.2).1],(zJ h.2).2]
 | .ite _ _ _ _ _ _,_,h=>#[#[h.1,h.2.1,h.2.2.1,(zJ h.2.2.2).1],(zJ h.2.2.2).2]
 | .loop _ _ _ _ _,_,h=>#[#[h.1,h.2.1,(zJ h.2.2).1],(zJ h.2.2).2]
structure Nm(ss:List Str)(M:Str->Prop):Prop where
 nd:ss.Nodup
 so:sortedS ss=true
 mem:∀x,x∈ss↔M x
theorem Nm.uniq(h:Nm a M)(g:Nm s M):a=s:=XN (KF h.nd g.nd λx=>(h.mem x).trans (g.mem x).symm) h.so g.so
open Classical in
noncomputable def canon(M:Str->Prop):List Str:=if h:∃s,Nm s M then Classical.choose h else []
theorem Nm.canon(h:Nm s M):s=canon M:=by
 have e:∃s,Nm s M:=#[s,h]
 unfold K30.canon
 rw[dif_pos e]
 exact h.uniq (Classical.choose_spec e)
theorem Nm.len{s y:List Str}{M:Str->Prop}(h:Nm s M)(H:∀x,M x->x∈y):s.length<=y.length:=j4 h.nd λx a=>H x ((h.mem x).mp a)
def Lf.use(M:Str->Prop):Lf->Str->Prop
 | .rd x _ T,y=>(M y/\y≠x)∨y∈T.vars
 | .st x _ T,y=>(M y/\y≠x)∨y∈T.vars
 | .wr _ _ T U,y=>M y∨y∈T.vars∨y∈U.vars
 | .cl x _ _ t,y=>(M y/\y≠x)∨∃c∈t,y∈c.2.vars
 | .gv _ T,y=>y∈T.vars
def Bd.use:Bd->(Str->Prop)->Str->Prop
 | .nil,M=>M
 | .lf _ l r,M=>l.use (r.use M)
 | .ite _ _ T a b r,M=>λy=>(a.use (r.use M) y∨b.use (r.use M) y)∨y∈T.vars
 | .loop _ _ T a r,M=>λy=>(a.use (λ_=>False) y∨r.use M y)∨y∈T.vars
theorem JT:∀(a b:Bd) (M:Str->Prop),(a.app b).use M=a.use (b.use M)
 | .nil,_,_=>rfl
 | .lf _ l r,b,M=>by show l.use ((r.app b).use M)=l.use (r.use (b.use M));rw[JT r b M]
 | .ite _ _ T x y r,b,M=>by show(λz=>(x.use ((r.app b).use M) z∨y.use ((r.app b).use M) z)∨z∈T.vars)=λz=>(x.use (r.use (b.use M)) z∨y.use (r.use (b.use M)) z)∨z∈T.vars;rw[JT r b M]
 | .loop _ _ T x r,b,M=>by show(λz=>(x.use (λ_=>False) z∨(r.app b).use M z)∨z∈T.vars)=λz=>(x.use (λ_=>False) z∨r.use (b.use M) z)∨z∈T.vars;rw[JT r b M]
theorem Lf.use_in{M:Str->Prop}{l:Lf}(h:l.Ok Y)(a:∀x,M x->x∈Y):∀y,l.use M y->y∈Y:=by
 intro y H
 cases l with
 |rd x t T |st x t T=>exact H.elim (λz=>a y z.1) (kj h.2.1 y)
 |wr t u T U=>exact H.elim (a y) λz=>z.elim (kj h.1.1 y) (kj h.2.1 y)
 |cl x f q d=>exact H.elim (λz=>a y z.1) λ#[c,b,z]=>kj (h.2.2 c b).1 y z
 |gv t T=>exact kj h.1 y H
theorem Bd.use_in:∀{b:Bd} {M:Str->Prop},b.Ok Y->(∀x,M x->x∈Y)->∀y,b.use M y->y∈Y
 | .nil,_,_,H,y,c=>H y c
 | .lf _ l r,_,h,H,y,c=>Lf.use_in h.1 (Bd.use_in h.2 H) y c
 | .ite _ _ T a b r,_,h,H,y,c=>c.elim (λz=>z.elim (Bd.use_in h.2.1 (Bd.use_in h.2.2.2 H) y) (Bd.use_in h.2.2.1 (Bd.use_in h.2.2.2 H) y)) (kj h.1.1 y)
 | .loop _ _ T a r,_,h,H,y,c=>c.elim (λz=>z.elim (Bd.use_in h.2.1 (λ_ w=>w.elim) y) (Bd.use_in h.2.2 H y)) (kj h.1.1 y)
end K30
namespace K30
open PySem PySem.Spec PyProof.Rows L2
variable {P:Program}{w:World}{K:Frag}{mg:Str->Option Value}{base:Heap}
noncomputable abbrev dX:Stmt:=bQ 14
noncomputable abbrev A0:Stmt:=bQ 38
noncomputable abbrev sh:Stmt:=bQ 39
noncomputable abbrev ww:Stmt:=bQ 40
noncomputable abbrev wu:Stmt:=bQ 41
def du(n:Nat):Sp:=λv H Q _=>∃(a:Addr) (T:Tm) (y:List Str),v=[.ref a]/\bj H T a/\T.depth < n/\T.Good y/\y.length<=21/\
 ∀(r:Addr) (s:List Str) (h:Hp),H r=none->h r=some (.lst (s.map V.str))->s.Nodup->(∀x,x∈s↔x∈T.vars)->sortedS s=true->ae H h->Q (.ref r) h
theorem su:al ["term"] ["term"] (aa dX):=bP
theorem vE{f:Addr}{o:FuncData}(F:aU K "names_in" "names_in" dX f o){n:Nat}(C:Cl P w K mg base (n+1) f o ["term"] (du n) "names_in")(M:mg "set"=none)(p:mg "sorted"=none):ah P w K mg base aE (n+2) f o ["term"] (du (n+1)):=by
 refine F.ok su (λvs H Q E h=>?_) (λc0 A O s H vs Q E v h=>?_)
 ·obtain⟨a,T,Y,rfl,_⟩:=h
  rfl
 obtain⟨a,T,Y,rfl,t,dp,g,j,q⟩:=h
 refine#[_,(jd (jx (jZ (jy (pv 0))) (jg (jo (jF jb))) jp) (jd (jx (jZ (jy (pv 0))) (jg (jo (jF (ja (jy (pv 0)) jb)))) jp) (jg (jo (jP (qd Z) Z p boot_sorted (ja (jE (qN Z) Z M boot_set (ja (ju qi (C.e v (ja (jy (pv 0)) jb)) (C.e v (ja (jy (pv 0)) jb))) jb)) jb)))))),?_]
 cases T with
 |num m=>
  have b:H a=some (.tup [.str "num",.int m]):=t
  refine(jq b Z #[Z,_,Z,cq MS ?_])
  exact#[MO,λr N=>q r [] _ N jc LJ (λx=>Mr) Z (je N)]
 |var x=>
  have b:H a=some (.tup [.str "var",.str x]):=t
  refine(jq b Z #[Z,_,Z,aO MS ?_])
  refine(jq b Z #[Z,_,Z,cq MS ?_])
  exact(jq b Z #[lO,λr N=>q r [x] _ N jc MQ (λy=>Mr) Z (je N)])
 |op i B D=>
  obtain⟨p1,p2,b,h1,h2⟩:=t
  have d0:max B.depth D.depth+1 < n+1:=dp
  refine(jq b Z #[Z,_,Z,aO MS ?_])
  refine(jq b Z #[Z,_,Z,aO MS ?_])
  refine(jq b Z #[p1,B,Y,Z,h1,MP,g.2.1,j,λr1 S H1 n1 e1 d1 G o1 u=>?_])
  refine(jq (u _ _ b) Z #[p2,D,Y,Z,h2.same u,MP,g.2.2,j,λr2 k H2 n2 e2 d2 I o2 J=>?_])
  have l1:S.length<=21:=FL (j4 d1 λx d=>kj g.2.1 x ((G x).mp d)) j
  have l2:k.length<=21:=FL (j4 d2 λx d=>kj g.2.2 x ((I x).mp d)) j
  have b0:=zu
  refine#[r1,r2,_,_,Z,Z,J _ _ e1,e2,(by rw[Fy,Fy];omega),λc nc=>?_]
  refine#[c,S++k,Z,aP.of (by rw[jc,Gm]),(λL nd hs=>Hq (Ho (j4 nd hs)) (by rw[FD];show S.length+k.length+1 < 4096;omega)),λl L nl dL R=>?_]
  have lL:=j4 dL λx d=>(R x).mp d
  rw[FD]at lL
  refine#[l,L,Z,jc,MP,λz ss U W dz oz=>?_]
  have X:ae H (af (af H2 c (.lst (S.map V.str++k.map V.str))) l (DF P w l L)):=(u.trans J).trans ((je nc).trans (je nl))
  refine q z ss _ (X.free U) jc (W.nodup_iff.mpr dz) (λx=>?_) oz (X.trans (je U))
  rw[W.mem_iff,R x,IC,G x,I x]
  exact List.mem_append.symm
theorem vj:ah P w K mg base aE 1 f d ["term"] (du 0):=by
 have n:∀v H Q E,¬du 0 v H Q E:=λv H Q E h=>by
  obtain⟨a,T,y,_,_,c,_⟩:=h
  exact absurd c (IY _)
 exact#[λv H Q E h=>absurd h (n v H Q E),λA o s H b u v Q E _ _ _ _ h=>absurd h (n v H Q E)]
theorem xK(F:aU K "names_in" "names_in" dX f a)(b:ay K a ["term"] [])(c:mg "names_in"=some (.ref f))(m:mg "set"=none)(M:mg "sorted"=none):
  ∀n:Nat,ah P w K mg base aE (n+1) f a ["term"] (du n)
 |0=>vj
 |n+1=>vE F #[(xK F b c m M n),b,F.kp,c] m M
noncomputable def Lf.own:Lf->List (Addr×Tm)
 | .rd _ t T=>[(t,T)]
 | .st _ t T=>[(t,T)]
 | .wr t u T U=>[(t,T),(u,U)]
 | .cl _ _ _ a=>a
 | .gv t T=>[(t,T)]
noncomputable def Bd.own:Bd->List (Addr×Tm)
 | .nil=>[]
 | .lf _ l _=>l.own
 | .ite _ t T _ _ _=>[(t,T)]
 | .loop _ t T _ _=>[(t,T)]
noncomputable def rT(c:Addr×Tm):V:=.ref c.1
def nW:Sp:=λa H Q _=>∃(v:V) (s:Bd),a=[v]/\gJ H v s/\∀(r:Addr) (h:Hp),h r=some (.tup (s.own.map rT))->ae H h->Q (.ref r) h
theorem Y1:a8 (a::b::r) (some 1) (some 2)=[b]:=by
 unfold a8
 have e:(1:Int)=((1:Nat):Int):=rfl
 have E:(2:Int)=((2:Nat):Int):=rfl
 rw[E,e,HT.sIx_nat,HT.sIx_nat,Gi,Gi]
 have c:min 1 (r.length+1+1)=1:=by omega
 have d:min 2 (r.length+1+1) - 1=1:=by omega
 rw[c,d]
 rfl
theorem xS:al ["statement","word"] ["statement"] (aa A0):=bP
theorem Ak{f:Addr}{j:FuncData}(F:aU K "own_terms" "own_terms" A0 f j):ah P w K mg base aE 1 f j ["statement"] nW:=by
 refine F.ok xS ?_ λC A o s H V Q E d h=>?_
 ·rintro _ _ _ _ ⟨v,s,rfl,_⟩
  rfl
 refine aZ λJ k=>?_
 obtain⟨v,st,rfl,m,q⟩:=h
 refine k ?_
 clear k
 refine#[_,(jd (jA 1 xS.nd (jy (pv 0))) (jd (jx (jB zk (pv 1) (jh (ja jl (ja jl jb))) Z) (jg (jo (jJ zh (pv 0) (jG jf) j7))) jp) (jd (jx (jZ (pv 1)) (jg (jo (jJ zh (pv 0) (jG jf) j7))) jp) (jd (jx (jZ (pv 1)) (jg (jo (jy (pv 0)))) jp) (jg (jo (jJ zh (pv 0) (jG jf) (jG jf)))))))),?_]
 cases m with
 |lf p l V c g=>
  cases l with
  |rd x t T |st x t T=>
   obtain⟨rfl,i⟩:=g
   refine(jq c Z #[_,Z,bX,λl n=>#[l,_,Z,.inr (aA.of jc),Z,Z,_,Z,cq MS ?_]])
   exact#[_,Z,_,Z,p,_,Z,ao c n,λr e d s=>q r e d ((je n).trans s)]
  |wr t u T U=>
   obtain⟨rfl,i,L⟩:=g
   refine(jq c Z #[_,Z,bX,λl n=>#[l,_,Z,.inr (aA.of jc),Z,Z,_,Z,aO MS ?_]])
   refine#[_,Z,Z,_,Z,cq MS ?_]
   exact#[_,Z,_,Z,p,_,Z,ao c n,λr e d s=>q r e d ((je n).trans s)]
  |cl x M y N=>
   obtain⟨rfl,z,i⟩:=g
   refine(jq c Z #[_,Z,bX,λl n=>#[l,_,Z,.inr (aA.of jc),Z,Z,_,Z,aO MS ?_]])
   refine#[_,Z,Z,_,Z,aO MS ?_]
   refine#[_,Z,Z,_,Z,cq MS ?_]
   exact(jq (ao c n) Z (q y _ (ao z n) (je n)))
  |gv t T=>
   obtain⟨rfl,i⟩:=g
   refine(jq c Z #[_,Z,bX,λl n=>#[l,_,Z,.inr (aA.of jc),Z,Z,_,Z,aO MS ?_]])
   refine#[_,Z,Z,_,Z,aO MS ?_]
   refine#[_,Z,Z,_,Z,aO MS ?_]
   exact#[_,Z,_,Z,_,Z,p,_,Z,ao c n,λr e d s=>q r e (by rw[Y1]at d;exact d) ((je n).trans s)]
 |ite p t T a b B O D R c G g I S W |loop p t T a B D c G g I=>
  refine(jq c Z #[_,Z,bX,λl n=>#[l,_,Z,.inr (aA.of jc),Z,Z,_,Z,aO MS ?_]])
  refine#[_,Z,Z,_,Z,aO MS ?_]
  refine#[_,Z,Z,_,Z,aO MS ?_]
  exact#[_,Z,_,Z,_,Z,p,_,Z,ao c n,λr e d s=>q r e (by rw[Y1]at d;exact d) ((je n).trans s)]
theorem KG{K:Frag}{a:Addr}{Y:List Str}{t:TT}{T:TE}{q:List V->Hp->Prop}{b:L2.St}{H:Hp}(f:Str->Bool)(L:Y.length<=1000)(A:H a=some (.lst (Y.map V.str)))
  (B:∀y g (Q:Bool->Hp->Prop),y∈Y->ae H g->(∀j,ae g j->Q (f y) j)->t (some (.str y)::b) g Q)
  (C:∀y g (Q:VK),y∈Y->Q (.str y) g->T (some (.str y)::b) g Q) (D:∀c,ae H c->q ((Y.filter f).map V.str) c):fb (xj K a) 1 b (bK 0) t T q H:=by
 have F:=zu
 refine#[λi m n c=>m=Y.length - i/\i<=Y.length/\n=((Y.take i).filter f).map V.str/\ae H c,#[Y.length,MQ,FN _,MQ,ae.refl H],?_]
 rintro i m n c ⟨rfl,M,rfl,k⟩
 have d:aP K c a (Y.map V.str):=aP.of (k _ _ A)
 by_cases h:i < Y.length
 ·have o:(Y.map V.str)[i]?=some (.str Y[i]):=by rw[FT,Fu h];rfl
  refine .inr #[#[_,_,d,o],?_,λz j=>z=((Y.take (i+1)).filter f).map V.str/\ae H j,λz j #[G,I]=>#[Y.length - (i+1),MP,Z,h,G,I],λv j N l y=>?_]
  ·rw[Fy]
   have:=LG f (Y.take i)
   rw[Gf]at this
   omega
  obtain⟨e,y⟩:=y
  subst e
  have p:=y _ d
  rw[o]at p
  cases p
  obtain⟨w,rfl⟩:=va l
  have r:Y[i]∈Y:=IV h
  have s:Y.take (i+1)=Y.take i++[Y[i]]:=by rw[GP,Fu h];rfl
  refine#[#[[some _],Z,Z],B Y[i] _ _ r k λJ u=>?_]
  cases x:f Y[i] with
  |true=>
   refine cq Z (C Y[i] J _ r #[?_,k.trans u])
   rw[s,List.filter_append,Gm]
   have E:[Y[i]].filter f=[Y[i]]:=by simp [x]
   rw[E]
   rfl
  |false=>
   refine aO Z #[?_,k.trans u]
   rw[s,List.filter_append,Gm]
   have E:[Y[i]].filter f=[]:=by simp [x]
   rw[E]
   simp
 ·have e:i=Y.length:=by omega
  subst e
  refine .inl #[#[_,d,MQ],?_]
  rw[Hw (Fz _)]
  exact D c k
def Lf.bt(M:Str->Prop):Lf->Str->Prop
 | .rd x _ _,y=>M y/\y≠x
 | .st x _ _,y=>M y/\y≠x
 | .wr _ _ _ _,y=>M y
 | .cl x _ _ _,y=>M y/\y≠x
 | .gv _ _,_=>False
def Bd.bt(M:Str->Prop):Bd->Str->Prop
 | .nil,y=>M y
 | .lf _ l _,y=>l.bt M y
 | .ite _ _ _ a b _,y=>a.use M y∨b.use M y
 | .loop _ _ _ a _,y=>a.use (λ_=>False) y∨M y
theorem tR(h:gJ H v s)(M:Str->Prop)(y:Str):s.use M y↔s.bt M y∨∃c∈s.own,y∈c.2.vars:=by
 cases h with
 |lf p l V _ _=>
  cases l with
  |rd x t T |st x t T=>exact#[λz=>z.elim .inl λw=>.inr #[_,List.mem_singleton.mpr Z,w],λz=>z.elim .inl λ#[c,hc,w]=>.inr (by rw[List.mem_singleton.mp hc]at w;exact w)]
  |wr t u T U=>
   refine#[λz=>z.elim .inl λw=>.inr (w.elim (λw=>#[_,FX ..,w]) λw=>#[_,Ge _ (List.mem_singleton.mpr Z),w]),λz=>z.elim .inl λ#[c,hc,w]=>.inr ?_]
   rcases List.mem_cons.mp hc with e |hc
   ·rw[e]at w;exact .inl w
   ·rw[List.mem_singleton.mp hc]at w;exact .inr w
  |cl x f q d=>exact Mr
  |gv t T=>exact#[λw=>.inr #[_,List.mem_singleton.mpr Z,w],λz=>z.elim False.elim λ#[c,hc,w]=>by rw[List.mem_singleton.mp hc]at w;exact w]
 |ite p t T a b Q g A B _ _ _ _ _ _ |loop p t T a Q A _ _ _ _=>exact#[λz=>z.elim .inl λw=>.inr #[_,List.mem_singleton.mpr Z,w],λz=>z.elim .inl λ#[c,hc,w]=>.inr (by rw[List.mem_singleton.mp hc]at w;exact w)]
structure NL(H:Hp)(g:Addr)(ss:List Str)(M:Str->Prop)(ys:List Str):Prop where
 at':H g=some (.lst (ss.map V.str))
 nm:Nm ss M
 sub:∀x,M x->x∈ys
 y20:ys.length<=21
theorem NL.len{H:Hp}{g:Addr}{s:List Str}{M:Str->Prop}{y:List Str}(h:NL H g s M y):s.length<=21:=FL (h.nm.len h.sub) h.y20
theorem NL.same(h:NL H g a M y)(s:ae H b):NL b g a M y:=#[s _ _ h.at',h.nm,h.sub,h.y20]
structure NU(H:Hp)(g:Addr)(ss:List Str)(M:Str->Prop)(ys:List Str):Prop where
 at':H g=some (.lst (ss.map V.str))
 nd:ss.Nodup
 mem:∀x,x∈ss↔M x
 sub:∀x,M x->x∈ys
 y20:ys.length<=21
theorem NL.nu(h:NL H g s M y):NU H g s M y:=#[h.at',h.nm.nd,h.nm.mem,h.sub,h.y20]
def xW(n:Nat):Sp:=λa H Q _=>∃(v:V) (g:Addr) (s:Bd) (S:List Str) (M:Str->Prop) (Y:List Str),a=[v,.ref g]/\gJ H v s/\NL H g S M Y/\s.Ok Y/\s.dep < n+1/\s.size<=10000000/\
 ∀(r:Addr) (z:List Str) (h:Hp),h r=some (.lst (z.map V.str))->(∀y,y∈z↔s.bt M y)->z.length<=50->ae H h->Q (.ref r) h
def gH(n:Nat):Sp:=λa H Q _=>∃(v:V) (g:Addr) (s:Bd) (S:List Str) (M:Str->Prop) (y:List Str),a=[v,.ref g]/\gJ H v s/\NL H g S M y/\s.Ok y/\s.dep < n+1/\s.size<=10000000/\
 ∀(r:Addr) (z:List Str) (h:Hp),H r=none->NL h r z (s.use M) y->ae H h->Q (.ref r) h
def iH(n:Nat):Sp:=λv H Q _=>∃(a g:Addr) (b:Bd) (x:List V) (s:List Str) (M:Str->Prop) (y:List Str),v=[.ref a,.ref g]/\H a=some (.tup x)/\dw H b x/\NU H g s M y/\b.Ok y/\b.dep < n/\b.size<=10000000/\
 ∀(r:Addr) (z:List Str) (h:Hp),H r=none->NL h r z (b.use M) y->ae H h->Q (.ref r) h
theorem Nm.empty:Nm [] (λ_=>False):=#[LJ,Z,λx=>#[λh=>absurd h Gh,False.elim]]
theorem xU:al ["statement","behind","word"] ["statement","behind"] (aa sh):=bP
noncomputable def sJ:Scope:=#[.function,[(".0",.local),("name",.local),("statement",.free)],false,false,[]]
theorem Cy:(["name","statement"]:List Str).Nodup:=by decide+kernel
theorem BV:bM ["statement","behind","word"] (aa sh) sJ ["name","statement"] 1 [0]:=ui
theorem pZ{L n:Nat}(F:aU K "used_behind_terms" "used_behind_terms" sh f fd)(J:Cl P w K mg base L fA f0 ["body","behind"] (iH n) "used_ahead"):ah P w K mg base aE (L+1) f fd ["statement","behind"] (xW n):=by
 refine F.ok xU ?_ λc0 A O s H vs Q E R h=>?_
 ·rintro _ _ _ _ ⟨v,g,s,G,M,Y,rfl,_⟩
  rfl
 refine aZ λGq kq=>?_
 obtain⟨v,g,st,G,M,Y,rfl,hs,c,W,hd,hz,q⟩:=h
 refine kq ?_
 clear kq
 refine#[_,(jd (jA 2 xU.nd (jy (pv 0))) (jd (jx (jB zk (pv 2) (jh (ja jl (ja jl (ja jl jb)))) Z) (jg (jo (@zG _ _ _ _ _ _ _ (["name","statement"]) (1) ([0]) _ _ _ _ Z (qt (pv 1)) BV (λ_ _ _ _ _=>(jw (i:=0) Cy Z (Or.inl Z))) (λ_ _ _ _ _=>(@AM _ _ _ (jB J4 (pv 0) (jv (r:=gr K) j5 (pv 1) jf (λ_ _=>Z)) (aK _)))) (λ_ _ _ _ _=>(pv 0)) (by intro _;rfl)))) jp) (jd (jx (jZ (pv 2)) (jg (jo (ju qi (J.e R.m (ja (jy (pv 0)) (ja (pv 1) jb))) (J.e R.m (ja (jy (pv 0)) (ja (pv 1) jb)))))) jp) (jd (jx (jZ (pv 2)) (jg (jo (ju qi (J.e R.m (ja (jy (pv 0)) (ja (jF jb) jb))) (pv 1)))) jp) (jd (jx (jZ (pv 2)) (jg (jo (jF jb))) jp) (jg (jo (pv 1)))))))),?_]
 have g0:=c.len
 cases hs with
 |lf p l vs d B=>
  cases l with
  |rd x t T |st x t T=>
   obtain⟨rfl,X⟩:=B
   refine(jq d Z #[_,Z,gm,λl N=>#[l,_,Z,.inr (aA.of jc),Z,Z,_,Z,cq MS ?_]])
   have S:ae H (af H l (.tup [.str "set",.str "read",.str "call"])):=je N
   refine#[_,Z,g,Z,#[_,aP.of (S _ _ c.at')],KG (λy=>!decide (V.str y=V.str x)) MP (S _ _ c.at') (λy I Q' hy k C=>?_) (λy I Q' hy C=>#[_,Z,C]) λH' k r j=>?_]
   ·exact#[_,Z,jq (k _ _ (S _ _ d)) Z #[Z,_,Z,C _ (ae.refl _)]]
   ·refine q r _ _ jc (λy=>?_) (FL (LG ..) MP) ((S.trans k).trans (je j))
    rw[List.mem_filter,c.nm.mem y]
    exact and_congr_right λ_=>by simp
  |wr t u T U=>
   obtain⟨rfl,X,hU⟩:=B
   refine(jq d Z #[_,Z,gm,λl N=>#[l,_,Z,.inr (aA.of jc),Z,Z,_,Z,aO MS ?_]])
   refine#[_,Z,Z,_,Z,aO MS ?_]
   refine#[_,Z,Z,_,Z,aO MS ?_]
   refine#[_,Z,Z,_,Z,aO MS ?_]
   exact#[_,Z,q g G _ (ao c.at' N) c.nm.mem MP (je N)]
  |cl x f' q' ts=>
   obtain⟨rfl,h8,X⟩:=B
   refine(jq d Z #[_,Z,gm,λl N=>#[l,_,Z,.inr (aA.of jc),Z,Z,_,Z,cq MS ?_]])
   have S:ae H (af H l (.tup [.str "set",.str "read",.str "call"])):=je N
   refine#[_,Z,g,Z,#[_,aP.of (S _ _ c.at')],KG (λy=>!decide (V.str y=V.str x)) MP (S _ _ c.at') (λy I Q' hy k C=>?_) (λy I Q' hy C=>#[_,Z,C]) λH' k r j=>?_]
   ·exact#[_,Z,jq (k _ _ (S _ _ d)) Z #[Z,_,Z,C _ (ae.refl _)]]
   ·refine q r _ _ jc (λy=>?_) (FL (LG ..) MP) ((S.trans k).trans (je j))
    rw[List.mem_filter,c.nm.mem y]
    exact and_congr_right λ_=>by simp
  |gv t T=>
   obtain⟨rfl,X⟩:=B
   refine(jq d Z #[_,Z,gm,λl N=>#[l,_,Z,.inr (aA.of jc),Z,Z,_,Z,aO MS ?_]])
   refine#[_,Z,Z,_,Z,aO MS ?_]
   refine#[_,Z,Z,_,Z,aO MS ?_]
   refine#[_,Z,Z,_,Z,cq MS ?_]
   exact#[lW,λr j=>q r [] _ jc (λy=>#[λh=>absurd h Gh,λh=>(show False from h).elim]) (FN _) ((je N).trans (je j))]
 |ite p t T a b qa qb as bs d h0 B h3 h4 h5=>
  refine(jq d Z #[_,Z,gm,λl N=>#[l,_,Z,.inr (aA.of jc),Z,Z,_,Z,aO MS ?_]])
  refine#[_,Z,Z,_,Z,cq MS ?_]
  have S:ae H (af H l (.tup [.str "set",.str "read",.str "call"])):=je N
  have h6:max (max a.dep b.dep+1) 0 < n+1:=hd
  have h7:a.size+b.size+0+1<=10000000:=hz
  refine(jq (S _ _ d) Z #[_,Z,qa,g,a,as,G,M,Y,Z,S _ _ B,h4.mono (ae.tm S),(c.same S).nu,W.2.1,MP,MP,λr1 z1 I _ D k1=>?_])
  have z:=S.trans k1
  refine(jq (z _ _ d) Z #[_,Z,qb,g,b,bs,G,M,Y,Z,z _ _ h3,h5.mono (ae.tm z),(c.same z).nu,W.2.2.1,MP,MP,λr2 z2 H2 _ n2 k2=>?_])
  have l1:=D.len
  have l2:=n2.len
  have b0:=zu
  refine#[r1,r2,_,_,Z,Z,k2 _ _ D.at',n2.at',by rw[Fy,Fy];omega,λr j=>q r (z1++z2) _ (by rw[jc,Gm]) (λy=>?_) (by rw[FD];omega) ((z.trans k2).trans (je j))]
  rw[IC,D.nm.mem y,n2.nm.mem y]
  exact Mr
 |loop p t T a qa as d h0 B h3=>
  refine(jq d Z #[_,Z,gm,λl N=>#[l,_,Z,.inr (aA.of jc),Z,Z,_,Z,aO MS ?_]])
  refine#[_,Z,Z,_,Z,aO MS ?_]
  refine#[_,Z,Z,_,Z,cq MS ?_]
  have S:ae H (af H l (.tup [.str "set",.str "read",.str "call"])):=je N
  have h6:max (a.dep+1) 0 < n+1:=hd
  have h7:a.size+0+1<=10000000:=hz
  refine(jq (S _ _ d) Z #[lW,λe ne=>?_])
  have z:=S.trans (je (o:=.lst []) ne)
  refine#[qa,e,a,as,[],λ_=>False,Y,Z,z _ _ B,h3.mono (ae.tm z),(NL.nu #[jc,Nm.empty,λ_ w=>w.elim,c.y20]),W.2.1,MP,MP,λr1 z1 I _ D k1=>?_]
  have l1:=D.len
  have s3:=z.trans k1
  have b0:=zu
  refine#[_,Z,r1,g,_,_,Z,Z,D.at',s3 _ _ c.at',by rw[Fy,Fy];omega,λr j=>q r (z1++G) _ (by rw[jc,Gm]) (λy=>?_) (by rw[FD];omega) (s3.trans (je j))]
  rw[IC,D.nm.mem y,c.nm.mem y]
  exact Mr
theorem Az(h:gJ H v s):∀c∈s.own,bj H c.2 c.1:=by
 cases h with
 |lf p l V _ d=>
  cases l with
  |rd x t T |st x t T |gv t T=>intro c hc;rw[List.mem_singleton.mp hc];exact d.2
  |wr t u T U=>
   intro c hc
   rcases List.mem_cons.mp hc with e |hc
   ·rw[e];exact d.2.1
   ·rw[List.mem_singleton.mp hc];exact d.2.2
  |cl x f q i=>exact d.2.2
 |ite p t T a b Q j A B _ g _ _ _ _ |loop p t T a Q A _ g _ _=>intro c hc;rw[List.mem_singleton.mp hc];exact g
theorem AA(h:gJ H v s)(o:s.Ok y):s.own.length<=100/\∀c∈s.own,di y c.2:=by
 have O:∀(t:Addr) (T:Tm),di y T->[(t,T)].length<=100/\∀c∈[(t,T)],di y c.2:=λt T h=>#[by show 1<=100;omega,λc hc=>by rw[List.mem_singleton.mp hc];exact h]
 cases h with
 |lf p l V _ g=>
  cases l with
  |rd x t T |st x t T=>exact O t T o.1.2
  |wr t u T U=>
   refine#[by show 2<=100;omega,λc hc=>?_]
   rcases List.mem_cons.mp hc with e |hc
   ·rw[e];exact o.1.1
   ·rw[List.mem_singleton.mp hc];exact o.1.2
  |cl x f q i=>exact#[FL o.1.2.1 MO,o.1.2.2]
  |gv t T=>exact O t T o.1
 |ite p t T a b Q j A B _ d _ _ _ _ |loop p t T a Q A _ d _ _=>exact O t T o.1
theorem zP:∀(a b c:Bd),(a.app b).app c=a.app (b.app c)
 | .nil,_,_=>rfl
 | .lf p l r,b,c=>by show Bd.lf p l ((r.app b).app c)=_;rw[zP r b c];rfl
 | .ite p t T x y r,b,c=>by show Bd.ite p t T x y ((r.app b).app c)=_;rw[zP r b c];rfl
 | .loop p t T x r,b,c=>by show Bd.loop p t T x ((r.app b).app c)=_;rw[zP r b c];rfl
theorem qV:∀(a:Bd),a.app .nil=a
 | .nil=>rfl
 | .lf p l r=>by show Bd.lf p l (r.app .nil)=_;rw[qV r]
 | .ite p t T x y r=>by show Bd.ite p t T x y (r.app .nil)=_;rw[qV r]
 | .loop p t T x r=>by show Bd.loop p t T x (r.app .nil)=_;rw[qV r]
inductive OI(v:V)(g r nl:Addr)(s:Bd)(M:Str->Prop)(H1:Hp)(i:Nat)(σ:L2.St)(H':Hp):Prop
 |mk (o3:Option V) (zs:List Str) (e0:σ=[some v,some (.ref g),some (.ref nl),o3]) (e1:H' nl=some (.lst (zs.map V.str))) (e2:∀y,y∈zs↔s.bt M y∨∃c∈s.own.take i,y∈c.2.vars) (e3:zs.length<=50+21*i) (e4:au nl H1 H'):OI v g r nl s M H1 i σ H'
theorem sC:al ["statement","behind","names","term"] ["statement","behind"] (aa ww):=bP
theorem p7{L:Nat}(F:aU K "used_ahead_of" "used_ahead_of" ww f fd)(cB:Cl P w K mg base (L+9) fB f0 ["statement","behind"] (xW n) "used_behind_terms")(cO:Cl P w K mg base 1 fO f2 ["statement"] nW "own_terms")(cN:Cl P w K mg base 7 fN f3 ["term"] (du 6) "names_in")(m0:mg "list"=none)(m2:mg "set"=none)(m3:mg "sorted"=none):ah P w K mg base aE (L+10) f fd ["statement","behind"] (gH n):=by
 refine F.ok sC ?_ λc0 A o1 s H vs Q E t h=>?_
 ·rintro _ _ _ _ ⟨v,g,s,ss,M,Y,rfl,_⟩
  rfl
 refine aZ λGq D=>?_
 obtain⟨v,g,st,ss,M,Y,rfl,j,u,U,hd,hz,q⟩:=h
 refine D ?_
 clear D
 refine#[_,(jd (jA 2 sC.nd (jE Jc Z m0 boot_list (ja (cB.e t.m (ja (pv 0) (ja (pv 1) jb))) jb))) (jd (j9 Gv Z (zT (cO.e t.m (ja (pv 0) jb))) (jw (i:=3) sC.nd Z (Or.inl Z)) (jg (jT (kN F8 Lb La Qk (pv 2) (ja (cN.e t.m (ja (pv 3) jb)) jb))))) (jg (jo (jP (qd Z) Z m3 boot_sorted (ja (jE (qN Z) Z m2 boot_set (ja (pv 2) jb)) jb)))))),?_]
 refine aj λF1 C=>#[_,Z,_,Z,v,g,st,ss,M,Y,Z,j,u,U,hd,hz,λr1 G H1 e1 m1 l1 k1=>#[r1,_,Z,.inl (aP.of e1),λN I=>C _ _ ?_]]
 clear C
 have s2:ae H (af H1 N (.lst (G.map V.str))):=k1.trans (je I)
 have J:=j.mono (ae.tm s2)
 obtain⟨o2,O⟩:=AA j U
 have a:af H1 N (.lst (G.map V.str)) N=some (.lst (G.map V.str)):=jc
 have h0:H N=none:=k1.free I
 generalize af H1 N (.lst (G.map V.str))=H2 at s2 J a
 refine aj λF1 C=>?_
 refine eB λF kF=>#[_,Z,v,st,Z,J,λr H3 t W=>#[r,Z,#[_,aA.of t],kF _ _ ?_]]
 clear kF
 have r0:r≠N:=jO t (W _ _ a) (by intro z;cases z)
 have s3:=s2.trans W
 have b0:=zu
 refine qZ (K:=K) (xs:=st.own.map rT) (OI v g r N st M H3) #[_,G,Z,W _ _ a,λy=>?_,MP,au.refl] (λi σ H' hi h=>?_) ?_ (λσ H' h=>C _ _ ?_)
 ·rw[m1 y]
  exact#[.inl,λz=>z.elim (λw=>w) λ#[c,p,_]=>absurd p Gh]
 ·obtain⟨_,_,_,_,_,_,k⟩:=h
  exact aA.of (k _ _ r0 t)
 ·clear C
  intro E _ i x σ H4 B fE Gq D h
  obtain⟨o3,X,rfl,h1,R,h3,k4⟩:=h
  rw[FT]at B
  cases p:st.own[i]? with
  |none=>rw[p]at B;cases B
  |some c=>
   rw[p]at B
   cases B
   refine D ?_
   clear D
   have cm:=F' p
   have hi:i < st.own.length:=by
    rcases Lo i st.own.length with z |z
    ·exact z
    ·rw[Hc z]at p;cases p
   have tm:ai H3 H4:=λb xs e=>k4 b _ (jO e (W _ _ a) (by intro z;cases z)) e
   show nX _ E [some v,some (.ref g),some (.ref N),some (.ref c.1)] H4
   refine#[_,Z,.inl #[Z,_,aP.of h1],_,Z,c.1,c.2,Y,Z,((Az j c cm).mono (ae.tm s3)).mono tm,(O c cm).2,(O c cm).1,u.y20,λr5 s5 H5 n5 e5 d5 m5 o5 k5=>?_]
   have l5:s5.length<=21:=FL (j4 d5 λx B=>kj (O c cm).1 x ((m5 x).mp B)) u.y20
   refine#[N,r5,_,_,Z,Z,k5 _ _ h1,e5,by rw[Fy,Fy];omega,fE _ _ #[_,X++s5,Z,by rw[jc,Gm],λy=>?_,by rw[FD];omega,λb o nb e=>?_]]
   ·rw[IC,R y,m5 y,GP,p]
    refine#[λz=>z.elim (λz=>z.elim .inl λ#[d,hd,w]=>.inr #[d,Hk _ hd,w]) λw=>.inr #[c,FR _ (List.mem_singleton.mpr Z),w],λz=>z.elim (λw=>.inl (.inl w)) λ#[d,hd,w]=>?_]
    rcases List.mem_append.mp hd with hd |hd
    ·exact .inl (.inr #[d,hd,w])
    ·have ed:d=c:=List.mem_singleton.mp hd
     rw[ed]at w
     exact .inr w
   ·rw[jk nb]
    exact k5 _ _ (k4 b o nb e)
 ·obtain⟨o3,X,rfl,h1,R,h3,k4⟩:=h
  clear C
  rw[Fy]at R h3
  have s4:ae H H':=λb o e=>k4 b o (jm e h0) (s3 _ _ e)
  refine#[_,Z,N,X,Z,aP.of h1,(λL nd j=>Hq (Ho (j4 nd j)) (by show X.length+1 < 4096;omega)),λl L S h4 hm=>?_]
  have sub:∀y∈L,y∈Y:=λy hy=>Bd.use_in U u.sub y ((tR j M y).mpr (by have:=(R y).mp ((hm y).mp hy);rwa [Gz]at this))
  have lL:=FL (j4 h4 sub) u.y20
  refine#[l,L,Z,jc,MP,λr' s0 T pm nd so=>?_]
  refine q r' s0 _ ((s4.trans (je S)).free T) #[jc,#[pm.nodup_iff.mpr nd,so,λy=>?_],Bd.use_in U u.sub,u.y20] ((s4.trans (je S)).trans (je T))
  rw[pm.mem_iff,hm y,R y,tR j M y,Gz]
theorem none_of(s:ae H h)(n:h r=none):H r=none:=by
 cases z:H r with
 |none=>rfl
 |some o=>have:=s _ _ z;rw[n]at this;cases this
inductive UI(a g:Addr)(b:Bd)(xs:List V)(M:Str->Prop)(ys:List Str)(H:Hp)(i:Nat)(σ:L2.St)(H':Hp):Prop
 |mk (g':Addr) (o3:Option V) (pre eY:Bd) (zs:List Str) (e0:σ=[some (.ref a),some (.ref g),some (.ref g'),o3]) (e1:b=pre.app eY) (e2:dw H pre (xs.take (xs.length - i))) (e3:NL H' g' zs (eY.use M) ys) (e4:ae H H') (e5:H g'=none):UI a g b xs M ys H i σ H'
theorem nM:al ["body","behind","names","statement"] ["body","behind"] (aa wu):=bP
theorem Ap{L:Nat}(F:aU K "used_ahead" "used_ahead" wu f fd)(cU:Cl P w K mg base (L+10) fU f0 ["statement","behind"] (gH n) "used_ahead_of")(J:mg "sorted"=none)(N:mg "reversed"=none):ah P w K mg base aE (L+11) f fd ["body","behind"] (iH (n+1)):=by
 refine F.ok nM ?_ λc0 A O s H vs Q E hr h=>?_
 ·rintro _ _ _ _ ⟨a,g,b,xs,R,M,Y,rfl,_⟩
  rfl
 refine aZ λGq p=>?_
 obtain⟨a,g,b,xs,R,M,Y,rfl,ha,hb,d,ho,hd,hz,q⟩:=h
 refine p ?_
 clear p
 refine#[_,(jd (jA 2 nM.nd (jP QZ Z J boot_sorted (ja (pv 1) jb))) (jd (j9 Gv Z (@rh _ _ _ _ _ _ _ Z N boot_reversed (pv 0) MO MO MT MT) (jw (i:=3) nM.nd Z (Or.inl Z)) (jg (jA 2 nM.nd (cU.e hr.m (ja (pv 3) (ja (pv 2) jb)))))) (jg (jo (pv 2))))),?_]
 have g0:R.length<=21:=FL (j4 d.nd λx o=>d.sub x ((d.mem x).mp o)) d.y20
 have b0:=aN
 refine aj λF1 t=>#[_,Z,g,R,Z,aP.of d.at',MP,λl c nl pm so=>t _ _ ?_]
 clear t
 have T:Nm c M:=#[pm.nodup_iff.mpr d.nd,so,λx=>pm.mem_iff.trans (d.mem x)]
 have U:ae H (af H l (.lst (c.map V.str))):=je nl
 have u:NL (af H l (.lst (c.map V.str))) l c M Y:=#[jc,T,d.sub,d.y20]
 generalize af H l (.lst (c.map V.str))=H1 at U u
 have xl:=hb.len
 refine aj λF1 t=>?_
 refine eB λF kF=>#[_,Z,a,xs,Z,aA.of (U _ _ ha),kF _ _ ?_]
 clear kF
 refine Xh (K:=K) (xs:=xs) (UI a g b xs M Y H) #[l,_,b,.nil,c,Z,(qV b).symm,by rw[Mb,Gz];exact hb,u,U,nl] (λi σ H' hi h=>?_) ?_ (λσ H' h=>t _ _ ?_)
 ·obtain⟨_,_,_,_,_,_,_,_,_,k,_⟩:=h
  exact aA.of (k _ _ ha)
 ·clear t
  intro E _ i x σ H2 o fE Gq p h
  obtain⟨I,o3,pre,eY,W,rfl,j,y,X,B,n2⟩:=h
  have hi:i < xs.length:=by
   rcases Lo i xs.length with z |z
   ·exact z
   ·rw[Hc (by simpa using z)]at o;cases o
  rw[IU hi]at o
  have et:xs.take (xs.length - i)=xs.take (xs.length - (i+1))++[x]:=by
   have C:xs.length - i=(xs.length - 1 - i)+1:=by omega
   have e2:xs.length - (i+1)=xs.length - 1 - i:=by omega
   rw[C,e2,GP,o]
   rfl
  rw[et]at y
  rcases y.last with ⟨e,_⟩ | ⟨ws,v,D,S,C,e2,h4,h5⟩
  ·exact absurd e MQ
  obtain⟨ew,ev⟩:=List.append_inj' C Z
  cases ev
  subst e2
  have h0:=zJ (j▸ho)
  have G:=zJ h0.1
  have a1:b.dep=max (D.app S).dep eY.dep:=by rw[j,zi]
  have a2:(D.app S).dep=max D.dep S.dep:=zi ..
  have h6:S.dep<=b.dep:=by rw[a1,a2];exact FL (Lj ..) (Lw ..)
  clear a1 a2
  have h7:S.size<=b.size:=by rw[j,jV,jV];omega
  refine p ?_
  clear p
  show dC _ _ E [some (.ref a),some (.ref g),some (.ref I),some x] H2
  refine#[_,Z,_,Z,x,I,S,W,eY.use M,Y,Z,h5.mono (ae.tm B),X,G.2,MP,MP,λr z H3 nr n3 k3=>fE _ _ #[r,_,D,S.app eY,z,Z,by rw[j,zP],?_,by rw[JT];exact n3,B.trans k3,none_of B nr]]
  rw[ew]
  exact h4
 ·obtain⟨I,o3,pre,eY,W,rfl,j,y,X,B,n2⟩:=h
  rw[Ln]at y
  have ep:pre= .nil:=by
   rcases y.last with ⟨_,e⟩ | ⟨ws,v,D,S,C,_⟩
   ·exact e
   ·exact absurd C MQ
  rw[ep]at j
  refine#[_,Z,q I W H' n2 ?_ B]
  rw[j]
  exact X
theorem yZ:ah P w K mg base aE k f e ["body","behind"] (iH 0):=by
 have n:∀v H Q E,¬iH 0 v H Q E:=λv H Q E h=>by
  obtain⟨a,g,b,x,S,M,y,_,_,_,_,_,d,_⟩:=h
  exact absurd d (IY _)
 exact#[λv H Q E h=>absurd h (n v H Q E),λA o s H c u v Q E _ _ _ _ h=>absurd h (n v H Q E)]
theorem Ds(F:aU K "used_ahead" "used_ahead" wu f e)(FB:aU K "used_behind_terms" "used_behind_terms" sh r g)(d:aU K "used_ahead_of" "used_ahead_of" ww o b)
  (B:ay K e ["body","behind"] []) (i:mg "used_ahead"=some (.ref f)) (j:ay K g ["statement","behind"] []) (k:mg "used_behind_terms"=some (.ref r)) (p:ay K b ["statement","behind"] []) (q:mg "used_ahead_of"=some (.ref o)) (C:Cl P w K mg base 1 u s ["statement"] nW "own_terms") (l:Cl P w K mg base 7 v t ["term"] (du 6) "names_in") (M:mg "list"=none) (a:mg "set"=none) (m:mg "sorted"=none) (c:mg "reversed"=none):
  ∀n:Nat,ah P w K mg base aE (3*n+8) f e ["body","behind"] (iH n)/\ah P w K mg base aE (3*n+10) o b ["statement","behind"] (gH n)
 |0=>by
  have h:ah P w K mg base aE 8 f e ["body","behind"] (iH 0):=yZ
  have H:=pZ (L:=8) (n:=0) FB #[h,B,F.kp,i]
  exact#[h,p7 (L:=0) d #[H,j,FB.kp,k] C l M a m]
 |n+1=>by
  have I:=(Ds F FB d B i j k p q C l M a m c n).2
  have h:=Ap (L:=3*n) F #[I,p,d.kp,q] m c
  have E:3*n+11=3*(n+1)+8:=by omega
  rw[E]at h
  have H:=pZ (L:=3*(n+1)+8) (n:=n+1) FB #[h,B,F.kp,i]
  exact#[h,p7 (L:=3*(n+1)) d #[H,j,FB.kp,k] C l M a m]
noncomputable abbrev AU:Stmt:=bQ 43
noncomputable abbrev rV:Stmt:=bQ 46
noncomputable abbrev rQ:Stmt:=bQ 47
noncomputable abbrev iX:Stmt:=bQ 48
noncomputable abbrev rX:Stmt:=bQ 49
noncomputable def Lf.cut:Lf->Nat
 | .st _ _ _=>0
 | .gv _ _=>0
 |_=>1
noncomputable def Bd.cuts:Bd->Nat
 | .nil=>0
 | .lf _ l r=>l.cut+r.cuts
 | .ite _ _ _ a b r=>1+a.cuts+b.cuts+r.cuts
 | .loop _ _ _ a r=>1+a.cuts+r.cuts
noncomputable def Bd.inn:Bd->Bd
 | .ite _ _ _ a b _=>a.app b
 | .loop _ _ _ a _=>a
 |_=>.nil
theorem zN:∀(a b:Bd),(a.app b).cuts=a.cuts+b.cuts
 | .nil,b=>by show b.cuts=0+b.cuts;omega
 | .lf _ l r,b=>by have:=zN r b;show l.cut+(r.app b).cuts=l.cut+r.cuts+b.cuts;omega
 | .ite _ _ _ x y r,b=>by have:=zN r b;show 1+x.cuts+y.cuts+(r.app b).cuts=1+x.cuts+y.cuts+r.cuts+b.cuts;omega
 | .loop _ _ _ x r,b=>by have:=zN r b;show 1+x.cuts+(r.app b).cuts=1+x.cuts+r.cuts+b.cuts;omega
def nQ:Sp:=λa H Q _=>∃(v:V) (s:Bd),a=[v]/\gJ H v s/\s.size<=10000000/\∀(r:Addr) (x:List V) (h:Hp),h r=some (.tup x)->dw h s.inn x->ae H h->Q (.ref r) h
def h9:Sp:=λv H Q _=>∃(a:Addr) (b:Bd) (x:List V),v=[.ref a]/\H a=some (.tup x)/\dw H b x/\b.size<=10000000/\∀h,ae H h->Q (.int (b.cuts:Int)) h
theorem C1:al ["statement"] ["statement"] (aa AU):=bP
theorem Aa(F:aU K "bodies_in" "bodies_in" AU f y):ah P w K mg base aE 1 f y ["statement"] nQ:=by
 refine F.ok C1 ?_ λC A o s H V Q E j h=>?_
 ·rintro _ _ _ _ ⟨v,s,rfl,_⟩
  rfl
 refine aZ λO k=>?_
 obtain⟨v,st,rfl,z,B,q⟩:=h
 refine k ?_
 clear k
 refine#[_,(jd (jx (jZ (jy (pv 0))) (jg (jo (ju j8 (jy (pv 0)) (jy (pv 0))))) jp) (jd (jx (jZ (jy (pv 0))) (jg (jo (jy (pv 0)))) jp) (jg (jo (jh jb))))),?_]
 have D:=aN
 cases z with
 |lf p l V c d=>
  cases l with
  |rd x t T |st x t T |wr t u T U |cl x f R S |gv t T=>
   obtain⟨rfl,_⟩:=d
   refine(jq c Z #[Z,_,Z,aO MS ?_])
   refine(jq c Z #[Z,_,Z,aO MS ?_])
   exact#[lW,λr N=>q r [] _ jc Z (je N)]
 |ite p t T a b e G g I c J d i m n=>
  refine(jq c Z #[Z,_,Z,cq MS ?_])
  have L:a.size+b.size+0+1<=10000000:=B
  have W:=m.len
  have X:=n.len
  exact(jq c Z (jq c Z #[e,G,g,I,Z,Z,d,i,MP,λr M j s=>q r _ M j ((n.mono (ae.tm s)).app (m.mono (ae.tm s))) s]))
 |loop p t T a e g c J d i=>
  refine(jq c Z #[Z,_,Z,aO MS ?_])
  refine(jq c Z #[Z,_,Z,cq MS ?_])
  exact(jq c Z (q e g H d i (ae.refl H)))
theorem wJ(h:gJ H v s):s.inn.size < s.size/\∃(p:Addr) (w:Str) (r:List V),v= .ref p/\H p=some (.tup (.str w::r))/\s.cuts=(if nq (.str w) [.str "set",.str "give"]=true then 0 else 1)+s.inn.cuts:=by
 cases h with
 |lf p l i c d=>
  refine#[Nat.zero_lt_succ _,?_]
  cases l with
  |rd x t T |wr t u T U |cl x f Q j=>obtain⟨rfl,_⟩:=d;exact#[p,_,_,Z,c,by rw[FV MS];rfl]
  |st x t T |gv t T=>obtain⟨rfl,_⟩:=d;exact#[p,_,_,Z,c,by rw[FQ MS];rfl]
 |ite p t T a b q k A B c e d g m n=>
  refine#[by show(a.app b).size < a.size+b.size+0+1;rw[jV];omega,p,_,_,Z,c,?_]
  rw[FV MS]
  show 1+a.cuts+b.cuts+0=1+(a.app b).cuts
  rw[zN]
  omega
 |loop p t T a q A c e d g=>
  refine#[by show a.size < a.size+0+1;omega,p,_,_,Z,c,?_]
  rw[FV MS]
  show 1+a.cuts+0=1+a.cuts
  omega
theorem gE:dF (v::y) 0=some v:=jN (j:=0) Z
inductive MI(a td:Addr)(b:Bd)(H:Hp)(m:Nat)(σ:L2.St)(H':Hp):Prop
 |mk (o3:Option V) (W:Bd) (zs:List V) (k:Nat) (e0:m=W.size) (e1:σ=[some (.ref a),some (.int (k:Int)),some (.ref td),o3]) (e2:H' td=some (.lst zs)) (e3:dw H' W zs) (e4:k+W.cuts=b.cuts) (e5:W.size<=10000000) (e6:au td H H'):MI a td b H m σ H'
theorem g9:al ["body","many","todo","statement"] ["body"] (aa rV):=bP
theorem vC(F:aU K "many_cuts" "many_cuts" rV f fd)(cB:Cl P w K mg base 1 fB f0 ["statement"] nQ "bodies_in")(m0:mg "list"=none):ah P w K mg base aE 2 f fd ["body"] h9:=by
 refine F.ok g9 ?_ λc0 A o1 s H vs Q E hr h=>?_
 ·rintro _ _ _ _ ⟨a,b,xs,rfl,_⟩
  rfl
 refine aZ λGq y=>?_
 obtain⟨a,b,xs,rfl,ha,hb,hz,q⟩:=h
 refine y ?_
 clear y
 refine#[_,(jd (jA 1 g9.nd jf) (jd (jA 2 g9.nd (jE Jc Z m0 boot_list (ja (pv 0) jb))) (jd (Xa Gv (@rB _ _ _ (pv 2) (λ_=>Z)) (jd (jA 3 g9.nd (AE F8 PySem.F.slot_list_pop PySem.F.type_list_pop yU (pv 2))) (jd (jY (jx (jB Jb (jy (pv 3)) (jh (ja jl (ja jl jb))) Z) (jg (AN (i:=1) g9.nd Z (Or.inl Z) jf yJ)) jp)) (jg (jT (kN F8 Lb La Yn (pv 2) (ja (cB.e hr.m (ja (pv 3) jb)) jb))))))) (jg (jo (pv 1)))))),?_]
 have b0:=aN
 refine aj λU d=>d _ _ ?_
 clear d
 refine aj λU d=>#[_,Z,a,_,Z,.inr (aA.of ha),λt C=>d _ _ ?_]
 clear d
 have s0:ae H (af H t (.lst xs)):=je C
 refine aj λU d=>?_
 refine tY (MI a t b H) b.size #[_,b,xs,0,Z,Z,jc,hb.mono (ae.tm s0),MP,hz,λc o N e=>s0 _ _ e] ?_
 intro m σ D E _ fE F X Y Gq y h
 obtain⟨o3,W,zs,k,rfl,rfl,x,h2,h3,h4,h5⟩:=h
 refine y #[_,Z,!zs.isEmpty,.inl #[zs,aP.of x,Z],?_]
 clear y
 rcases h2.last with ⟨e1,e2⟩ | ⟨g,v,B,n,e1,e2,g1,g2⟩
 ·rw[e1]
  refine Y _ (d _ _ #[_,Z,?_])
  rw[e2]at h3
  have e3:k=b.cuts:=by have:k+0=b.cuts:=h3;omega
  rw[e3]
  exact q _ λc o e=>h5 c o (jm e C) e
 ·rw[e1]
  have ne:(!(g++[v]).isEmpty)=true:=by cases g<;>rfl
  rw[ne]
  refine X _ ?_
  clear Y X d
  have h6:W.size=B.size+n.size:=by rw[e2,jV]
  have h7:W.cuts=B.cuts+n.cuts:=by rw[e2,zN]
  obtain⟨h8,p,w',r,rfl,hp,hc⟩:=wJ g2
  rw[e1]at x
  refine aj λU d=>#[_,Z,.inl #[Z,_,aP.of x],t,_,.ref p,Z,Z,x,MQ,d _ _ ?_]
  clear d
  rw[List.dropLast_concat]
  have T:ai D (af D t (.lst g)):=λc ys e=>by rw[jk (jO e x (by intro z;cases z))];exact e
  have t2:af D t (.lst g) t=some (.lst g):=jc
  have u:=g1.mono T
  have I:=g2.mono T
  have J:=T _ _ hp
  have k2:au t H (af D t (.lst g)):=λc o N e=>by rw[jk N];exact h5 c o N e
  generalize af D t (.lst g)=H2 at t2 u I J k2
  clear T x h2 h5 g1 g2 hp
  have R:∀(j:Nat) (H3:Hp),ae H2 H3->j+B.cuts+n.inn.cuts=b.cuts->nX (Eu K "list" (lG K) (be 2) (am (dI nQ [] E0 (am (be 3) aT)) aT)) E [some (.ref a),some (.int (j:Int)),some (.ref t),some (.ref p)] H3:=λj H3 L hk=>by
   have g0:=I.mono (ae.tm L)
   refine#[_,Z,.inl #[Z,_,aP.of (L _ _ t2)],_,Z,.ref p,n,Z,g0,MP,λr' ys H4 h0 hy s4=>?_]
   have S:=L.trans s4
   have l1:=u.len
   have l2:=hy.len
   refine#[t,r',g,ys,Z,Z,S _ _ t2,aA.of h0,MP,fE (B.app n.inn).size _ _ (by rw[jV];omega) #[_,B.app n.inn,g++ys,j,Z,Z,jc,?_,by rw[zN];omega,by rw[jV];omega,λc o N e=>?_]]
   ·have M:ai H4 (af H4 t (.lst (g++ys))):=λc z0 e=>by rw[jk (jO e (S _ _ t2) (by intro z;cases z))];exact e
    exact(hy.mono M).app ((u.mono (ae.tm S)).mono M)
   ·rw[jk N]
    exact S _ _ (k2 c o N e)
  refine aj λU d=>dB (λO H'=>∃j:Nat,O=[some (.ref a),some (.int (j:Int)),some (.ref t),some (.ref p)]/\ae H2 H'/\j+B.cuts+n.inn.cuts=b.cuts) (λE2 _ fm=>?_) λO H' h=>?_
  ·clear d fE
   refine u6 λG X Y=>(jq J gE #[bX,λl nl=>#[l,_,Z,.inr (aA.of jc),Z,Z,_,Z,?_]])
   cases hv:nq (.str w') [.str "set",.str "give"] with
   |true=>
    rw[hv,FQ Z]at hc
    exact Y _ (fm _ _ #[k,Z,je nl,MP])
   |false=>
    rw[hv,FV FH]at hc
    refine X _ #[_,Z,_,_,Z,Z,fm _ _ #[k+1,?_,je nl,MP]]
    show [_,some (V.int ((k:Int)+1)),_,_]=[_,some (V.int ((k+1:Nat):Int)),_,_]
    rfl
  ·obtain⟨j,rfl,L,hk⟩:=h
   exact d _ _ (R j H' L hk)
end K30
namespace K30
open PySem PySem.Spec PyProof.Rows L2
variable {P:Program}{w:World}{K:Frag}{mg:Str->Option Value}{base:Heap}
inductive Dw where
 |go (n:Int) |give (t:Addr)
structure Wy where
 sets:List (Str×Addr)
 goal:Dw
inductive Dd where
 |st (p:Addr) |ask (t:Addr)
structure Ct where
 M:Str->Prop
 d:Dd
 ws:List Wy
structure Pc where
 M:Str->Prop
 w:Wy
def aS(H:Hp):Tr->V->List V->Prop
 | .lf v,x,_=>x=v/\Ea v=true
 | .tp l,x,_=>l.isL=true/\∃a X,x= .ref a/\H a=some (.tup X)/\aS H l .non X
 | .nil,_,X=>X=[]
 | .cons h t,_,X=>h.isL=false/\t.isL=true/\∃y Y,X=y::Y/\aS H h y []/\aS H t .non Y
theorem aS.at{K:Frag}:∀{t:Tr} {x:V} {xs:List V},aS H t x xs->lE K H t x xs:=by
 intro t
 induction t with
 |lf v |nil=>exactλh=>h
 |tp l d=>rintro x xs ⟨h,a,Y,e,b,c⟩;exact#[h,a,Y,e,aA.of b,d c]
 |cons h t i I=>rintro x xs ⟨E,f,y,Y,e,b,c⟩;exact#[E,f,y,Y,e,i b,I c]
theorem aS.mono(k:ai H d):∀{t:Tr} {x:V} {X:List V},aS H t x X->aS d t x X:=by
 intro t
 induction t with
 |lf v |nil=>exactλh=>h
 |tp l f=>rintro x X ⟨h,a,Y,e,b,c⟩;exact#[h,a,Y,e,k _ _ b,f c]
 |cons h t i I=>rintro x X ⟨E,g,y,Y,e,b,c⟩;exact#[E,g,y,Y,e,i b,I c]
noncomputable def aJ:List Tr->Tr
 | []=>.nil
 |t::T=>.cons t (aJ T)
theorem QA:∀t:List Tr,(aJ t).isL=true
 | []=>rfl
 |_::_=>rfl
noncomputable def aQ(t:List Tr):Tr:=.tp (aJ t)
noncomputable def a9(x:Str):Tr:=.lf (.str x)
noncomputable def oj(a:Addr):Tr:=.lf (.ref a)
noncomputable def aB(n:Int):Tr:=.lf (.int n)
section
variable {H:Hp}
theorem jC:aS H (aJ []) .non []:=rfl
theorem ji{t:Tr}(h:t.isL=false)(a:aS H t y [])(b:aS H (aJ T) .non Y):aS H (aJ (t::T)) .non (y::Y):=#[h,QA T,y,Y,Z,a,b]
theorem jD(h:H a=some (.tup x))(b:aS H (aJ t) .non x):aS H (aQ t) (.ref a) []:=#[QA t,a,x,Z,h,b]
theorem jM:aS H (a9 x) (.str x) []:=#[Z,Z]
theorem Jn:aS H (oj a) (.ref a) []:=#[Z,Z]
theorem jS:aS H (aB n) (.int n) []:=#[Z,Z]
theorem JU(a:aS H (aJ s) .non Y):∀{T:List Tr} {x:List V},aS H (aJ T) .non x->aS H (aJ (T++s)) .non (x++Y)
 | [],x,h=>by have e:x=[]:=h;rw[e];exact a
 |t::T,x,h=>by obtain⟨E,_,y,z,e,b,c⟩:=h;rw[e];exact ji E b (JU a c)
theorem kY:∀{T:List Tr} {x:List V},aS H (aJ T) .non x->x.length=T.length
 | [],x,h=>by have e:x=[]:=h;rw[e];rfl
 |t::T,x,h=>by obtain⟨_,_,y,z,e,_,a⟩:=h;rw[e,Gi,Gi,kY a]
theorem Xl:∀(S:List Str),aS H (aJ (S.map a9)) .non (S.map V.str)
 | []=>rfl
 |s::S=>ji Z jM (Xl S)
theorem Y2:∀{T:List Tr} {x:List V},aS H (aJ T) .non x->aS H (aJ T.reverse) .non x.reverse
 | [],x,h=>by have e:x=[]:=h;rw[e];rfl
 |t::T,x,h=>by
  obtain⟨E,_,y,z,e,a,b⟩:=h
  rw[e,K',K']
  exact JU (ji E a jC) (Y2 b)
theorem qJ:∀{T:List Tr} {X:List V},aS H (aJ T) .non X->∀(i:Nat) (x:V),X[i]?=some x->∃t,T[i]?=some t/\aS H t x []
 | [],X,h,i,x,a=>by have e:X=[]:=h;rw[e]at a;simp at a
 |t::T,X,h,0,x,a=>by obtain⟨_,_,y,z,e,b,c⟩:=h;rw[e]at a;cases a;exact#[t,Z,b]
 |t::T,X,h,i+1,x,a=>by obtain⟨_,_,y,z,e,b,c⟩:=h;rw[e]at a;simpa using qJ c i x (by simpa using a)
end
noncomputable def C9(s:Str×Addr):Tr:=aQ [a9 s.1,oj s.2]
noncomputable def uX:Dw->Tr
 | .go n=>aQ [a9 "go",aB n]
 | .give t=>aQ [a9 "give",oj t]
noncomputable def gI(w:Wy):Tr:=aQ [aQ (w.sets.map C9),uX w.goal]
noncomputable def DH:Dd->Tr
 | .st p=>oj p
 | .ask t=>aQ [a9 "ask",oj t]
noncomputable def BW(c:Ct):Tr:=aQ [aQ ((canon c.M).map a9),DH c.d,aQ (c.ws.map gI)]
theorem yD(g:Dw):(uX g).isL=false:=by cases g<;>rfl
theorem BY(d:Dd):(DH d).isL=false:=by cases d<;>rfl
def lT(H:Hp)(p:Pc)(v:V)(g:Addr)(y:List Str):Prop:=∃(r:Addr) (s:List Str) (W:V),v= .ref r/\H r=some (.tup [.ref g,W])/\NL H g s p.M y/\aS H (gI p.w) W []
theorem lT.same(h:lT H p v g y)(s:ae H a):lT a p v g y:=by
 obtain⟨r,S,W,e,b,c,d⟩:=h
 exact#[r,S,W,e,s _ _ b,c.same s,d.mono (ae.tm s)]
theorem lT.but(h:lT H p v g y)(k:au f H c)(d:H f=some (.lst C))(n:g≠f):lT c p v g y:=by
 obtain⟨r,s,W,e,i,a,j⟩:=h
 have t:ai H c:=λb x e=>k b _ (jO e d (by intro z;cases z)) e
 exact#[r,s,W,e,t _ _ i,#[k _ _ n a.at',a.nm,a.sub,a.y20],j.mono t]
noncomputable def Lf.isCut:Lf->Bool
 | .st _ _ _=>false
 | .gv _ _=>false
 |_=>true
noncomputable def Bd.deed:Bd->Dd
 | .lf p _ _=>.st p
 | .ite _ t _ _ _ _=>.ask t
 | .loop _ t _ _ _=>.ask t
 | .nil=>.st 0
def i7:Sp:=λa H Q _=>∃(v:V) (s:Bd),a=[v]/\gJ H v s/\∀(d:V) (h:Hp),aS h (DH s.deed) d []->ae H h->Q d h
def gQ:Sp:=λa H Q _=>∃(t:Addr) (T:Tm) (y:List Str),a=[.ref t]/\bj H T t/\di y T/\y.length<=21/\∀(v:V) (g:Addr) (h:Hp),lT h #[λx=>x∈T.vars,#[[],.give t]] v g y->H g=none->ae H h->Q v h
def sV(K:Frag):Sp:=λv H Q _=>∃a:Addr,v=[.ref a]/\aA K H a [.str "num",.int 0]/\∀(r:Addr),H r=none->Q (.ref r) (af H r (.lst []))
def sW(K:Frag):Sp:=λa H Q _=>∃(t:Addr) (y:List Str),a=[.ref t]/\aA K H t [.str "num",.int 0]/\y.length<=21/\∀(v:V) (g:Addr) (h:Hp),lT h #[λx=>x∈(Tm.num 0).vars,#[[],.give t]] v g y->H g=none->ae H h->Q v h
open Classical in
noncomputable def hV(x:Str)(t:Addr)(p:Pc):Wy:=if p.M x then #[(x,t)::p.w.sets,p.w.goal] else p.w
def j':Sp:=λd H Q _=>∃(v b:V) (p t:Addr) (x:Str) (T:Tm) (a:Pc) (g:Addr) (y:List Str),d=[v,b]/\gJ H v (.lf p (.st x t T) .nil)/\lT H a b g y/\x∈y/\di y T/\a.w.sets.length<=10000000/\
 ∀(c:V) (G:Addr) (h:Hp),lT h #[(Lf.st x t T).use a.M,hV x t a] c G y->H G=none->ae H h->Q c h
theorem A4:al ["statement"] ["statement"] (aa rQ):=bP
theorem vt(F:aU K "deed_of" "deed_of" rQ f e):ah P w K mg base aE 1 f e ["statement"] i7:=by
 refine F.ok A4 ?_ λC A o s H V Q E z h=>?_
 ·rintro _ _ _ _ ⟨v,s,rfl,_⟩
  rfl
 refine aZ λG k=>?_
 obtain⟨v,st,rfl,g,q⟩:=h
 refine k ?_
 clear k
 refine#[_,(jd (jx (jB zk (jy (pv 0)) (jh (ja jl (ja jl jb))) Z) (jg (jo (jh (ja jl (ja (jy (pv 0)) jb))))) jp) (jg (jo (pv 0)))),?_]
 cases g with
 |lf p l V c d=>
  cases l with
  |rd x t T |st x t T |wr t u T U |cl x f B D |gv t T=>
   obtain⟨rfl,_⟩:=d
   refine(jq c Z #[bX,λl n=>#[l,_,Z,.inr (aA.of jc),Z,Z,_,Z,aO MS ?_]])
   exact#[_,Z,q _ _ Jn (je n)]
 |ite p t T a b i I j J c m d y L M |loop p t T a i j c m d y=>
  refine(jq c Z #[bX,λl n=>#[l,_,Z,.inr (aA.of jc),Z,Z,_,Z,cq MS ?_]])
  refine(jq (ao c n) Z #[bX,λr N=>?_])
  exact q _ _ (jD jc (ji Z jM (ji Z Jn jC))) ((je n).trans (je N))
theorem Aj{fN:Addr}{fdN:FuncData}(F:aU K "names_in" "names_in" dX f b)(c:Cl P w K mg base (n+1) f b ["term"] (du n) "names_in")(m:mg "set"=none)(M:mg "sorted"=none):ah P w K mg base aE (n+2) f b ["term"] (sV K):=by
 refine F.ok su (λv H Q E h=>?_) (λC A o s H v Q E d h=>?_)
 ·obtain⟨a,rfl,_⟩:=h
  rfl
 obtain⟨a,rfl,g,q⟩:=h
 refine#[_,(jd (jx (jZ (jy (pv 0))) (jg (jo (jF jb))) jp) (jd (jx (jZ (jy (pv 0))) (jg (jo (jF (ja (jy (pv 0)) jb)))) jp) (jg (jo (jP (qd Z) Z M boot_sorted (ja (jE (qN Z) Z m boot_set (ja (ju qi (c.e d (ja (jy (pv 0)) jb)) (c.e d (ja (jy (pv 0)) jb))) jb)) jb)))))),?_]
 refine#[_,Z,a,_,_,_,Z,Z,g,Z,Z,_,Z,cq MS ?_]
 exact#[lW,λr N=>q r N]
theorem nL:al ["term"] ["term"] (aa iX):=bP
theorem pX(F:aU K "place_of_give" "place_of_give" iX f d)(C:Cl P w K mg base 7 U i ["term"] (du 6) "names_in"):ah P w K mg base aE 8 f d ["term"] gQ:=by
 refine F.ok nL ?_ λj A o s H V Q E l h=>?_
 ·rintro _ _ _ _ ⟨t,T,y,rfl,_⟩
  rfl
 refine aZ λR k=>?_
 obtain⟨t,T,y,rfl,p,O,b,q⟩:=h
 refine k ?_
 clear k
 refine#[_,(jg (jo (jh (ja (C.e l.m (ja (pv 0) jb)) (ja (jh (ja (jh jb) (ja (jh (ja jl (ja (pv 0) jb))) jb))) jb))))),?_]
 refine#[_,Z,t,T,y,Z,p,O.2,O.1,b,λg v a z B D M G I=>?_]
 have J:NL a g v (λx=>x∈T.vars) y:=#[B,#[D,G,M],kj O.1,b]
 refine#[lW,λe L=>#[_,Z,bX,λu c=>#[bX,λx N=>#[bX,λr n=>?_]]]]
 have S:ae a (af (af (af (af a e (.tup [])) u (.tup [.str "give",.ref t])) x (.tup [.ref e,.ref u])) r (.tup [.ref g,.ref x])):=(((je L).trans (je c)).trans (je N)).trans (je n)
 refine q _ g _ #[r,_,.ref x,Z,jc,J.same S,?_] z (I.trans S)
 exact jD (ao jc n) (ji Z (jD (ao (ao (ao jc c) N) n) jC) (ji Z (jD (ao (ao jc N) n) (ji Z jM (ji Z Jn jC))) jC))
theorem Al(F:aU K "place_of_give" "place_of_give" iX f j)(C:Cl P w K mg base 7 G l ["term"] (sV K) "names_in"):ah P w K mg base aE 8 f j ["term"] (sW K):=by
 refine F.ok nL ?_ λp A o s H V Q E v h=>?_
 ·rintro _ _ _ _ ⟨t,y,rfl,_⟩
  rfl
 refine aZ λI k=>?_
 obtain⟨t,y,rfl,z,B,q⟩:=h
 refine k ?_
 clear k
 refine#[_,(jg (jo (jh (ja (C.e v.m (ja (pv 0) jb)) (ja (jh (ja (jh jb) (ja (jh (ja jl (ja (pv 0) jb))) jb))) jb))))),?_]
 refine#[_,Z,t,Z,z,λg a=>?_]
 have b:ae H (af H g (.lst [])):=je a
 have c:NL (af H g (.lst [])) g [] (λx=>x∈(Tm.num 0).vars) y:=#[jc,#[LJ,Z,λx=>Mr],λx h=>absurd h Gh,B]
 generalize af H g (.lst [])=d at b c
 refine#[lW,λe D=>#[_,Z,bX,λu i=>#[bX,λx N=>#[bX,λr n=>?_]]]]
 have S:ae d (af (af (af (af d e (.tup [])) u (.tup [.str "give",.ref t])) x (.tup [.ref e,.ref u])) r (.tup [.ref g,.ref x])):=(((je D).trans (je i)).trans (je N)).trans (je n)
 refine q _ g _ #[r,_,.ref x,Z,jc,c.same S,?_] a (b.trans S)
 exact jD (ao jc n) (ji Z (jD (ao (ao (ao jc i) N) n) jC) (ji Z (jD (ao (ao jc N) n) (ji Z jM (ji Z Jn jC))) jC))
end K30
namespace K30
open PySem PySem.Spec PyProof.Rows L2
variable {P:Program}{w:World}{K:Frag}{mg:Str->Option Value}{base:Heap}
theorem u7{Y:List Str}:nq (.str x) (Y.map V.str)=decide (x∈Y):=by
 by_cases h:x∈Y
 ·rw[Gn h]
  unfold nq
  rw[List.any_eq_true]
  exact#[.str x,List.mem_map.mpr #[x,h,Z],by simp [lU]]
 ·rw[FY h]
  unfold nq
  rw[Bool.eq_false_iff]
  intro z
  rw[List.any_eq_true]at z
  obtain⟨v,a,e⟩:=z
  obtain⟨y,H,rfl⟩:=List.mem_map.mp a
  have E:x=y∨y=x:=by
   first
    |exact .inl (by simpa [lU] using e)
    |exact .inr (by simpa [lU] using e)
  rcases E with rfl |rfl
  ·exact h H
  ·exact h H
theorem Bq{H:Hp}{w:Wy}{v:V}(h:aS H (gI w) v []):∃(W s:Addr) (S:List V) (y:V),v= .ref W/\H W=some (.tup [.ref s,y])/\H s=some (.tup S)/\aS H (aJ (w.sets.map C9)) .non S/\aS H (uX w.goal) y []:=by
 obtain⟨_,W,x,rfl,a,_,_,l,b,e,⟨_,s,S,c,d,f⟩,_,_,g,Y,E,i,j⟩:=h
 have k:Y=[]:=j
 rw[k]at E
 rw[E]at e
 rw[e,c]at a
 exact#[W,s,S,g,Z,a,d,f,i]
theorem mG:al ["statement","behind","way"] ["statement","behind"] (aa rX):=bP
theorem vH(F:aU K "place_of_set" "place_of_set" rX f fd)(cU:Cl P w K mg base 10 fU f0 ["statement","behind"] (gH 0) "used_ahead_of"):ah P w K mg base aE 11 f fd ["statement","behind"] j':=by
 refine F.ok mG ?_ λc0 A O s H vs Q E hr h=>?_
 ·rintro _ _ _ _ ⟨v,bv,p,t,x,T,C,g,Y,rfl,_⟩
  rfl
 refine aZ λGq U=>?_
 obtain⟨v,bv,p,t,x,T,C,g,Y,rfl,X,hp,hx,ok,hl,q⟩:=h
 refine U ?_
 clear U
 refine#[_,(jd (jA 2 mG.nd (jy (pv 1))) (jd (jY (jx (jB zk (jy (pv 0)) (jy (pv 1)) Z) (jg (jA 2 mG.nd (jh (ja (ju j8 (jh (ja (jJ zh (pv 0) (jG jf) j7) jb)) (jy (pv 2))) (ja (jy (pv 2)) jb))))) jp)) (jg (jo (jh (ja (cU.e hr.m (ja (pv 0) (ja (jy (pv 1)) jb))) (ja (pv 2) jb))))))),?_]
 have b0:=aN
 obtain⟨r,ss,wv,rfl,b,B,hW⟩:=hp
 have h0:=X
 cases X with
 |lf _ _ vs h1 h2=>
  obtain⟨rfl,hT⟩:=h2
  obtain⟨wa,sa,sx,y,rfl,i,D,j,hy⟩:=Bq hW
  refine aj λF1 d=>(jq b Z (d _ _ ?_))
  clear d
  have sl:=kY j
  rw[Fy]at sl
  refine aj λF1 d=>dB (λl I=>∃W:V,l=[some (.ref p),some (.ref r),some W]/\aS I (gI (hV x t C)) W []/\ae H I) (λE2 _ fm=>?_) λl I h=>?_
  ·clear d
   refine u6 λG kT kF=>(jq h1 Z (jq b Z #[g,_,Z,.inl (aP.of B.at'),Z,Qx _,_,Z,?_]))
   rw[u7]
   by_cases a:x∈ss
   ·rw[Gn a]
    refine kT _ #[_,Z,_,Z,p,_,Z,h1,λs1 H1 J k1=>#[lO,λu nu=>?_]]
    have L:=k1.trans (je (o:=.tup [.ref s1]) nu)
    refine(jq (L _ _ i) Z #[u,sa,_,_,Z,Z,jc,L _ _ D,by show 1+sx.length<=_;omega,λc H2 hc z=>?_])
    have R:=L.trans z
    refine(jq (R _ _ i) Z #[bX,λnw n=>fm _ _ #[.ref nw,Z,?_,R.trans (je n)]])
    have tm:=ae.tm (R.trans (je (o:=.tup [.ref c,y]) n))
    unfold hV
    rw[FQ ((B.nm.mem x).mp a)]
    refine jD jc (ji Z (jD (ao hc n) (ji Z ?_ (j.mono tm))) (ji (yD _) (hy.mono tm) jC))
    exact jD (ao (z _ _ (ao J nu)) n) (ji Z jM (ji Z Jn jC))
   ·rw[FY a]
    refine kF _ (fm _ _ #[_,Z,?_,ae.refl _])
    unfold hV
    rw[FV λw=>a ((B.nm.mem x).mpr w)]
    exact hW
  ·obtain⟨W,rfl,S,k⟩:=h
   refine d _ _ ?_
   clear d
   refine#[_,Z,jq (k _ _ b) Z #[.ref p,g,.lf p (.st x t T) .nil,ss,C.M,Y,Z,h0.mono (ae.tm k),B.same k,#[#[hx,ok],Gg],(by show 0 < 1;decide),(by show 0+1<=10000000;decide),λg' zs H3 n3 N3 z=>?_]]
   refine#[_,Z,bX,λr' N=>q _ g' _ #[r',zs,W,Z,jc,N3.same (je N),S.mono (ae.tm (z.trans (je N)))] (k.free n3) ((k.trans z).trans (je N))]
noncomputable abbrev wj:Stmt:=cj (bQ 50) 1
noncomputable abbrev wq:Stmt:=cj (bQ 50) 2
noncomputable abbrev wm:Stmt:=cj (bQ 50) 3
noncomputable abbrev wz:Stmt:=cj (bQ 50) 4
noncomputable abbrev rR:Stmt:=cj (bQ 50) 0
noncomputable def pL(m:Int)(p:Addr)(l:Lf)(q:Pc×List Ct):Pc×List Ct:=match l with
 | .gv t T=>(#[λx=>x∈T.vars,#[[],.give t]],q.2)
 | .st x t T=>(#[(Lf.st x t T).use q.1.M,hV x t q.1],q.2)
 | .rd x t T=>(#[(Lf.rd x t T).use q.1.M,#[[],.go (m - (q.2.length:Int) - 1)]],q.2++[#[(Lf.rd x t T).use q.1.M,.st p,[q.1.w]]])
 | .wr t u T U=>(#[(Lf.wr t u T U).use q.1.M,#[[],.go (m - (q.2.length:Int) - 1)]],q.2++[#[(Lf.wr t u T U).use q.1.M,.st p,[q.1.w]]])
 | .cl x f a b=>(#[(Lf.cl x f a b).use q.1.M,#[[],.go (m - (q.2.length:Int) - 1)]],q.2++[#[(Lf.cl x f a b).use q.1.M,.st p,[q.1.w]]])
noncomputable def pB(m:Int):Bd->Pc->List Ct->Pc×List Ct
 | .nil,c,f=>(c,f)
 | .lf p l r,c,f=>pL m p l (pB m r c f)
 | .ite p t T a b r,c,f=>
  let q:=pB m r c f
  let o:=pB m b q.1 q.2
  let s:=pB m a q.1 o.2
  (#[(Bd.ite p t T a b .nil).use q.1.M,#[[],.go (m - (q.2.length:Int) - ((Bd.ite p t T a b .nil).cuts:Int))]],s.2++[#[(Bd.ite p t T a b .nil).use q.1.M,.ask t,[s.1.w,o.1.w]]])
 | .loop p t T a r,c,f=>
  let q:=pB m r c f
  let d:Pc:=#[(Bd.loop p t T a .nil).use q.1.M,#[[],.go (m - (q.2.length:Int) - ((Bd.loop p t T a .nil).cuts:Int))]]
  let s:=pB m a d q.2
  (d,s.2++[#[(Bd.loop p t T a .nil).use q.1.M,.ask t,[s.1.w,q.1.w]]])
theorem Kh(m:Int):∀(a b:Bd) (c:Pc) (f:List Ct),pB m (a.app b) c f=pB m a (pB m b c f).1 (pB m b c f).2
 | .nil,_,_,_=>rfl
 | .lf p l r,b,c,f=>by show pL m p l (pB m (r.app b) c f)=pL m p l (pB m r _ _);rw[Kh m r b c f]
 | .ite p t T x y r,b,c,f=>by
  have e:=Kh m r b c f
  show pB m (.ite p t T x y (r.app b)) c f=_
  unfold pB
  rw[e]
 | .loop p t T x r,b,c,f=>by
  have e:=Kh m r b c f
  show pB m (.loop p t T x (r.app b)) c f=_
  unfold pB
  rw[e]
theorem kc(m:Int):∀(b:Bd) (c:Pc) (F:List Ct),(pB m b c F).2.length=F.length+b.cuts
 | .nil,_,_=>rfl
 | .lf p l r,c,F=>by
  have e:=kc m r c F
  show(pL m p l (pB m r c F)).2.length=F.length+(l.cut+r.cuts)
  cases l with
  |rd x t T |wr t u T U |cl x f a d=>show((pB m r c F).2++[_]).length=F.length+(1+r.cuts);rw[FD,e];show _+1=_;omega
  |st x t T |gv t T=>show(pB m r c F).2.length=F.length+(0+r.cuts);omega
 | .ite p t T x y r,c,F=>by
  have e:=kc m r c F
  show((pB m x _ (pB m y _ _).2).2++[_]).length=_
  rw[FD,kc m x,kc m y,e]
  show _+1=F.length+(1+x.cuts+y.cuts+r.cuts)
  omega
 | .loop p t T x r,c,F=>by
  have e:=kc m r c F
  show((pB m x _ _).2++[_]).length=_
  rw[FD,kc m x,e]
  show _+1=F.length+(1+x.cuts+r.cuts)
  omega
theorem Xm(x:Str)(t:Addr)(p:Pc):(hV x t p).sets.length<=p.w.sets.length+1:=by
 unfold hV
 split
 ·exact Fz _
 ·exact Hs _
theorem Y3(m:Int):∀(b:Bd) (a:Pc) (f:List Ct),(pB m b a f).1.w.sets.length<=a.w.sets.length+b.size
 | .nil,_,_=>Fz _
 | .lf p l r,a,f=>by
  have e:=Y3 m r a f
  show(pL m p l (pB m r a f)).1.w.sets.length<=a.w.sets.length+(r.size+1)
  cases l with
  |st x t T=>have:=Xm x t (pB m r a f).1;show(hV x t (pB m r a f).1).sets.length<=_;omega
  |_=>exact FN _
 | .ite p t T x y r,a,f=>FN _
 | .loop p t T x r,a,f=>FN _
theorem kG:∀b:Bd,b.cuts<=b.size
 | .nil=>Fz _
 | .lf _ l r=>by
  have:=kG r
  have h:l.cut<=1:=by cases l<;>first |exact Fz _ |exact FN _
  show l.cut+r.cuts<=r.size+1
  omega
 | .ite _ _ _ a b r=>by have:=kG a;have:=kG b;have:=kG r;show 1+a.cuts+b.cuts+r.cuts<=a.size+b.size+r.size+1;omega
 | .loop _ _ _ a r=>by have:=kG a;have:=kG r;show 1+a.cuts+r.cuts<=a.size+r.size+1;omega
structure CK(K:Frag)(C:Addr):Prop where
 cl:ou K C
 nm:bN K C "many"
 nf:bN K C "found"
structure Cg(H:Hp)(C ia dx fa:Addr)(m:Int)(cts:List Ct)(cs:List V):Prop where
 ins:H ia=some (.ins C dx [("many",.int m),("found",.ref fa)])
 fd:H fa=some (.lst cs)
 tr:aS H (aJ (cts.map BW)) .non cs
theorem Cg.same(h:Cg H C i d f m c a)(s:ae H b):Cg b C i d f m c a:=#[s _ _ h.ins,s _ _ h.fd,h.tr.mono (ae.tm s)]
theorem Cg.len(h:Cg H C i d f m c a):a.length=c.length:=by rw[kY h.tr,Fy]
theorem Cg.tm(h:Cg H C i d f m c g)(k:au f H a):ai H a:=λb x e=>k b _ (jO e h.fd (by intro z;cases z)) e
structure ur(H:Hp)(C ia dx fa:Addr)(m:Int)(cts:List Ct)(cs:List V)(pc:Pc)(bv:V)(g:Addr)(ys:List Str)(b:Bd):Prop where
 c:Cg H C ia dx fa m cts cs
 p:lT H pc bv g ys
 ng:g≠fa
 ok:b.Ok ys
 sz:cts.length+pc.w.sets.length+b.size<=10000000
def oE(H:Hp)(C i d f:Addr)(m:Int)(y:List Str)(q:Pc×List Ct)(Q:VK):Prop:=∀(v:V) (g:Addr) (c:List V) (h:Hp),lT h q.1 v g y->g≠f->Cg h C i d f m q.2 c->au f H h->Q v h
def mQ(C:Addr)(n:Nat):Sp:=λv H Q _=>∃(i d f a g:Addr) (m:Int) (c:List Ct) (e x:List V) (p:Pc) (B:V) (y:List Str) (b:Bd),v=[.ref i,.ref a,B]/\ur H C i d f m c e p B g y b/\H a=some (.tup x)/\dw H b x/\b.dep < n/\oE H C i d f m y (pB m b p c) Q
def De(C:Addr)(n:Nat):Sp:=λa H Q _=>∃(i d f g:Addr) (m:Int) (c:List Ct) (e:List V) (p:Pc) (v b:V) (y:List Str) (s:Bd),a=[.ref i,v,b]/\ur H C i d f m c e p b g y s/\gJ H v s/\s.dep < n+1/\oE H C i d f m y (pB m s p c) Q
noncomputable def Bd.isCut:Bd->Bool
 | .lf _ l _=>l.isCut
 | .nil=>false
 |_=>true
def Bf(C:Addr)(n:Nat):Sp:=λa H Q _=>∃(i d f g:Addr) (m:Int) (c:List Ct) (e:List V) (p:Pc) (v b:V) (y:List Str) (s:Bd),a=[.ref i,v,b]/\ur H C i d f m c e p b g y s/\gJ H v s/\s.dep < n+1/\s.isCut=true/\oE H C i d f m y (pB m s p c) Q
noncomputable def gu(m:Int)(c:Pc)(p:Pc)(f:List Ct):Bd->List Wy×List Ct
 | .ite _ _ _ a b _=>([(pB m a p (pB m b p f).2).1.w,(pB m b p f).1.w],(pB m a p (pB m b p f).2).2)
 | .loop _ _ _ a _=>([(pB m a c f).1.w,p.w],(pB m a c f).2)
 |_=>([p.w],f)
def Dg(C:Addr)(n:Nat):Sp:=λe H Q _=>∃(i d f g G:Addr) (m:Int) (c:List Ct) (j:List V) (a p:Pc) (v B pv:V) (y:List Str) (s:Bd),e=[.ref i,v,pv,B]/\ur H C i d f m c j a B g y s/\lT H p pv G y/\G≠f/\p.w.sets=[]/\gJ H v s/\s.dep < n+1/\
 ∀(W:V) (b:List V) (h:Hp),aS h (aQ ((gu m p a c s).1.map gI)) W []->Cg h C i d f m (gu m p a c s).2 b->au f H h->Q W h
theorem XV(h:gJ H v s)(g:s.isCut=true)(m:Int)(c:Pc)(F:List Ct):
  pB m s c F=(#[s.use c.M,#[[],.go (m - (F.length:Int) - (s.cuts:Int))]],(gu m #[s.use c.M,#[[],.go (m - (F.length:Int) - (s.cuts:Int))]] c F s).2++[#[s.use c.M,s.deed,(gu m #[s.use c.M,#[[],.go (m - (F.length:Int) - (s.cuts:Int))]] c F s).1]]):=by
 cases h with
 |lf p l V d e=>
  cases l with
  |rd x t T |wr t u T U |cl x f a k=>rfl
  |st x t T |gv t T=>cases g
 |ite p t T a b q Q A B d i e j n o |loop p t T a q A d i e j=>rfl
theorem tW(h:lT H p v g y):∃(r:Addr) (W:V),v= .ref r/\H r=some (.tup [.ref g,W])/\aS H (gI p.w) W []:=by
 obtain⟨r,s,W,e,a,c,b⟩:=h
 exact#[r,W,e,a,b]
theorem C6:al ["self","statement","place","behind","other"] ["self","statement","place","behind"] (aa wz):=bP
theorem CH(F:aU K "ways_of" "Cutting.ways_of" wz f fd)(X:CK K C)(GB:ah P w K mg base aE (4*n+31) fB f0 ["self","body","behind"] (mQ C n))(bB:ay K f0 ["self","body","behind"] [])(hB:ci K C "place_of_body" fB):ah P w K mg base aE (4*n+32) f fd ["self","statement","place","behind"] (Dg C n):=by
 refine F.ok C6 ?_ λc3 A o1 s H vs Q E hr h=>?_
 ·rintro _ _ _ _ ⟨i,D,R,g,g2,m,d,S,y,pl,v,bv,pv,Y,s,rfl,_⟩
  rfl
 refine aZ λGq kq=>?_
 obtain⟨i,D,R,g,g2,m,d,S,y,pl,v,bv,G,Y,st,rfl,I,h6,n0,h7,hs,hd,q⟩:=h
 refine kq ?_
 clear kq
 refine#[_,(jd (jx (jZ (jy (pv 1))) (jd (jA 4 C6.nd (kQ (pv 0) X.cl hB GB hr.m bB .nil bL (ja (jy (pv 1)) (ja (pv 3) jb)))) (jg (jo (jh (ja (jv j5 (kQ (pv 0) X.cl hB GB hr.m bB .nil bL (ja (jy (pv 1)) (ja (pv 3) jb))) jf (λ_ _=>Z)) (ja (jy (pv 4)) jb)))))) jp) (jd (jx (jZ (jy (pv 1))) (jg (jo (jh (ja (jv j5 (kQ (pv 0) X.cl hB GB hr.m bB .nil bL (ja (jy (pv 1)) (ja (pv 2) jb))) jf (λ_ _=>Z)) (ja (jy (pv 3)) jb))))) jp) (jg (jo (jh (ja (jy (pv 3)) jb)))))),?_]
 have b0:=aN
 obtain⟨br,bw,rfl,J,L⟩:=tW I.p
 cases hs with
 |lf p l vs e M=>
  have f2:eF (b6 (am (dJ (gr K) (be 3) (tC (V.int 1))) aT)) { nx:=λx H'=>Q V.non H',rt:=Q } [some (.ref i),some (.ref p),some G,some (.ref br),none] H:=by
   refine(jq J Z #[lO,λr N=>q (.ref r) S _ (jD jc (ji Z (L.mono (ae.tm (je N))) jC)) (I.c.same (je N)) (au.of_same (je N))])
  cases l with
  |rd x t T |st x t T |wr t u T U |cl x f q2 ts |gv t T=>
   obtain⟨rfl,_⟩:=M
   refine(jq e Z #[Z,_,Z,aO MS ?_])
   refine(jq e Z #[Z,_,Z,aO MS ?_])
   exact f2
 |ite p t T a b qa qb as bs e h0 M h3 h4 h5=>
  refine(jq e Z #[Z,_,Z,cq MS ?_])
  have h8:max (max a.dep b.dep+1) 0 < n+1:=hd
  have hz:d.length+y.w.sets.length+(a.size+b.size+0+1)<=10000000:=I.sz
  have W:=I.ok
  refine aj λF1 f1=>#[_,Z,i,D,_,Z,I.c.ins,Z,jq e Z #[_,Z,i,D,R,qb,g,m,d,S,bs,y,.ref br,Y,b,Z,#[I.c,I.p,I.ng,W.2.2.1,MP],h3,h5,MP,λv1 g1 j H1 p1 n1 O z=>f1 _ _ ?_]]
  clear f1
  have B:=I.c.tm z
  have lc:=kc m b y d
  have cb:=kG b
  refine#[_,Z,i,D,_,Z,O.ins,Z,jq (B _ _ e) Z #[_,Z,i,D,R,qa,g,m,_,j,as,y,.ref br,Y,a,Z,#[O,I.p.but z I.c.fd I.ng,I.ng,W.2.1,MP],B _ _ M,h4.mono B,MP,λv2 g2 c0 H2 p2 n2 c2 k2=>?_]]
  obtain⟨r2,w2,rfl,h',a0⟩:=tW p2
  obtain⟨r1,w1,rfl,k,o⟩:=tW (p1.but k2 O.fd n1)
  refine#[r2,_,_,_,Z,Z,aA.of h',Z,jq k Z #[bX,λr N=>q (.ref r) c0 _ (jD jc (ji Z (a0.mono (ae.tm (je N))) (ji Z (o.mono (ae.tm (je N))) jC))) (c2.same (je N)) ((z.trans k2).trans (au.of_same (je N)))]]
 |loop p t T a qa as e h0 M h3=>
  refine(jq e Z #[Z,_,Z,aO MS ?_])
  refine(jq e Z #[Z,_,Z,cq MS ?_])
  have h8:max (a.dep+1) 0 < n+1:=hd
  have hz:d.length+y.w.sets.length+(a.size+0+1)<=10000000:=I.sz
  have W:=I.ok
  refine#[_,Z,i,D,_,Z,I.c.ins,Z,jq e Z #[_,Z,i,D,R,qa,g2,m,d,S,as,pl,G,Y,a,Z,#[I.c,h6,n0,W.2.1,by rw[h7];show d.length+0+a.size<=_;omega],M,h3,MP,λv1 g1 j H1 p1 n1 O z=>?_]]
  obtain⟨r1,w1,rfl,k,o⟩:=tW p1
  have B:=I.c.tm z
  refine#[r1,_,_,_,Z,Z,aA.of k,Z,jq (B _ _ J) Z #[bX,λr N=>q (.ref r) j _ (jD jc (ji Z (o.mono (ae.tm (je N))) (ji Z ((L.mono B).mono (ae.tm (je N))) jC))) (O.same (je N)) (z.trans (au.of_same (je N)))]]
theorem si:al ["self","statement","behind","n","names","place","ways"] ["self","statement","behind"] (aa wm):=bP
theorem CD(F:aU K "place_of_cut" "Cutting.place_of_cut" wm f fd)(y:CK K C)(h7:n<=7)(GW:ah P w K mg base aE (4*n+32) fW f0 ["self","statement","place","behind"] (Dg C n))(bW:ay K f0 ["self","statement","place","behind"] [])(hW:ci K C "ways_of" fW)(cM:Cl P w K mg base 2 fM f2 ["body"] h9 "many_cuts")(cU:Cl P w K mg base 31 fU f3 ["statement","behind"] (gH 7) "used_ahead_of")(cD:Cl P w K mg base 1 fD f4 ["statement"] i7 "deed_of")(ml:mg "len"=none)(m0:mg "tuple"=none):ah P w K mg base aE (4*n+33) f fd ["self","statement","behind"] (Bf C n):=by
 refine F.ok si ?_ λc0 A o1 s H vs Q E Y h=>?_
 ·rintro _ _ _ _ ⟨z,L,l,g,m,a,cs,j,v,bv,ys,s,rfl,_⟩
  rfl
 refine aZ λGq kq=>?_
 obtain⟨z,L,l,g,m,a,cs,j,v,bv,ys,st,rfl,I,B,hd,hc,q⟩:=h
 refine kq ?_
 clear kq
 refine#[_,(jd (jA 3 si.nd (ju kL (ju kL (zo (pv 0) Z) (jP jK Z ml Hi (ja (zo (pv 0) Z) jb))) (cM.e Y.m (ja (jh (ja (pv 1) jb)) jb)))) (jd (jA 4 si.nd (cU.e Y.m (ja (pv 1) (ja (jy (pv 2)) jb)))) (jd (jA 5 si.nd (jh (ja (pv 4) (ja (jh (ja (jh jb) (ja (jh (ja jl (ja (pv 3) jb))) jb))) jb)))) (jd (jA 6 si.nd (kQ (pv 0) y.cl hW GW Y.m bW .nil bL (ja (pv 1) (ja (pv 5) (ja (pv 2) jb))))) (jd (jT (kN F8 Gk Gj jR (zo (pv 0) Z) (ja (jh (ja (jE jH Z m0 Ig (ja (pv 4) jb)) (ja (cD.e Y.m (ja (pv 1) jb)) (ja (pv 6) jb)))) jb))) (jg (jo (pv 5)))))))),?_]
 have b0:=aN
 obtain⟨br,ss,bw,rfl,h0,hN,h1⟩:=id I.p
 have hz:=I.sz
 have lc:=I.c.len
 refine aj λF1 i=>#[_,Z,z,C,L,_,_,Z,I.c.ins,y.cl,y.nm,Z,_,Z,z,C,L,_,_,Z,I.c.ins,y.cl,y.nf,Z,l,_,Z,.inl (aP.of I.c.fd),_,_,Z,Z,_,Z,lO,λu nu=>?_]
 have s1:ae H (af H u (.tup [v])):=je nu
 refine#[u,st,_,Z,jc,(B.mono (ae.tm s1)).bd,MP,λH1 k1=>#[_,_,Z,Z,i _ _ ?_]]
 clear i
 have S:=s1.trans k1
 rw[lc]
 refine aj λF1 i=>#[_,Z,jq (S _ _ h0) Z #[v,g,st,ss,j.M,ys,Z,B.mono (ae.tm S),hN.same S,I.ok,MP,MP,λG zs H2 n2 N2 k2=>i _ _ ?_]]
 clear i
 have s3:=S.trans k2
 have N:G≠l:=λe=>by rw[e,S _ _ I.c.fd]at n2;cases n2
 refine aj λF1 i=>#[_,Z,lW,λe ne=>#[_,Z,bX,λU O=>#[bX,λx nx=>#[bX,λr nr=>i _ _ ?_]]]]
 clear i
 have s4:ae H2 (af (af (af (af H2 e (.tup [])) U (.tup [.str "go",.int (m - (a.length:Int) - (st.cuts:Int))])) x (.tup [.ref e,.ref U])) r (.tup [.ref G,.ref x])):=(((je ne).trans (je O)).trans (je nx)).trans (je nr)
 have P4:lT (af (af (af (af H2 e (.tup [])) U (.tup [.str "go",.int (m - (a.length:Int) - (st.cuts:Int))])) x (.tup [.ref e,.ref U])) r (.tup [.ref G,.ref x])) #[st.use j.M,#[[],.go (m - (a.length:Int) - (st.cuts:Int))]] (.ref r) G ys:=
  #[r,zs,.ref x,Z,jc,N2.same s4,jD (ao jc nr) (ji Z (jD (ao (ao (ao jc O) nx) nr) jC) (ji Z (jD (ao (ao jc nx) nr) (ji Z jM (ji Z jS jC))) jC))]
 generalize af (af (af (af H2 e (.tup [])) U (.tup [.str "go",.int (m - (a.length:Int) - (st.cuts:Int))])) x (.tup [.ref e,.ref U])) r (.tup [.ref G,.ref x])=H4 at s4 P4
 have R:=s3.trans s4
 have c5:=I.c.same R
 refine aj λF1 i=>#[_,Z,z,L,_,Z,c5.ins,Z,_,Z,_,Z,_,Z,z,L,l,g,G,m,a,cs,j,_,v,.ref br,.ref r,ys,st,Z,#[c5,I.p.same R,I.ng,I.ok,I.sz],P4,N,Z,B.mono (ae.tm R),hd,λwv D H6 w6 c6 k6=>i _ _ ?_]
 clear i
 have t0:=c5.tm k6
 have p6:=P4.but k6 c5.fd N
 have z6:H6 G=some (.lst (zs.map V.str)):=k6 _ _ N (s4 _ _ N2.at')
 have ez:=N2.nm.canon
 have l6:=c6.len
 have lw:(gu m #[st.use j.M,#[[],.go (m - (a.length:Int) - (st.cuts:Int))]] j a st).2.length+1=a.length+st.cuts:=by
  have:=kc m st j a
  rw[XV B hc m j a,FD]at this
  exact this
 have cl:=kG st
 refine aj λF1 i=>#[_,Z,z,C,L,_,_,Z,c6.ins,y.cl,y.nf,Z,.inl #[Z,_,aP.of c6.fd],_,Z,G,_,Z,.inl #[aP.of z6,λnt n0=>?_]]
 have s7:ae H6 (af H6 nt (.tup (zs.map V.str))):=je n0
 refine#[_,Z,v,st,Z,((B.mono (ae.tm R)).mono t0).mono (ae.tm s7),λd H8 d8 k8=>#[_,Z,gm,λW J=>?_]]
 have X:=(s7.trans k8).trans (je (o:=.tup [.ref nt,d,wv]) J)
 have t:=c6.same X
 refine#[l,D,_,Z,Z,t.fd,MP,i _ _ ?_]
 clear i
 have T9:aS (af H8 W (.tup [.ref nt,d,wv])) (BW #[st.use j.M,st.deed,(gu m #[st.use j.M,#[[],.go (m - (a.length:Int) - (st.cuts:Int))]] j a st).1]) (.ref W) []:=by
  refine jD jc (ji Z (jD (ao (k8 _ _ jc) J) ?_) (ji (BY _) (d8.mono (ae.tm (je J))) (ji Z (w6.mono (ae.tm X)) jC)))
  rw[<- ez]
  exact Xl zs
 have p9:=p6.same X
 generalize af H8 W (.tup [.ref nt,d,wv])=H9 at X t T9 p9
 have k:au l H9 (af H9 l (.lst (D++[.ref W]))):=λb o nb e=>by rw[jk nb];exact e
 have T:=t.tm k
 have n1:z≠l:=λe=>by have:=t.ins;rw[e,t.fd]at this;cases this
 refine#[_,Z,q (.ref r) G (D++[.ref W]) _ ?_ N ?_ (λb o nb e=>k b o nb (X _ _ (k6 b o nb (R _ _ e))))]
 ·rw[XV B hc m j a]
  exact p9.but k t.fd N
 ·rw[XV B hc m j a]
  refine#[k _ _ n1 t.ins,jc,?_]
  rw[Gm]
  exact JU (ji Z (T9.mono T) jC) (t.tr.mono T)
inductive BI(C ia dx fa a:Addr)(m:Int)(cts:List Ct)(pc:Pc)(bv:V)(ys:List Str)(b:Bd)(xs:List V)(H:Hp)(i:Nat)(σ:L2.St)(H':Hp):Prop
 |mk (pre eY:Bd) (v:V) (g:Addr) (cs:List V) (o4:Option V) (e0:σ=[some (.ref ia),some (.ref a),some bv,some v,o4]) (e1:b=pre.app eY) (e2:dw H pre (xs.take (xs.length - i))) (e3:lT H' (pB m eY pc cts).1 v g ys) (e4:g≠fa) (e5:Cg H' C ia dx fa m (pB m eY pc cts).2 cs) (e6:au fa H H'):BI C ia dx fa a m cts pc bv ys b xs H i σ H'
theorem JV(m:Int):∀(b:Bd) (c:Pc) (F:List Ct),(pB m b c F).2.length+(pB m b c F).1.w.sets.length<=F.length+c.w.sets.length+b.size
 | .nil,_,_=>Fz _
 | .lf p l r,c,F=>by
  have e:=JV m r c F
  show(pL m p l (pB m r c F)).2.length+(pL m p l (pB m r c F)).1.w.sets.length<=F.length+c.w.sets.length+(r.size+1)
  cases l with
  |st x t T=>have:=Xm x t (pB m r c F).1;show(pB m r c F).2.length+(hV x t (pB m r c F).1).sets.length<=_;omega
  |gv t T=>show(pB m r c F).2.length+0<=_;omega
  |rd x t T |wr t u T U |cl x f a d=>show((pB m r c F).2++[_]).length+0<=_;rw[FD];show _+1+0<=_;omega
 | .ite p t T x y r,c,F=>by
  have e:=JV m r c F
  have h:=kG x
  have H:=kG y
  show((pB m x _ (pB m y _ _).2).2++[_]).length+0<=F.length+c.w.sets.length+(x.size+y.size+r.size+1)
  rw[FD,kc m x,kc m y]
  show _+1+0<=_
  omega
 | .loop p t T x r,c,F=>by
  have e:=JV m r c F
  have h:=kG x
  show((pB m x _ _).2++[_]).length+0<=F.length+c.w.sets.length+(x.size+r.size+1)
  rw[FD,kc m x]
  show _+1+0<=_
  omega
theorem En:al ["self","statement","behind"] ["self","statement","behind"] (aa wq):=bP
theorem CG(F:aU K "place_of" "Cutting.place_of" wq f fd)(ck:CK K C)(GC:ah P w K mg base aE (4*n+33) fC D ["self","statement","behind"] (Bf C n))(bC:ay K D ["self","statement","behind"] [])(hC:ci K C "place_of_cut" fC)(cG:Cl P w K mg base 8 fG f0 ["term"] gQ "place_of_give")(cS:Cl P w K mg base 11 fS f1 ["statement","behind"] j' "place_of_set"):ah P w K mg base aE (4*n+34) f fd ["self","statement","behind"] (De C n):=by
 refine F.ok En ?_ λc0 A O s H vs Q E G h=>?_
 ·rintro _ _ _ _ ⟨r,J,fa,g,m,j,z,L,v,B,y,s,rfl,_⟩
  rfl
 refine aZ λGq kq=>?_
 obtain⟨r,J,fa,g,m,j,z,L,v,B,y,st,rfl,I,M,hd,q⟩:=h
 refine kq ?_
 clear kq
 refine#[_,(jd (jx (jZ (jy (pv 1))) (jg (jo (cG.e G.m (ja (jy (pv 1)) jb)))) jp) (jd (jx (jZ (jy (pv 1))) (jg (jo (cS.e G.m (ja (pv 1) (ja (pv 2) jb))))) jp) (jg (jo (kQ (pv 0) ck.cl hC GC G.m bC .nil bL (ja (pv 1) (ja (pv 2) jb))))))),?_]
 have hz:=I.sz
 have R:=M
 have i:st.isCut=true->eF (tG C "place_of_cut" (Bf C n) [] E0 (be 0) (am (be 1) (am (be 2) aT))) { nx:=λx k=>Q V.non k,rt:=Q } [some (.ref r),some v,some B] H:=λhc=>
  #[_,Z,r,J,_,Z,I.c.ins,Z,_,Z,_,Z,r,J,fa,g,m,j,z,L,v,B,y,st,Z,I,M,hd,hc,q]
 cases M with
 |lf p l vs d o=>
  cases l with
  |rd x t T |wr t u T U |cl x f q2 ts=>
   obtain⟨rfl,_⟩:=o
   refine(jq d Z #[Z,_,Z,aO MS ?_])
   refine(jq d Z #[Z,_,Z,aO MS ?_])
   exact i Z
  |gv t T=>
   obtain⟨rfl,hT⟩:=o
   refine(jq d Z #[Z,_,Z,cq MS ?_])
   clear i
   have Y:y.length<=21:=by obtain⟨_,_,_,_,_,hN,_⟩:=I.p;exact hN.y20
   exact(jq d Z #[t,T,y,Z,hT,I.ok.1,Y,λW X k p' N S=>q W X z k p' (λe=>by rw[e,I.c.fd]at N;cases N) (I.c.same S) (au.of_same S)])
  |st x t T=>
   obtain⟨rfl,hT⟩:=o
   refine(jq d Z #[Z,_,Z,aO MS ?_])
   refine(jq d Z #[Z,_,Z,cq MS ?_])
   clear i
   exact#[_,Z,_,Z,.ref p,B,p,t,x,T,L,g,y,Z,R,I.p,I.ok.1.1,I.ok.1.2,MP,λW X k p' N S=>q W X z k p' (λe=>by rw[e,I.c.fd]at N;cases N) (I.c.same S) (au.of_same S)]
 |ite p t T a b qa qb as bs d h0 o h3 h4 h5 |loop p t T a qa as d h0 o h3=>
  refine(jq d Z #[Z,_,Z,aO MS ?_])
  refine(jq d Z #[Z,_,Z,aO MS ?_])
  exact i Z
theorem wC:al ["self","body","behind","place","statement"] ["self","body","behind"] (aa wj):=bP
theorem CC(F:aU K "place_of_body" "Cutting.place_of_body" wj f fd)(ck:CK K C)(GO:ah P w K mg base aE (4*n+34) fO T ["self","statement","behind"] (De C n))(bO:ay K T ["self","statement","behind"] [])(hO:ci K C "place_of" fO)(R:mg "reversed"=none):ah P w K mg base aE (4*n+35) f fd ["self","body","behind"] (mQ C (n+1)):=by
 refine F.ok wC ?_ λc1 A U s H vs Q E hr h=>?_
 ·rintro _ _ _ _ ⟨r,J,V,a,g,m,d,cs,xs,l,L,Y,b,rfl,_⟩
  rfl
 refine aZ λGq t=>?_
 obtain⟨r,J,V,a,g,m,d,cs,xs,l,L,Y,b,rfl,I,ha,hb,hd,q⟩:=h
 refine t ?_
 clear t
 refine#[_,(jd (jA 3 wC.nd (pv 2)) (jd (j9 Gv Z (@rh _ _ _ _ _ _ _ Z R boot_reversed (pv 1) MO MO MT MT) (jw (i:=4) wC.nd Z (Or.inl Z)) (jg (jA 3 wC.nd (kQ (pv 0) ck.cl hO GO hr.m bO .nil bL (ja (pv 4) (ja (pv 3) jb)))))) (jg (jo (pv 3))))),?_]
 have b0:=aN
 have hz:=I.sz
 have xl:=hb.len
 refine aj λF1 u=>#[_,Z,u _ _ ?_]
 clear u
 refine aj λF1 u=>?_
 refine eB λF kF=>#[_,Z,a,xs,Z,aA.of ha,kF _ _ ?_]
 clear kF
 refine Xh (K:=K) (xs:=xs) (BI C r J V a m d l L Y b xs H) #[b,.nil,L,g,cs,_,Z,(qV b).symm,by rw[Mb,Gz];exact hb,I.p,I.ng,I.c,au.refl] (λi σ H' hi h=>?_) ?_ (λσ H' h=>u _ _ ?_)
 ·obtain⟨_,_,_,_,_,_,_,_,_,_,_,_,k⟩:=h
  exact aA.of (I.c.tm k _ _ ha)
 ·clear u
  intro E _ i x σ H2 M fE Gq t h
  obtain⟨pre,eY,v,W,o,o4,rfl,j,y,X,h4,N,O⟩:=h
  have hi:i < xs.length:=by
   rcases Lo i xs.length with z |z
   ·exact z
   ·rw[Hc (by simpa using z)]at M;cases M
  rw[IU hi]at M
  have et:xs.take (xs.length - i)=xs.take (xs.length - (i+1))++[x]:=by
   have D:xs.length - i=(xs.length - 1 - i)+1:=by omega
   have e2:xs.length - (i+1)=xs.length - 1 - i:=by omega
   rw[D,e2,GP,M]
   rfl
  rw[et]at y
  rcases y.last with ⟨e,_⟩ | ⟨ws,v',B,S,D,e2,h6,h7⟩
  ·exact absurd e MQ
  obtain⟨ew,ev⟩:=List.append_inj' D Z
  cases ev
  subst e2
  have h0:=zJ (j▸I.ok)
  have G:=zJ h0.1
  have a1:b.dep=max (B.app S).dep eY.dep:=by rw[j,zi]
  have a2:(B.app S).dep=max B.dep S.dep:=zi ..
  have h8:S.dep<=b.dep:=by rw[a1,a2];exact FL (Lj ..) (Lw ..)
  clear a1 a2
  have h':b.size=B.size+S.size+eY.size:=by rw[j,jV,jV]
  have hl:=kc m eY l d
  have a0:=kG eY
  have a3:=Y3 m eY l d
  have a4:(pB m eY l d).1.w.sets.length+(pB m eY l d).2.length+S.size<=10000000:=by have:=JV m eY l d;omega
  refine t ?_
  clear t
  have tm:=I.c.tm O
  show dC _ _ E [some (.ref r),some (.ref a),some L,some v,some x] H2
  refine#[_,Z,r,J,_,Z,N.ins,Z,_,Z,_,Z,r,J,V,W,m,_,o,_,x,v,Y,S,Z,#[N,X,h4,G.2,MP],h7.mono tm,MP,λv3 g3 c0 H3 p3 n3 c3 k3=>fE _ _ #[B,S.app eY,v3,g3,c0,_,Z,by rw[j,zP],?_,by rw[Kh];exact p3,n3,by rw[Kh];exact c3,O.trans k3]]
  rw[ew]
  exact h6
 ·obtain⟨pre,eY,v,W,o,o4,rfl,j,y,X,h4,N,O⟩:=h
  rw[Ln]at y
  have ep:pre= .nil:=by
   rcases y.last with ⟨_,e⟩ | ⟨ws,v,B,S,D,_⟩
   ·exact e
   ·exact absurd D MQ
  rw[ep]at j
  refine#[_,Z,q v W o H' ?_ h4 ?_ O]
  ·rw[j];exact X
  ·rw[j];exact N
theorem CA:ah P w K mg base aE k f i ["self","body","behind"] (mQ C 0):=by
 have n:∀v H Q E,¬mQ C 0 v H Q E:=λv H Q E h=>by
  obtain⟨I,D,F,a,g,m,d,j,x,p,B,y,b,_,_,_,_,e,_⟩:=h
  exact absurd e (IY _)
 exact#[λv H Q E h=>absurd h (n v H Q E),λA o s H c u v Q E _ _ _ _ h=>absurd h (n v H Q E)]
theorem ES(c:CK K C)(FB:aU K "place_of_body" "Cutting.place_of_body" wj g f)(F:aU K "place_of" "Cutting.place_of" wq A a)(i:aU K "place_of_cut" "Cutting.place_of_cut" wm D b)(j:aU K "ways_of" "Cutting.ways_of" wz E d)
  (B:ay K f ["self","body","behind"] []) (H:ci K C "place_of_body" g) (k:ay K a ["self","statement","behind"] []) (l:ci K C "place_of" A) (o:ay K b ["self","statement","behind"] []) (p:ci K C "place_of_cut" D) (q:ay K d ["self","statement","place","behind"] []) (r:ci K C "ways_of" E)
  (s:Cl P w K mg base 2 T G ["body"] h9 "many_cuts") (t:Cl P w K mg base 31 U I ["statement","behind"] (gH 7) "used_ahead_of") (u:Cl P w K mg base 1 Y J ["statement"] i7 "deed_of") (v:Cl P w K mg base 8 fG L ["term"] gQ "place_of_give") (x:Cl P w K mg base 11 fS N ["statement","behind"] j' "place_of_set") (y:mg "len"=none) (m:mg "tuple"=none) (M:mg "reversed"=none):
  ∀n:Nat,n<=8->ah P w K mg base aE (4*n+31) g f ["self","body","behind"] (mQ C n)
 |0,_=>CA
 |n+1,h=>by
  have O:=ES c FB F i j B H k l o p q r s t u v x y m M n MP
  have Q:=CH j c O B H
  have R:=CD i c MP Q q r s t u y m
  have S:=CG F c R o p v x
  have z:=CC FB c S k l M
  have e:4*n+35=4*(n+1)+31:=by omega
  rw[e]at z
  exact z
theorem vV{X:Cx}{K:Frag}{n:Nat}(a:X.K=K)(b:X.calm=true)(h:By X e t)
  (c:(assignEach e X.env).length=n) (H:(assignEach e X.env).findIdx? (·.1)=none):PG X (.Tuple e k p) (uV K n t):=by
 subst a
 exact ze b h c H
abbrev g3(K:Frag)(i j k:Nat):TG:=uV K 3 (dR (bK i) (dR (bK j) (dR (bK k) uU)))
theorem D8{t:L2.St}(h:t.length=3):∃a b c,t=[a,b,c]:=by
 cases t with
 |nil=>cases h
 |cons a r=>
  cases r with
  |nil=>cases h
  |cons b R=>
   cases R with
   |nil=>cases h
   |cons c d=>
    cases d with
    |nil=>exact#[a,b,c,Z]
    |cons _ _=>cases h
noncomputable abbrev rW:Stmt:=bQ 51
noncomputable abbrev nF:Stmt:=bQ 52
structure Df where
 f:Str
 p:Addr
 pa:Addr
 pb:Addr
 b:Bd
def wZ(H:Hp)(d:Df)(v:V):Prop:=∃B,v= .ref d.p/\H d.p=some (.tup [.str d.f,.ref d.pa,.ref d.pb])/\H d.pb=some (.tup B)/\dw H d.b B
def cw(H:Hp):List Df->List V->Prop
 | [],a=>a=[]
 |d::D,a=>∃v r,a=v::r/\wZ H d v/\cw H D r
theorem wZ.mono(k:ai H a)(h:wZ H d v):wZ a d v:=by
 obtain⟨b,e,c,f,g⟩:=h
 exact#[b,e,k _ _ c,k _ _ f,g.mono k]
theorem cw.mono(k:ai H b):∀{a:List V},cw H D a->cw b D a:=by
 induction D with
 |nil=>exactλh=>h
 |cons d D i=>rintro a ⟨v,r,e,c,f⟩;exact#[v,r,e,c.mono k,i f]
theorem cw.snoc{d:Df}(a:wZ H d v):∀{D:List Df} {b:List V},cw H D b->cw H (D++[d]) (b++[v])
 | [],_,h=>by have e:_=[]:=h;rw[e];exact#[v,[],Z,a,Z]
 |_::_,_,z=>by obtain⟨u,r,e,c,f⟩:=z;exact #[u,r++[v],by rw[e];rfl,c,cw.snoc a f]
theorem cw.len:∀{d:List Df} {v:List V},cw H d v->v.length=d.length
 | [],_,h=>by have e:_=[]:=h;rw[e];rfl
 |_::_,_,z=>by obtain⟨u,r,e,b,a⟩:=z;rw[e,Gi,Gi,cw.len a]
theorem cw.at:∀{D:List Df} {b:List V},cw H D b->∀(i:Nat) (v:V),b[i]?=some v->∃d,D[i]?=some d/\wZ H d v
 | [],_,h,i,v,a=>by have e:_=[]:=h;rw[e]at a;simp at a
 |d::_,_,#[u,r,e,c,f],0,v,a=>by rw[e]at a;cases a;exact#[d,Z,c]
 |_::D,_,#[u,r,e,c,f],i+1,v,a=>by rw[e]at a;simpa using cw.at f i v (by simpa using a)
def lY(d:Df):Prop:=(∃y:List Str,y.length<=20/\d.b.Ok y)/\d.b.dep < 8/\d.b.size<=3000
noncomputable def Ec(n:Addr):Pc:=#[λx=>x∈(Tm.num 0).vars,#[[],.give n]]
noncomputable def gG(n:Addr)(d:Df):Pc×List Ct:=pB (d.b.cuts:Int) d.b (Ec n) []
noncomputable def eM(n:Addr)(d:Df):Tr:=aQ [a9 d.f,oj d.pa,gI (gG n d).1.w,aQ ((gG n d).2.reverse.map BW)]
def ma(K:Frag)(n:Addr):Prop:=∀H:Hp,aA K H n [.str "num",.int 0]
def sU(C:Addr):Sp:=λv H Q _=>∃(i d a:Addr) (b:Bd) (x:List V),v=[.ref i,.ref a]/\H i=some (.ins C d [])/\H a=some (.tup x)/\dw H b x/\b.size<=10000000/\
 ∀(f:Addr) (h:Hp),H f=none->Cg h C i d f (b.cuts:Int) [] []->au i H h->Q .non h
def mW(K:Frag)(n:Addr):Sp:=λa H Q _=>∃(d:Df) (B:List V),a=[.str d.f,.ref d.pa,.ref d.pb]/\H d.pb=some (.tup B)/\dw H d.b B/\lY d/\∀(v:V) (h:Hp),aS h (eM n d) v []->ae H h->Q v h
def mO(K:Frag)(n:Addr):Sp:=λb H Q _=>∃(a:Addr) (D:List Df) (x:List V),b=[.ref a]/\H a=some (.tup x)/\cw H D x/\D.length<=1000/\(∀d∈D,lY d)/\∀(v:V) (h:Hp),aS h (aQ (D.map (eM n))) v []->ae H h->Q v h
theorem ZV{K:Frag}{t:TE}{Q:List V->Hp->Prop}{H:Hp}(x:H a=some (.tup g))(u:cw H D g)(R:D.length<=1000)
  (Pv:Nat->List V->Hp->Prop) (z:Pv 0 [] H) (A:∀i Y h,Pv i Y h->ae H h/\Y.length<=i)
  (C:∀i d B Y h,D[i]?=some d->h d.pb=some (.tup B)->dw h d.b B->Pv i Y h->t (some (.str d.f)::some (.ref d.pa)::some (.ref d.pb)::l) h λy j=>Pv (i+1) (Y++[y]) j)
  (E:∀Y h,Pv D.length Y h->Q Y h):fb (uu K a) 3 l (g3 K 0 1 2) lP t Q H:=by
 have F:=aN
 have S:=u.len
 refine#[λi m Y h=>m=D.length - i/\i<=D.length/\Pv i Y h,#[D.length,MQ,FN _,z],?_]
 intro i m Y h c
 refine aZ λG k=>?_
 obtain⟨rfl,T,p⟩:=c
 refine k ?_
 clear k
 obtain⟨s,U⟩:=A i Y h p
 have c:aA K h a g:=aA.of (s _ _ x)
 by_cases n:i < D.length
 ·have I:i < g.length:=by omega
  refine .inr #[#[g,g[i],c,Fu I],MP,Pv (i+1),λJ j L=>#[D.length - (i+1),MP,Z,n,L],λv j W o y=>?_]
  obtain⟨e,y⟩:=y
  subst e
  have q:=y g c
  refine aZ λG k=>?_
  obtain⟨d,r,B,rfl,M,N,O⟩:=(u.mono (ae.tm s)).at i v q
  refine k ?_
  clear k
  refine aZ λG k=>?_
  obtain⟨X,t2,t3,rfl⟩:=D8 o
  refine k ?_
  clear k
  refine#[d.p,_,Z,aA.of M,Z,_,_,Z,_,_,Z,_,_,Z,Z,#[[some _,some _,some _],Z,Z],?_]
  exact C i d B Y j r N O p
 ·have e:i=D.length:=by omega
  subst e
  exact .inl #[#[g,c,MP],E Y h p]
theorem C5:al ["self","body"] ["self","body"] (aa rR):=bP
theorem Ah(F:aU K "__init__" "Cutting.__init__" rR f t)(d:CK K C)(u:Cl P w K mg base 2 M v ["body"] h9 "many_cuts"):ah P w K mg base aE 3 f t ["self","body"] (sU C):=by
 refine F.ok C5 ?_ λy A O s H V Q E B h=>?_
 ·rintro _ _ _ _ ⟨i,D,a,b,x,rfl,_⟩
  rfl
 refine aZ λR j=>?_
 obtain⟨i,D,a,b,x,rfl,G,I,J,L,q⟩:=h
 refine j ?_
 clear j
 refine#[_,(jd (@qI _ _ _ _ _ _ _ _ (pv 0) (u.e B.m (ja (pv 1) jb)) Z) (jg (@qI _ _ _ _ _ _ _ _ (pv 0) (jF jb) Z))),?_]
 refine aj λS l=>#[_,Z,a,b,x,Z,I,J,L,λT k=>#[_,Z,i,C,D,_,Z,k _ _ G,d.cl,d.nm,MO,l _ _ ?_]]
 clear l
 refine#[lW,λg n=>#[_,Z,i,C,D,_,Z,ao jc n,d.cl,d.nf,(by show 1 < 1000;decide),?_]]
 have N:g≠i:=λe=>by rw[e,jc]at n;cases n
 have p:H g=none:=by
  cases e:H g with
  |none=>rfl
  |some o=>rw[jk N,k _ _ e]at n;cases n
 refine q g _ p #[jc,by rw[jk N,jc],Z] λc o r e=>?_
 rw[jk r,jk (λz=>by rw[z,p]at e;cases e),jk r]
 exact k _ _ e
theorem mE:al ["name","params","body","cutting","first"] ["name","params","body"] (aa rW):=bP
theorem vF(F:aU K "part_made" "part_made" rW f fd)(t:CK K C)(mk:Mk K C fI)(GI:ah P w K mg base aE 3 fI u ["self","body"] (sU C))(bI:ay K u ["self","body"] [])(mC:mg "Cutting"=some (.ref C))(M:mg "NOUGHT"=some (.ref n))(no:ma K n)(GB:ah P w K mg base aE 63 fB x ["self","body","behind"] (mQ C 8))(bB:ay K x ["self","body","behind"] [])(hB:ci K C "place_of_body" fB)(cG:Cl P w K mg base 8 fG f0 ["term"] (sW K) "place_of_give")(y:mg "tuple"=none)(z:mg "reversed"=none):ah P w K mg base aE 64 f fd ["name","params","body"] (mW K n):=by
 refine F.ok mE ?_ λc0 A O s H vs Q E B h=>?_
 ·rintro _ _ _ _ ⟨d,G,rfl,_⟩
  rfl
 refine aZ λGq kq=>?_
 obtain⟨d,G,rfl,hb,a,I,q⟩:=h
 refine kq ?_
 clear kq
 refine#[_,(jd (jA 3 mE.nd (YO mk GI B.m Z mC bI .nil bL (ja (pv 2) jb))) (jd (jA 4 mE.nd (kQ (pv 3) t.cl hB GB B.m bB .nil bL (ja (pv 2) (ja (cG.e B.m (ja (qR (v:=.ref n) Z M Z) jb)) jb)))) (jg (jo (jh (ja (pv 0) (ja (pv 1) (ja (jy (pv 4)) (ja (@ZN _ _ _ _ _ _ _ _ _ Z Z y Ig Z z boot_reversed (zo (pv 3) Z) MO MO MO MO MT MT MT MT) jb))))))))),?_]
 have b0:=aN
 obtain⟨⟨ys,y0,ok⟩,J,hz⟩:=I
 refine aj λF1 j=>#[_,Z,λi D N L n0=>?_]
 have S:ae H (af (af H D (.own i)) i (.ins C D [])):=λc o e=>by rw[jk (jm e N),jk (jm e L)];exact e
 refine#[i,D,d.pb,d.b,G,Z,jc,S _ _ hb,a.mono (ae.tm S),MP,λp H1 nf R k1=>#[Z,j _ _ ?_]]
 clear j
 have s1:ae H H1:=λc o e=>k1 c o (jm e N) (S _ _ e)
 have T:H p=none:=S.free nf
 refine aj λF1 j=>#[_,Z,i,D,_,Z,R.ins,Z,_,Z,n,ys,Z,no _,MP,λv g H2 p2 n2 k2=>?_]
 have ng:g≠p:=λe=>by rw[e,R.fd]at n2;cases n2
 have U:=s1.trans k2
 refine#[i,D,p,d.pb,g,_,[],[],G,Ec n,v,ys,d.b,Z,#[R.same k2,p2,ng,ok,by show 0+0+d.b.size<=_;omega],U _ _ hb,a.mono (ae.tm U),J,λv3 g3 k V p3 n3 W k3=>j _ _ ?_]
 clear j
 obtain⟨r3,w3,rfl,X,Y⟩:=tW p3
 have s3:ae H V:=λc o e=>k3 c o (jm e T) (U _ _ e)
 refine#[_,Z,_,Z,jq X Z #[_,Z,i,C,D,_,_,Z,W.ins,t.cl,t.nf,Z,p,k,Z,aP.of W.fd,λl nl=>#[tE,λr nr=>?_]]]
 have s5:ae V (af (af V l (.tup k.reverse)) r (.tup [.str d.f,.ref d.pa,w3,.ref l])):=(je nl).trans (je nr)
 refine q (.ref r) _ ?_ (s3.trans s5)
 refine jD jc (ji Z jM (ji Z Jn (ji Z (Y.mono (ae.tm s5)) (ji Z (jD (ao jc nr) ?_) jC))))
 have e:=Y2 (W.tr.mono (ae.tm s5))
 rw[<- List.map_reverse]at e
 exact e
theorem A6:al ["program"] ["program"] (aa nF):=bP
noncomputable def sI:Scope:=#[.function,[(".0",.local),("name",.local),("params",.local),("body",.local),("part_made",.globalImplicit)],false,false,[]]
theorem Z9:(["name","params","body"]:List Str).Nodup:=by decide+kernel
theorem BU:bM ["program"] (aa nF) sI ["name","params","body"] 3 []:=ui
theorem vB(F:aU K "made" "made" nF f p)(C:Cl P w K mg base 64 U t ["name","params","body"] (mW K N) "part_made")(M:mg "tuple"=none):ah P w K mg base aE 65 f p ["program"] (mO K N):=by
 refine F.ok A6 ?_ λu A o s H V Q E x h=>?_
 ·rintro _ _ _ _ ⟨a,D,X,rfl,_⟩
  rfl
 refine aZ λW k=>?_
 obtain⟨a,D,X,rfl,g,y,B,O,q⟩:=h
 refine k ?_
 clear k
 refine#[_,(jg (jo (jE jH Z M Ig (ja (@zG _ _ _ _ _ _ _ (["name","params","body"]) (3) ([]) _ _ _ _ Z (zT (pv 0)) BU (λ_ _ _ _ _=>(vV (K:=K) (n:=3) Z Z (jz (jw (i:=0) Z9 Z (Or.inl Z)) (jz (jw (i:=1) Z9 Z (Or.inl Z)) (jz (jw (i:=2) Z9 Z (Or.inl Z)) j6))) Z Z)) (λ_ _ _ _ _=>(@zU _)) (λ_ _ _ _ _=>(C.e x.m (ja (pv 0) (ja (pv 1) (ja (pv 2) jb))))) (by intro _;rfl)) jb)))),?_]
 refine#[_,Z,a,Z,#[_,aA.of g],?_]
 refine ZV g y B (λi V b=>aS b (aJ ((D.take i).map (eM N))) .non V/\ae H b/\i<=D.length) #[Z,ae.refl _,FN _] (λi V b h=>#[h.2.1,?_]) (λi d G V b c I J h=>?_) (λV b h l L=>?_)
 ·rw[kY h.1,Fy,Gf]
  exact Mm ..
 ·have R:i < D.length:=by
   rcases Lo i D.length with z |z
   ·exact z
   ·rw[Hc z]at c;cases c
  refine#[_,Z,_,Z,_,Z,d,G,Z,I,J,O d (F' c),λv Y T j=>#[?_,h.2.1.trans j,R]]
  rw[GP,c,Gm]
  exact JU (ji Z T jC) (h.1.mono (ae.tm j))
 ·refine#[l,V,Z,.inl #[aP.of jc,λr S=>?_]]
  have s:ae b (af (af b l (.lst V)) r (.tup V)):=(je L).trans (je S)
  refine q (.ref r) _ (jD jc ?_) (h.2.1.trans s)
  have e:=h.1
  rw[Gz]at e
  exact e.mono (ae.tm s)
noncomputable abbrev rY:Stmt:=bQ 62
noncomputable abbrev rZ:Stmt:=bQ 63
noncomputable abbrev nC:Stmt:=bQ 64
def a7(p q:Addr)(H h:Hp):Prop:=∀b o,b≠p->b≠q->H b=some o->h b=some o
theorem a7.refl:a7 p q H H:=λ_ _ _ _ h=>h
theorem a7.trans(a:a7 p q H d)(b:a7 p q d e):a7 p q H e:=λc o n m h=>b c o n m (a c o n m h)
theorem au.two(a:au p H b):a7 p q H b:=λc o n _ h=>a c o n h
theorem a7.of_same(a:ae H b):a7 p q H b:=λc o _ _ h=>a c o h
theorem a7.at:a7 p q H (af H q o):=λb u _ m e=>by rw[jk m];exact e
def dn(H:Hp)(q:Addr):Prop:=∃k:Int,H q=some (.lst [.int k])
theorem dn.new{o:HO}(h:dn H q)(n:H r=none):dn (af H r o) q:=let #[k,e]:=h;#[k,ao e n]
theorem dn.ne(h:dn H q)(B:aq H p):q≠p:=by
 obtain⟨k,e⟩:=h
 refine aZ λG c=>?_
 obtain⟨a,b,_,_,_,d⟩:=B.ob
 refine c ?_
 clear c
 exact jO e d (by intro z;cases z)
theorem dn.but(h:dn H q)(B:aq H p)(k:au p H a):dn a q:=by
 have n:=h.ne B
 obtain⟨z,e⟩:=h
 exact#[z,k _ _ n e]
theorem a7.tm(k:a7 p q H h)(B:aq H p)(s:dn H q):ai H h:=λb x e=>by
 refine aZ λG d=>?_
 obtain⟨a,c,_,_,_,f⟩:=B.ob
 refine d ?_
 clear d
 obtain⟨z,g⟩:=s
 exact k b _ (jO e f (by intro w;cases w)) (jO e g (by intro w;cases w)) e
noncomputable def gj(H:Hp)(q:Addr):Int:=match H q with
 |some (.lst [.int k])=>k
 |_=>0
theorem Jo{H:Hp}(e:H q=some (.lst [.int k])):gj H q=k:=by unfold gj;rw[e]
theorem XX{h:Hp}(s:dn H q)(k:∀o,H q=some o->h q=some o):gj h q=gj H q:=by
 obtain⟨z,e⟩:=s
 rw[Jo e,Jo (k _ e)]
theorem kn(B:aq H p)(s:dn H q)(k:au p H h):gj h q=gj H q:=XX s λo e=>k _ _ (s.ne B) e
theorem kh(s:dn H q)(k:ae H h):gj h q=gj H q:=XX s λo e=>k _ _ e
def Dx(H:Hp)(c:Str×List Str)(v:V):Prop:=∃p t,v= .ref p/\H p=some (.tup [.str c.1,.ref t])/\H t=some (.tup (c.2.map V.str))
def dE(H:Hp):List (Str×List Str)->List V->Prop
 | [],a=>a=[]
 |c::C,a=>∃v r,a=v::r/\Dx H c v/\dE H C r
theorem dE.mono(k:ai H b):∀{c:List (Str×List Str)} {a:List V},dE H c a->dE b c a
 | [],_,h=>h
 |_::_,_,z=>by obtain⟨v,r,e,⟨p,t,E,d,f⟩,g⟩:=z;exact #[v,r,e,#[p,t,E,k _ _ d,k _ _ f],dE.mono k g]
theorem dE.snoc(a:Dx H c v):∀{C:List (Str×List Str)} {b:List V},dE H C b->dE H (C++[c]) (b++[v])
 | [],_,h=>by have e:_=[]:=h;rw[e];exact#[v,[],Z,a,Z]
 |_::_,_,z=>by obtain⟨u,r,e,d,f⟩:=z;exact #[u,r++[v],by rw[e];rfl,d,dE.snoc a f]
theorem dE.len:∀{c:List (Str×List Str)} {v:List V},dE H c v->v.length=c.length
 | [],_,h=>by have e:_=[]:=h;rw[e];rfl
 |_::_,_,z=>by obtain⟨u,r,e,b,a⟩:=z;rw[e,Gi,Gi,dE.len a]
theorem dE.at:∀{C:List (Str×List Str)} {b:List V},dE H C b->∀(i:Nat) (v:V),b[i]?=some v->∃c,C[i]?=some c/\Dx H c v
 | [],_,h,i,v,a=>by have e:_=[]:=h;rw[e]at a;simp at a
 |c::_,_,#[u,r,e,d,f],0,v,a=>by rw[e]at a;cases a;exact#[c,Z,d]
 |_::C,_,#[u,r,e,d,f],i+1,v,a=>by rw[e]at a;simpa using dE.at f i v (by simpa using a)
theorem AS(h:dE H C a)(i:0<=k)(j:k < (a.length:Int)):∃v c,dF a k=some v/\c∈C/\Dx H c v:=by
 have b:k.toNat < a.length:=by omega
 have d:k=((k.toNat:Nat):Int):=by omega
 have E:a[k.toNat]?=some a[k.toNat]:=Fu b
 have e:dF a ((k.toNat:Nat):Int)=some a[k.toNat]:=jN E
 rw[<- d]at e
 obtain⟨c,f,g⟩:=h.at _ _ E
 exact#[_,c,e,F' f,g]
def Bd.fit(h:List (Str×List Str))(y:List Str)(d:Nat)(b:Bd):Prop:=(b.Ok y/\b.Cs (h.map λc=>(c.1,c.2.length)))/\b.dep<=d
theorem Y4:Bd.fit h y d .nil:=#[#[Gg,Gg],FN _]
theorem yB{H:List (Str×List Str)}{l:Lf}(h:l.Ok y)(k:l.Cs (H.map λc=>(c.1,c.2.length))):Bd.fit H y d (.lf p l .nil):=#[#[#[h,Gg],k,Gg],FN _]
theorem Y5{a b:Bd}(h:a.fit H y d)(k:b.fit H y d):(a.app b).fit H y d:=#[#[Kg h.1.1 k.1.1,Kf h.1.2 k.1.2],by rw[zi];have:=h.2;have:=k.2;omega]
theorem uS{a b:Bd}(c:di y T)(h:a.fit H y d)(k:b.fit H y d):Bd.fit H y (d+1) (.ite p t T a b .nil):=#[#[#[c,h.1.1,k.1.1,Gg],h.1.2,k.1.2,Gg],by show max (max a.dep b.dep+1) 0<=d+1;have:=h.2;have:=k.2;omega]
theorem pf{a:Bd}(H:di y T)(h:a.fit b y d):Bd.fit b y (d+1) (.loop p t T a .nil):=#[#[#[H,h.1.1,Gg],h.1.2,Gg],by show max (a.dep+1) 0<=d+1;have:=h.2;omega]
noncomputable def ET:Nat->Nat
 |0=>1
 |d+1=>1+2*(5*ET d)
def le:Sp:=λv H Q _=>∃(p g:Addr) (y:List Str),v=[.ref p,.ref g]/\aq H p/\H g=some (.lst (y.map V.str))/\1<=y.length/\y.length<=20/\∀(r:Addr) (T:Tm) (h:Hp),bj h T r->di y T->aq h p->au p H h->Q (.ref r) h
structure lS(H:Hp)(p g h sp:Addr)(ys:List Str)(hs:List (Str×List Str)):Prop where
 B:aq H p
 g:H g=some (.lst (ys.map V.str))
 y1:1<=ys.length
 y2:ys.length<=20
 h:∃hv,H h=some (.lst hv)/\dE H hs hv
 h1:1<=hs.length
 h2:hs.length<=20
 h3:∀c∈hs,c.2.length<=6
 s:dn H sp
theorem lS.gsp{H:Hp}{p g h S:Addr}{y:List Str}{b:List (Str×List Str)}(G:lS H p g h S y b):g≠S:=by
 obtain⟨k,e⟩:=G.s
 refine jO G.g e λz=>?_
 injection z with z
 have c:=G.y1
 match y,c,z with
 |a::r,_,z=>injection z with d _;cases d
theorem lS.hsp{H:Hp}{p g h S:Addr}{y:List Str}{f:List (Str×List Str)}(G:lS H p g h S y f):h≠S/\h≠p:=by
 obtain⟨k,e⟩:=G.s
 obtain⟨j,E,l⟩:=G.h
 refine aZ λu i=>?_
 obtain⟨a,b,_,_,_,m⟩:=G.B.ob
 refine i ?_
 clear i
 have n:=G.h1
 have:∃q r,j= .ref q::r:=by
  match f,n,l with
  |c::C,_,#[v,r,e,#[q,t,o,_],_]=>exact#[q,r,by rw[e,o]]
 obtain⟨q,r,rfl⟩:=this
 refine#[jO E e λz=>?_,jO E m λz=>?_]
 ·injection z with z
  injection z with d _
  cases d
 ·injection z with z
  injection z with d _
  cases d
theorem lS.but2{H a:Hp}{p g h S:Addr}{y:List Str}{b:List (Str×List Str)}(G:lS H p g h S y b)(B:aq a p)(s:dn a S)(k:a7 p S H a):lS a p g h S y b:=by
 obtain⟨c,e,E⟩:=G.h
 exact#[B,k _ _ (qj G.B G.g) G.gsp G.g,G.y1,G.y2,#[c,k _ _ G.hsp.2 G.hsp.1 e,E.mono (k.tm G.B G.s)],G.h1,G.h2,G.h3,s]
theorem lS.but{H a:Hp}{p g h S:Addr}{y:List Str}{b:List (Str×List Str)}(G:lS H p g h S y b)(B:aq a p)(k:au p H a):lS a p g h S y b:=G.but2 B (G.s.but G.B k) k.two
def lN(n:Nat):Sp:=λv H Q _=>∃(p g h s:Addr) (d:Nat) (y:List Str) (c:List (Str×List Str)),v=[.ref p,.ref g,.ref h,.ref s,.int (d:Int)]/\lS H p g h s y c/\d < n/\0 < gj H s/\
 ∀(r:Addr) (b:Bd) (a:Hp),dw a b [.ref r]->(b.size:Int)+gj a s<=gj H s->0<=gj a s->b.fit c y d->aq a p->dn a s->a7 p s H a->Q (.ref r) a
def hX(n:Nat):Sp:=λv H Q _=>∃(p g h s:Addr) (d:Nat) (y:List Str) (c:List (Str×List Str)),v=[.ref p,.ref g,.ref h,.ref s,.int (d:Int)]/\lS H p g h s y c/\d < n/\0<=gj H s/\
 ∀(r:Addr) (b:Bd) (B:List V) (a:Hp),a r=some (.tup B)->dw a b B->(b.size:Int)+gj a s<=gj H s->0<=gj a s->b.fit c y d->aq a p->dn a s->a7 p s H a->Q (.ref r) a
theorem sA:al ["_law_box_here","_law_names_here","_law_kind"] ["_law_box_here","_law_names_here"] (aa rY):=bP
theorem vI(F:aU K "_law_spot" "_law_spot" rY f M)(C:Cl P w K mg base 1 X cf ["_law_box_here","_law_wide"] ba "_law_take")(N:Cl P w K mg base 6 Y O ["_law_box_here","_law_names_here","_law_deep"] (dh 4) "_law_term"):ah P w K mg base aE 7 f M ["_law_box_here","_law_names_here"] le:=by
 refine F.ok sA ?_ λR A o s H vs Q E a h=>?_
 ·rintro _ _ _ _ ⟨p,g,y,rfl,_⟩
  rfl
 refine aZ λGq G=>?_
 obtain⟨p,g,y,rfl,B,I,i,j,q⟩:=h
 refine G ?_
 clear G
 refine#[_,(jd (jA 2 sA.nd (C.e a.m (ja (pv 0) (ja jf jb)))) (jd (jx (jB Qb (pv 2) jf (aK _)) (jg (jo (N.e a (ja (pv 0) (ja (pv 1) (ja jf jb)))))) jp) (jd (jx (za (pv 2)) (jg (jo (jh (ja jl (ja (ju kL (ju kL (ju Jl jf jf) jf) (C.e a.m (ja (pv 0) (ja jf jb)))) jb))))) jp) (jg (jo (jh (ja jl (ja (C.e a.m (ja (pv 0) (ja jf jb))) jb)))))))),?_]
 have k:g≠p:=qj B I
 refine#[_,Z,p,8,Z,B,MO,MO,λkd J k0 k1 l L=>?_]
 have t:J g=some (.lst (y.map V.str)):=by rw[L g k];exact I
 have u:au p H J:=au.of_eq L
 refine#[_,Z,_,_,Z,Z,_,Z,?_]
 refine bV (λc=>?_) (λc=>?_)
 ·exact#[_,Z,_,Z,p,g,1,y,Z,l,t,i,j,MO,MO,λr T v S dT U b W=>q r T v S #[U,MP] b (u.trans W)]
 refine#[_,Z,Z,_,Z,?_]
 refine bV (λc=>?_) (λc=>?_)
 ·refine#[_,_,Z,Z,#[MO,MO,MO],_,_,Z,Z,_,Z,p,4,Z,l,MO,MO,λD v d x b z=>#[_,_,Z,Z,bX,λr n=>?_]]
  exact q r (.num (1000000000000000000 - 1 - D)) _ jc #[#[MP,MP],(by show 0 < 6;decide)] (b.upd_new n) ((u.trans (au.of_eq z)).upd_new n)
 ·refine#[_,Z,p,12,Z,l,MO,MO,λD v d x b z=>#[bX,λr n=>?_]]
  exact q r (.num D) _ jc #[#[d,MP],(by show 0 < 6;decide)] (b.upd_new n) ((u.trans (au.of_eq z)).upd_new n)
theorem iF:al ["_law_box_here","_law_names_here","_law_heads","_law_spare","_law_deep","_law_kind","_law_x","_law_f","_law_params","_law_body_here"] ["_law_box_here","_law_names_here","_law_heads","_law_spare","_law_deep"] (aa rZ):=bP
noncomputable def ZW:Scope:=#[.function,[(".0",.local),("_law_one",.local),("_law_term",.globalImplicit),("_law_box_here",.free),("_law_names_here",.free)],false,false,[]]
theorem yV:(["_law_one","_law_box_here","_law_names_here"]:List Str).Nodup:=by decide+kernel
theorem yv:bM ["_law_box_here","_law_names_here","_law_heads","_law_spare","_law_deep","_law_kind","_law_x","_law_f","_law_params","_law_body_here"] (aa rZ) ZW ["_law_one","_law_box_here","_law_names_here"] 1 [0,1]:=ui
def RH(p g h s:Addr)(d:Nat)(k:Int)(y:Str)(H:Hp)(a:L2.St)(b:Hp):Prop:=a=[some (.ref p),some (.ref g),some (.ref h),some (.ref s),some (.int (d:Int)),some (.int k),some (.str y),none,none,none]/\b=H
theorem Ao(F:aU K "_law_statement" "_law_statement" rZ f fd)(cT:Cl P w K mg base 1 fT cf ["_law_box_here","_law_wide"] ba "_law_take")(cM:Cl P w K mg base 6 fM f0 ["_law_box_here","_law_names_here","_law_deep"] (dh 4) "_law_term")(cP:Cl P w K mg base 7 fP f3 ["_law_box_here","_law_names_here"] le "_law_spot"){L:Nat}(cB:Cl P w K mg base (L+9) fB f4 ["_law_box_here","_law_names_here","_law_heads","_law_spare","_law_deep"] (hX n) "_law_body")(ml:mg "len"=none)(m0:mg "tuple"=none):ah P w K mg base aE (L+10) f fd ["_law_box_here","_law_names_here","_law_heads","_law_spare","_law_deep"] (lN (n+1)):=by
 refine F.ok iF ?_ λc3 A o2 s H vs Q E U h=>?_
 ·rintro _ _ _ _ ⟨p,g,h,S,d,ys,hs,rfl,_⟩
  rfl
 refine aZ λGq kq=>?_
 obtain⟨p,g,h,S,d,ys,hs,rfl,G0,hd,b7,q⟩:=h
 refine kq ?_
 clear kq
 refine#[_,(jd (jA 5 iF.nd (cT.e U.m (ja (pv 0) (ja jf jb)))) (jd (jA 6 iF.nd (jv jr (pv 1) (cT.e U.m (ja (pv 0) (ja (jP jK Z ml Hi (ja (pv 1) jb)) jb))) (λ_ _=>Z))) (jd (zf (ju kL (jv jr (pv 3) jf (λ_ _=>Z)) jf) (qH (pv 3) jf zr)) (jd (jx (jB Qb (pv 5) jf (aK _)) (jg (jo (jh (ja jl (ja (pv 6) (ja (cP.e U.m (ja (pv 0) (ja (pv 1) jb))) jb)))))) jp) (jd (jx (PW.pt (Qa (za (pv 5)) (Jk (za (pv 5))))) (jg (jo (jh (ja jl (ja (cP.e U.m (ja (pv 0) (ja (pv 1) jb))) (ja (cM.e U.m (ja (pv 0) (ja (pv 1) (ja jf jb)))) jb)))))) jp) (jd (jx (PW.pt (Qa (za (pv 5)) (Jk (za (pv 5))))) (jd (zf (jv jr (pv 2) (cT.e U.m (ja (pv 0) (ja (jP jK Z ml Hi (ja (pv 2) jb)) jb))) (λ_ _=>Z)) (ze (n:=2) Z (jz (jw (i:=7) iF.nd Z (Or.inl Z)) (jz (jw (i:=8) iF.nd Z (Or.inl Z)) j6)))) (jg (jo (jh (ja jl (ja (pv 6) (ja (pv 7) (ja (jE jH Z m0 Ig (ja (@zG _ _ _ _ _ _ _ (["_law_one","_law_box_here","_law_names_here"]) (1) ([0,1]) _ _ _ _ Z (zT (pv 8)) yv (λ_ _ _ _ _=>(jw (i:=0) yV Z (Or.inl Z))) (λ_ _ _ _ _=>(@zU _)) (λ_ _ _ _ _=>(cM.e U.m (ja (pv 1) (ja (pv 2) (ja jf jb))))) (by intro _;rfl)) jb)) jb)))))))) jp) (jd (jY (jx (PW.pt (zS (za (pv 5)) (zF (jB Jz (pv 4) jf (aK _))))) (jd (jA 9 iF.nd (cB.e U (ja (pv 0) (ja (pv 1) (ja (pv 2) (ja (pv 3) (ja (ju kL (pv 4) jf) jb))))))) (jg (jo (jh (ja jl (ja (cM.e U.m (ja (pv 0) (ja (pv 1) (ja jf jb)))) (ja (pv 9) (ja (cB.e U (ja (pv 0) (ja (pv 1) (ja (pv 2) (ja (pv 3) (ja (ju kL (pv 4) jf) jb)))))) jb)))))))) jp)) (jd (jY (jx (PW.pt (zS (za (pv 5)) (zF (jB Jz (pv 4) jf (aK _))))) (jg (jo (jh (ja jl (ja (cM.e U.m (ja (pv 0) (ja (pv 1) (ja jf jb)))) (ja (cB.e U (ja (pv 0) (ja (pv 1) (ja (pv 2) (ja (pv 3) (ja (ju kL (pv 4) jf) jb)))))) jb)))))) jp)) (jd (jx (za (pv 5)) (jg (jo (jh (ja jl (ja (cM.e U.m (ja (pv 0) (ja (pv 1) (ja jf jb)))) jb))))) jp) (jg (jo (jh (ja jl (ja (pv 6) (ja (cM.e U.m (ja (pv 0) (ja (pv 1) (ja jf jb)))) jb))))))))))))))),?_]
 have b9:=aN
 have B:=G0.B
 have c4:g≠p:=qj B G0.g
 refine aj λF1 u=>#[_,Z,p,10,Z,B,MO,MO,λkd H1 k0 k1 B1 e1=>u _ _ ?_]
 clear u
 have G1:=G0.but B1 (au.of_eq e1)
 have y1:=G0.y1
 have y2:=G0.y2
 refine aj λF1 u=>#[_,Z,_,Z,_,Z,g,_,Z,.inl (aP.of G1.g),p,_,Z,B1,by rw[Fy];omega,by rw[Fy];omega,λd2 H2 d1 d0 B2 e2=>?_]
 rw[Fy]at d0
 have G2:=G1.but B2 (au.of_eq e2)
 obtain⟨y,hy,a2⟩:=Ke (ys:=ys) d1 d0
 refine#[g,_,_,_,Z,Z,aP.of G2.g,a2,u _ _ ?_]
 clear u
 obtain⟨k,hk⟩:=G2.s
 have ek:gj H S=k:=((kn B1 G1.s (au.of_eq e2)).trans (kn B G0.s (au.of_eq e1))).symm.trans (Jo hk)
 refine aj λF1 u=>#[_,Z,S,_,_,_,Z,Z,aP.of hk,Z,_,_,Z,Z,_,Z,S,_,_,0,Z,Z,hk,Z,u _ _ ?_]
 clear u
 have s0:=G2.s.ne B2
 have B3:aq (af H2 S (.lst ([.int k].set 0 (.int (k - 1))))) p:=B2.eq (jk (Gp s0))
 have s3:dn (af H2 S (.lst ([.int k].set 0 (.int (k - 1))))) S:=#[k - 1,jc]
 have K3:a7 p S H (af H2 S (.lst ([.int k].set 0 (.int (k - 1))))):=((au.of_eq e1).trans (au.of_eq e2)).two.trans a7.at
 have G:=G0.but2 B3 s3 K3
 have e3:gj (af H2 S (.lst ([.int k].set 0 (.int (k - 1))))) S=k - 1:=Jo jc
 generalize af H2 S (.lst ([.int k].set 0 (.int (k - 1))))=H3 at B3 s3 K3 G e3
 have l0:∀(l:Lf) (M:List V) (j:Hp) (r:Addr),uy j l M->l.Ok ys->l.Cs (hs.map λc=>(c.1,c.2.length))->lS j p g h S ys hs->a7 p S H j->gj j S=k - 1->j r=none->Q (.ref r) (af j r (.tup M)):=λl M j r hl ok cs C K4 e4 nr=>
  q r (.lf r l .nil) _ #[M,[],Z,jc,hl.mono (ae.tm (je nr)),Z] (by rw[kh C.s (je nr)];show((0+1:Nat):Int)+_<=_;omega) (by rw[kh C.s (je nr)];omega) (yB ok cs) (C.B.upd_new nr) (C.s.new nr) (K4.trans (a7.of_same (je nr)))
 refine aj λF1 u=>nk λG' D=>#[_,Z,_,_,Z,Z,_,Z,D _ _ ?_]
 clear D
 refine bV (λc=>?_) (λc=>u _ _ ?_)
 ·refine#[_,Z,_,Z,_,Z,p,g,ys,Z,G.B,G.g,y1,y2,λr T j W oT B4 J=>#[gm,λt N=>?_]]
  exact l0 (.rd y r T) _ j t #[Z,W] #[hy,oT] Gg (G.but B4 J) (K3.trans J.two) ((kn G.B G.s J).trans e3) N
 have wr:∀(r:Addr) (T0:Tm) (j:Hp),bj j T0 r->di ys T0->aq j p->au p H3 j->dI (dh 4) [] E0 (am (be 0) (am (be 1) (am (tC (.int 2)) aT))) [some (.ref p),some (.ref g),some (.ref h),some (.ref S),some (.int (d:Int)),some (.int kd),some (.str y),none,none,none] j (λv o=>3<=sizeLine/\∀t,o t=none->Q (.ref t) (af o t (.tup [.str "write",.ref r,v]))):=λr T0 j h4 o1 B4 J=>by
  refine#[_,Z,_,Z,p,g,2,ys,Z,B4,(G.but B4 J).g,y1,y2,MO,MO,λX T o W dT gT R a=>#[MO,λt N=>?_]]
  exact l0 (.wr r X T0 T) _ o t #[Z,h4.but B4 a,W] #[o1,gT,MP] Gg (G.but R (J.trans a)) (K3.trans (J.trans a).two) ((kn G.B G.s (J.trans a)).trans e3) N
 refine aj λF1 u=>nk λG' D=>?_
 have Y:G' true H3:=D _ _ (oh #[_,Z,_,Z,p,g,ys,Z,G.B,G.g,y1,y2,λr T0 j h4 o1 B4 J=>wr r T0 j h4 o1 B4 J])
 refine#[_,Z,Z,_,Z,bV (λc=>Y) (λc=>#[_,Z,Z,_,Z,xo Y λc2=>D _ _ (aO c2 (u _ _ ?_))])]
 clear Y D u
 obtain⟨hv,hh,hH⟩:=G.h
 have hl:=hH.len
 have h1:=G0.h1
 have h2:=G0.h2
 have c1:∀(f':Str) (ps:List Str) (h':(f',ps.length)∈hs.map λc=>(c.1,c.2.length)) (t:Addr) (j:Hp),lS j p g h S ys hs->a7 p S H j->gj j S=k - 1->j t=some (.tup (ps.map V.str))->ps.length<=6->
   fb (uu K t) 1 [some (.ref p),some (.ref g)] (bK 0) lP (dI (dh 4) [] E0 (am (be 1) (am (be 2) (am (tC (.int 1)) aT)))) (λM o=>∀l,o l=none->∃p' y0,[V.ref l]=[.ref p']/\((aP K (af o l (.lst M)) p' y0/\∀l2,af o l (.lst M) l2=none->4<=sizeLine/\∀r,af (af o l (.lst M)) l2 (.tup y0) r=none->Q (.ref r) (af (af (af o l (.lst M)) l2 (.tup y0)) r (.tup [.str "call",.str y,.str f',.ref l2])))∨(aA K (af o l (.lst M)) p' y0/\4<=sizeLine/\∀r,af o l (.lst M) r=none->Q (.ref r) (af (af o l (.lst M)) r (.tup [.str "call",.str y,.str f',.ref p']))))) j:=λf' ps h' t j C K4 e4 ht c5=>by
  refine qw (K:=K) (xs:=ps.map V.str) (by rw[Fy];omega) (λi M o=>∃ts:List (Addr×Tm),M=ts.map (λc=>V.ref c.1)/\ts.length=i/\(∀c∈ts,bj o c.2 c.1/\di ys c.2)/\aq o p/\au p j o) #[[],Z,Z,(λ_ h=>absurd h Gh),C.B,au.refl] (λi M o h5=>?_) ?_ ?_
  ·obtain⟨ts,rfl,e5,_,_,a⟩:=h5
   exact#[aA.of (a.tm C.B _ _ ht),by rw[Fy,e5];exact Fz _]
  ·intro i x M o hx a3
   refine aZ λGq kq=>?_
   obtain⟨ts,rfl,e5,h5,R,a⟩:=a3
   refine kq ?_
   clear kq
   refine#[_,Z,_,Z,p,g,1,ys,Z,R,(C.but R a).g,y1,y2,MO,MO,λX T H6 W dT gT B6 k6=>#[ts++[(X,T)],by rw[Gm];rfl,by rw[FD,e5];rfl,λc hc=>?_,B6,a.trans k6]]
   rcases List.mem_append.mp hc with hc |hc
   ·exact#[(h5 c hc).1.but R k6,(h5 c hc).2]
   ·rw[List.mem_singleton.mp hc]
    exact#[W,gT,(by show T.depth < 6;omega)]
  ·rintro M o ⟨ts,rfl,e5,h5,R,a⟩ l nl
   refine#[l,_,Z,.inl #[aP.of jc,λl2 n0=>#[MO,λr nr=>?_]]]
   have O:=C.but R a
   have s6:ae o (af (af o l (.lst (ts.map λc=>V.ref c.1))) l2 (.tup (ts.map λc=>V.ref c.1))):=(je nl).trans (je n0)
   rw[Fy]at e5
   exact l0 (.cl y f' l2 ts) _ _ r #[Z,jc,λc hc=>(h5 c hc).1.same s6] #[hy,MP,λc hc=>(h5 c hc).2] (by show(f',ts.length)∈_;rw[e5];exact h') (O.but2 ((O.B.upd_new nl).upd_new n0) ((O.s.new nl).new n0) (a7.of_same s6)) ((K4.trans a.two).trans (a7.of_same s6)) ((kh O.s s6).trans ((kn C.B C.s a).trans e4)) nr
 refine aj λF1 u=>nk λG' D=>?_
 have Y:G' true H3:=by
  refine D _ _ (oh ?_)
  clear u D
  refine aj λF2 f2=>#[_,Z,_,Z,_,Z,h,_,Z,.inl (aP.of hh),p,_,Z,G.B,MP,MP,λd4 j d3 d5 B4 e4=>?_]
  have C:=G.but B4 (au.of_eq e4)
  have J:au p H3 j:=au.of_eq e4
  have a4:=hH.mono (J.tm G.B)
  refine aZ λGq kq=>?_
  obtain⟨v,c0,a',a0,p4,t4,rfl,z1,z2⟩:=AS a4 d3 d5
  refine kq ?_
  clear kq
  refine#[h,_,_,_,Z,Z,aP.of (J _ _ G.hsp.2 hh),a',p4,_,Z,aA.of z1,Z,_,_,Z,_,_,Z,Z,f2 _ _ ?_]
  clear f2
  refine#[_,Z,_,Z,_,Z,t4,Z,#[_,aA.of z2],?_]
  exact c1 c0.1 c0.2 (List.mem_map.mpr #[c0,a0,Z]) t4 j C (K3.trans J.two) ((kn G.B G.s J).trans e3) z2 (G0.h3 c0 a0)
 refine#[_,Z,Z,_,Z,bV (λc=>Y) (λc=>#[_,Z,Z,_,Z,xo Y λc2=>D _ _ (aO c2 (u _ _ ?_))])]
 clear Y D u
 have l1:∀(c:(0:Int) < (d:Int)),∃d':Nat,d=d'+1:=λc=>#[d - 1,MP]
 refine aj λF1 u=>dB (RH p g h S d kd y H3) (λE6 eR f6=>?_) λσ0 H' z=>?_
 ·clear u
  refine nk λG' D=>#[_,Z,Z,_,Z,?_]
  refine bV (λc=>?_) (λc=>D _ _ (og (f6 _ _ #[Z,Z])))
  refine#[_,Z,_,_,Z,Z,_,Z,D _ _ ?_]
  clear D
  refine bV (λc2=>?_) (λc2=>f6 _ _ #[Z,Z])
  clear f6
  obtain⟨d',rfl⟩:=l1 (GN c2)
  have ed:(((d'+1:Nat):Int) - 1)=((d':Nat):Int):=by omega
  refine#[_,Z,_,Z,_,Z,_,Z,_,Z,_,_,Z,Z,p,g,h,S,d',ys,hs,(by show [V.ref p,V.ref g,V.ref h,V.ref S,V.int (((d'+1:Nat):Int) - 1)]=_;rw[ed]),G,MP,MP,λr b bs j b1 b2 c6 b4 b5 B4 s4 J=>?_]
  have C:=G.but2 B4 s4 J
  refine#[_,Z,_,Z,p,g,2,ys,Z,C.B,C.g,y1,y2,MO,MO,λX T o W dT gT R a=>?_]
  have O:=C.but R a
  refine#[_,Z,_,Z,_,Z,_,Z,_,Z,_,Z,_,_,Z,Z,p,g,h,S,d',ys,hs,(by show [V.ref p,V.ref g,V.ref h,V.ref S,V.int (((d'+1:Nat):Int) - 1)]=_;rw[ed]),O,MP,(by rw[kn C.B C.s a];exact b4),λr3 b3 b0 H6 h6 h7 a1 h8 h0 B6 s6 k6=>#[tE,λt N=>?_]]
  have G6:=O.but2 B6 s6 k6
  have tm:ai j H6:=λb' xs e=>k6.tm O.B O.s _ _ (a.tm C.B _ _ e)
  have I:ai H6 (af H6 t (.tup [.str "if",.ref X,.ref r,.ref r3])):=ae.tm (je N)
  rw[eR]
  refine q t (.ite t X T b b3 .nil) _ #[r,r3,bs,b0,[],Z,jc,(W.mono (k6.tm O.B O.s)).mono I,I _ _ (tm _ _ b1),I _ _ h6,(b2.mono tm).mono I,h7.mono I,Z] (by have x1:=kn C.B C.s a;rw[kh G6.s (je N)];show((b.size+b3.size+0+1:Nat):Int)+_<=_;omega) (by rw[kh G6.s (je N)];exact h8) (uS #[gT,MP] b5 h0) (G6.B.upd_new N) (G6.s.new N) (((K3.trans J).trans (a.two.trans k6)).trans (a7.of_same (je N)))
 obtain⟨rfl,e⟩:=z
 rw[e]
 refine u _ _ ?_
 clear u
 refine aj λF1 u=>dB (RH p g h S d kd y H3) (λE6 eR f6=>?_) λσ0 H' z=>?_
 ·clear u
  refine nk λG' D=>#[_,Z,Z,_,Z,?_]
  refine bV (λc=>?_) (λc=>D _ _ (og (f6 _ _ #[Z,Z])))
  refine#[_,Z,_,_,Z,Z,_,Z,D _ _ ?_]
  clear D
  refine bV (λc2=>?_) (λc2=>f6 _ _ #[Z,Z])
  clear f6
  obtain⟨d',rfl⟩:=l1 (GN c2)
  have ed:(((d'+1:Nat):Int) - 1)=((d':Nat):Int):=by omega
  refine#[_,Z,_,Z,p,g,2,ys,Z,G.B,G.g,y1,y2,MO,MO,λX T o W dT gT R a=>?_]
  have O:=G.but R a
  refine#[_,Z,_,Z,_,Z,_,Z,_,Z,_,_,Z,Z,p,g,h,S,d',ys,hs,(by show [V.ref p,V.ref g,V.ref h,V.ref S,V.int (((d'+1:Nat):Int) - 1)]=_;rw[ed]),O,MP,(by rw[kn G.B G.s a];omega),λr3 b3 b0 H6 h6 h7 a1 h8 h0 B6 s6 k6=>#[gm,λt N=>?_]]
  have G6:=O.but2 B6 s6 k6
  have I:ai H6 (af H6 t (.tup [.str "while",.ref X,.ref r3])):=ae.tm (je N)
  rw[eR]
  refine q t (.loop t X T b3 .nil) _ #[r3,b0,[],Z,jc,(W.mono (k6.tm O.B O.s)).mono I,I _ _ h6,h7.mono I,Z] (by have x1:=kn G.B G.s a;rw[kh G6.s (je N)];show((b3.size+0+1:Nat):Int)+_<=_;omega) (by rw[kh G6.s (je N)];exact h8) (pf #[gT,MP] h0) (G6.B.upd_new N) (G6.s.new N) ((K3.trans (a.two.trans k6)).trans (a7.of_same (je N)))
 obtain⟨rfl,e⟩:=z
 rw[e]
 refine u _ _ ?_
 clear u
 refine aj λF1 u=>nk λG' D=>#[_,Z,Z,_,Z,D _ _ ?_]
 clear D
 refine bV (λc=>?_) (λc=>u _ _ ?_)
 ·refine#[_,Z,_,Z,p,g,2,ys,Z,G.B,G.g,y1,y2,MO,MO,λX T o W dT gT R a=>#[bX,λt N=>?_]]
  exact l0 (.gv X T) _ o t #[Z,W] #[gT,MP] Gg (G.but R a) (K3.trans a.two) ((kn G.B G.s a).trans e3) N
 ·refine#[_,Z,_,Z,_,Z,p,g,3,ys,Z,G.B,G.g,y1,y2,MO,MO,λX T o W dT gT R a=>#[gm,λt N=>?_]]
  exact l0 (.st y X T) _ o t #[Z,W] #[hy,gT,MP] Gg (G.but R a) (K3.trans a.two) ((kn G.B G.s a).trans e3) N
theorem mz:al ["_law_box_here","_law_names_here","_law_heads","_law_spare","_law_deep","_law_body_here","_law_k"] ["_law_box_here","_law_names_here","_law_heads","_law_spare","_law_deep"] (aa nC):=bP
theorem Y6(F:aU K "_law_body" "_law_body" nC f fd)(cT:Cl P w K mg base 1 fT cf ["_law_box_here","_law_wide"] ba "_law_take"){L:Nat}(cS:Cl P w K mg base (L+8) fS f0 ["_law_box_here","_law_names_here","_law_heads","_law_spare","_law_deep"] (lN n) "_law_statement")(mr:mg "range"=none)(m2:mg "tuple"=none):ah P w K mg base aE (L+9) f fd ["_law_box_here","_law_names_here","_law_heads","_law_spare","_law_deep"] (hX n):=by
 refine F.ok mz ?_ λc0 A o1 s H v Q E hr h=>?_
 ·rintro _ _ _ _ ⟨p,g,h,S,d,ys,hs,rfl,_⟩
  rfl
 refine aZ λGq y=>?_
 obtain⟨p,g,h,S,d,ys,hs,rfl,G,hd,h0,q⟩:=h
 refine y ?_
 clear y
 refine#[_,(jd (jA 5 mz.nd (jF jb)) (jd (j9 Gv Z (kM Z mr (ja (cT.e hr.m (ja (pv 0) (ja jf jb))) jb)) (jw (i:=6) mz.nd Z (Or.inl Z)) (jg (jx (jB Jz (jv jr (pv 3) jf (λ_ _=>Z)) jf (aK _)) (jg (jT (kN F8 Gk Gj jR (pv 5) (ja (cS.e hr (ja (pv 0) (ja (pv 1) (ja (pv 2) (ja (pv 3) (ja (pv 4) jb)))))) jb)))) jp))) (jg (jo (jE jH Z m2 Ig (ja (pv 5) jb)))))),?_]
 have b0:=aN
 refine#[FN _,λl N=>?_]
 have s0:ae H (af H l (.lst [])):=je N
 have O:lS (af H l (.lst [])) p g h S ys hs:=G.but2 (G.B.upd_new N) (G.s.new N) (a7.of_same s0)
 have l1:af H l (.lst []) l=some (.lst []):=jc
 have lp:l≠p:=G.B.ne N
 have D:l≠S:=λe=>by obtain⟨k,z⟩:=G.s;rw[<- e,N]at z;cases z
 have k1:a7 p S H (af H l (.lst [])):=a7.of_same s0
 have R:gj (af H l (.lst [])) S=gj H S:=kh G.s s0
 generalize af H l (.lst [])=H1 at O l1 k1 R
 refine#[_,Z,p,6,Z,O.B,MO,MO,λm H2 m0 m1 B2 e2=>#[_,Z,MP,MP,?_]]
 have G2:=O.but B2 (au.of_eq e2)
 refine Qe (lo:=0) (λi σ I=>∃(o6:Option V) (v:List V) (b:Bd),σ=[some (.ref p),some (.ref g),some (.ref h),some (.ref S),some (.int (d:Int)),some (.ref l),o6]/\I l=some (.lst v)/\dw I b v/\((b.size:Int)+gj I S<=gj H S/\0<=gj I S)/\b.fit hs ys d/\v.length<=i/\aq I p/\dn I S/\a7 p S H I)
  #[none,[],.nil,Z,by rw[e2 l lp];exact l1,Z,(by rw[kn O.B O.s (au.of_eq e2),R];exact#[by show((0:Nat):Int)+_<=_;omega,h0]),Y4,FN _,B2,G2.s,k1.trans (au.of_eq e2).two] ?_ ?_
 ·intro i σ H3 hi J
  refine aZ λGq y=>?_
  obtain⟨o6,v,b,rfl,a,u,j,x,h1,T,C,U⟩:=J
  refine y ?_
  clear y
  have G3:=G.but2 T C U
  obtain⟨kk,W⟩:=id C
  refine#[_,Z,S,_,_,_,Z,Z,aP.of W,Z,_,_,Z,Z,_,Z,?_]
  refine bV (λc=>?_) (λc=>?_)
  ·refine#[_,Z,.inl #[Z,_,aP.of a],_,Z,_,Z,_,Z,_,Z,_,Z,p,g,h,S,d,ys,hs,Z,G3,hd,(by rw[Jo W];exact GN c),λr b4 H4 h2 h5 h3 h4 B4 s4 k4=>?_]
   have X:H4 l=some (.lst v):=k4 _ _ lp D a
   refine#[l,_,_,Z,Z,X,MP,?_]
   have tm:ai H4 (af H4 l (.lst (v++[.ref r]))):=λb' xs e=>by rw[jk (jO e X (by intro z;cases z))];exact e
   have Y:ai H3 H4:=k4.tm T C
   refine#[_,_,b.app b4,Z,jc,(h2.mono tm).app ((u.mono Y).mono tm),?_,Y5 x h4,by rw[FD];show v.length+1<=i+1;omega,B4.eq (jk (Gp lp)),?_,λb' o n1 n2 e=>?_]
   ·rw[jV,XX s4 λo e=>by rw[jk (Gp D)];exact e]
    obtain⟨z1,z2⟩:=j
    exact#[MP,h3]
   ·obtain⟨z,hz⟩:=s4
    exact#[z,by rw[jk (Gp D)];exact hz]
   ·rw[jk (jm e N)]
    exact k4 _ _ n1 n2 (U _ _ n1 n2 e)
  ·exact#[_,v,b,Z,a,u,j,x,MP,T,C,U]
 ·intro σ H3 J
  refine aZ λGq y=>?_
  obtain⟨o6,v,b,rfl,a,u,j,x,h1,T,C,U⟩:=J
  refine y ?_
  clear y
  refine#[_,Z,l,v,Z,.inl #[aP.of a,λt M=>?_]]
  have hm:(m).toNat<=5:=by omega
  refine q t b v _ jc (u.mono (ae.tm (je M))) (by rw[kh C (je M)];exact j.1) (by rw[kh C (je M)];exact j.2) x (T.upd_new M) (C.new M) (U.trans (a7.of_same (je M)))
theorem pM:ah P w K mg base aE 8 f c ["_law_box_here","_law_names_here","_law_heads","_law_spare","_law_deep"] (lN 0):=by
 have n:∀v H Q E,¬lN 0 v H Q E:=λv H Q E h=>by
  refine aZ λG k=>?_
  obtain⟨p,g,h,S,d,y,e,_,_,b,_⟩:=h
  refine k ?_
  clear k
  exact absurd b (IY _)
 exact#[λv H Q E h=>absurd h (n v H Q E),λA o s H a u v Q E _ _ _ _ h=>absurd h (n v H Q E)]
theorem Dh{cf:FuncData}(F:aU K "_law_statement" "_law_statement" rZ f e)(FB:aU K "_law_body" "_law_body" nC g a)(c:Cl P w K mg base 1 q cf ["_law_box_here","_law_wide"] ba "_law_take")(C:Cl P w K mg base 6 r k ["_law_box_here","_law_names_here","_law_deep"] (dh 4) "_law_term")(h:Cl P w K mg base 7 s l ["_law_box_here","_law_names_here"] le "_law_spot")(b:ay K e ["_law_box_here","_law_names_here","_law_heads","_law_spare","_law_deep"] [])(M:mg "_law_statement"=some (.ref f))(B:ay K a ["_law_box_here","_law_names_here","_law_heads","_law_spare","_law_deep"] [])(i:mg "_law_body"=some (.ref g))(j:mg "len"=none)(m:mg "tuple"=none)(d:mg "range"=none):
  ∀n:Nat,ah P w K mg base aE (n+n+8) f e ["_law_box_here","_law_names_here","_law_heads","_law_spare","_law_deep"] (lN n)/\ah P w K mg base aE (n+n+9) g a ["_law_box_here","_law_names_here","_law_heads","_law_spare","_law_deep"] (hX n)
 |0=>#[pM,Y6 (L:=0) FB c #[pM,b,F.kp,M] d m]
 |n+1=>by
  have I:=Dh F FB c C h b M B i j m d n
  have E:n+n+10=n+1+(n+1)+8:=by omega
  have o:n+n+2+9=n+1+(n+1)+9:=by omega
  have H:=Ao (L:=n+n) F c C h #[I.2,B,FB.kp,i] j m
  have p:=Y6 (L:=n+n+2) FB c #[H,b,F.kp,M] d m
  rw[<- E,<- o]
  exact#[H,p]
theorem BX{x:List V}(h:k<=x.length):a8 x none (some (k:Int))=x.take k:=by
 unfold a8
 rw[HT.sIx_nat,HT.sIx_none]
 have e:min k x.length=k:=by omega
 rw[e]
 simp
noncomputable abbrev AT:Stmt:=bQ 65
theorem uN(h:0<=d)(H:d < 4):∃D:Nat,dF [V.int 3,.int 3,.int 3,.int 5] d=some (.int (D:Int))/\D < 6/\ET D<=111111/\D<=5:=by
 rcases(by omega:d=0∨d=1∨d=2∨d=3) with rfl |rfl |rfl |rfl
 ·exact#[3,Z,MO,MO,MO]
 ·exact#[3,Z,MO,MO,MO]
 ·exact#[3,Z,MO,MO,MO]
 ·exact#[5,Z,MO,MO,MO]
theorem oO{ys:List Str}{k:Int}(h:ys.length=20)(H:14<=k)(a:k<=20):1<=(bn ys (some 8) (some k)).length/\(bn ys (some 8) (some k)).length<=20:=by
 refine#[?_,by have:=qo ys (some 8) (some k);omega]
 have e:(8:Int)=((8:Nat):Int):=rfl
 have E:k=((k.toNat:Nat):Int):=by omega
 unfold bn
 rw[e,E,HT.sIx_nat,HT.sIx_nat,Gf,HL]
 omega
theorem uK{ss:List Str}(h:0<=k):(bn ss none (some k)).length<=k.toNat:=by
 have e:k=((k.toNat:Nat):Int):=by omega
 unfold bn
 rw[e,HT.sIx_nat,HT.sIx_none,Gf]
 omega
theorem fQ{t u:TS}(h:∀E:bu,(∀a b,u D a b->E.nx a b)->t E c H):dO t u D c H:=h { D with nx:=u D } λ_ _ h=>h
def BJ(h:List (Str×List Str)):Prop:=∀c∈h,c.1.length<=20/\c.2.length<=6
def EV(H:Hp)(D:List Df):Prop:=∀d∈D,∃p:List Str,H d.pa=some (.tup (p.map V.str))/\p.length<=100
theorem q8{a:Type}{P:a->Prop}{X:List a}{x:a}(h:∀c∈X,P c)(H:P x):∀c∈X++[x],P c:=λc b=>by
 rcases List.mem_append.mp b with h1 |h1
 ·exact h c h1
 ·rw[List.mem_singleton.mp h1];exact H
def lD(H:Hp)(D:List Df)(N:List Nat):Prop:=D.length=N.length/\∀(i:Nat) (d:Df) (n:Nat),D[i]?=some d->N[i]?=some n->∃p:List Str,H d.pa=some (.tup (p.map V.str))/\p.length=n/\n<=100
theorem lD.mono(h:lD H D N)(k:ai H a):lD a D N:=#[h.1,λi d n b c=>let #[p,e,l]:=h.2 i d n b c;#[p,k _ _ e,l]]
theorem lD.snoc{d:Df}{p:List Str}(h:lD H D N)(e:H d.pa=some (.tup (p.map V.str)))(l:p.length<=100):lD H (D++[d]) (N++[p.length]):=by
 refine#[by rw[FD,FD,h.1];rfl,λi c n a b=>?_]
 by_cases f:i < D.length
 ·rw[HR f]at a
  rw[HR (by rw[<- h.1];exact f)]at b
  exact h.2 i c n a b
 ·have g:i < (D++[d]).length:=(List.getElem?_eq_some_iff.mp a).1
  rw[FD]at g
  have E:i=D.length:=by have:i < D.length+1:=g;omega
  subst E
  rw[HM (Fz _),Ln]at a
  rw[h.1,HM (Fz _),Ln]at b
  cases a
  cases b
  exact#[p,e,Z,l]
theorem lD.v(h:lD H D n):EV H D:=λd b=>by
 obtain⟨i,a,e⟩:=List.mem_iff_getElem.mp b
 have c:D[i]?=some d:=by rw[<- e];exact Fu a
 obtain⟨p,e,l,k⟩:=h.2 i d _ c (Fu (by rw[<- h.1];exact a))
 exact#[p,e,MP]
def oB(D:List Df)(n:List Nat):Prop:=(∀d∈D,lY d/\d.b.Cs ((D.map Df.f).zip n))/\(D.map Df.f).Nodup/\∀y∈D.map Df.f,y.length<=20
def sQ:Sp:=λv H Q _=>∃(p:Addr) (T R:Int),v=[.ref p,.int T,.int R]/\aq H p/\1<=T/\T<=8/\0<=R/\R<=40/\
 ∀(r:Addr) (d:List Df) (x:List V) (h:Hp),h r=some (.tup x)->cw h d x->(d.length:Int)=T->∀n:List Nat,oB d n->lD h d n->aq h p->au p H h->Q (.ref r) h
theorem cX:al ["_law_box_here","_law_total","_law_room","_law_words","_law_most","_law_heads","_law_k","_law_turn","_law_row","_law_some","_law_deep","_law_defs","_law_f","_law_params","_law_spare","_law_body_here"] ["_law_box_here","_law_total","_law_room"] (aa AT):=bP
inductive AJ(p wl:Addr)(T rm:Int)(H:Hp)(σ':L2.St)(H':Hp):Prop
 |mk (ys':List Str) (e0:σ'=[some (.ref p),some (.int T),some (.int rm),some (.ref wl),none,none,none,none,none,none,none,none,none,none,none,none]) (e1:H' wl=some (.lst (ys'.map V.str))) (e2:ys'.length=20) (e3:(∀y∈ys',y.length<=20)/\(ys'.take 8).Nodup) (e4:aq H' p) (e5:au p H H'):AJ p wl T rm H σ' H'
inductive AI(p wl hl:Addr)(T rm m:Int)(ys:List Str)(H:Hp)(i:Nat)(σ:L2.St)(H':Hp):Prop
 |mk (o6 o7 o8:Option V) (hs:List (Str×List Str)) (hv:List V) (e0:σ=[some (.ref p),some (.int T),some (.int rm),some (.ref wl),some (.int m),some (.ref hl),o6,o7,o8,none,none,none,none,none,none,none]) (e1:H' hl=some (.lst hv)) (e2:dE H' hs hv) (e3:hs.length=i) (e4:BJ hs/\hs.map (·.1)=ys.take i) (e5:H' wl=some (.lst (ys.map V.str))) (e6:aq H' p) (e7:au p H H'):AI p wl hl T rm m ys H i σ H'
inductive AK(p wl hl sm dl:Addr)(T rm m:Int)(dp:Nat)(zs:List Str)(hs:List (Str×List Str))(hv:List V)(H:Hp)(i:Nat)(σ:L2.St)(H':Hp):Prop
 |mk (o6 o7 o8 o12 o13 o14 o15:Option V) (ds:List Df) (dv:List V) (e0:σ=[some (.ref p),some (.int T),some (.int rm),some (.ref wl),some (.int m),some (.ref hl),o6,o7,o8,some (.ref sm),some (.int (dp:Int)),some (.ref dl),o12,o13,o14,o15]) (e1:H' dl=some (.lst dv)) (e2:cw H' ds dv) (e3:ds.length=i) (e4:(∀d∈ds,lY d/\d.b.Cs (hs.map λc=>(c.1,c.2.length)))/\ds.map Df.f=(hs.map (·.1)).take i) (e5:H' hl=some (.lst hv)) (e6:dE H' hs hv) (e7:H' sm=some (.lst (zs.map V.str))) (e8:aq H' p) (e9:au p H H') (e10:lD H' ds ((hs.map λc=>c.2.length).take i)):AK p wl hl sm dl T rm m dp zs hs hv H i σ H'
inductive AL(hs:List (Str×List Str))(zs:List Str)(p wl hl sm dl t0 sp:Addr)(T rm m:Int)(dp:Nat)(o7 o8:Option V)(c:Str×List Str)(H9:Hp)(j:Nat)(σ:L2.St)(H':Hp):Prop
 |mk (o6':Option V) (bb:Addr) (Bb:Bd) (bs:List V) (e0:σ=[some (.ref p),some (.int T),some (.int rm),some (.ref wl),some (.int m),some (.ref hl),o6',o7,o8,some (.ref sm),some (.int (dp:Int)),some (.ref dl),some (.str c.1),some (.ref t0),some (.ref sp),some (.ref bb)]) (e1:H' bb=some (.tup bs)) (e2:dw H' Bb bs) (e3:(Bb.size:Int)+gj H' sp<=rm/\0<=gj H' sp) (e4:Bb.fit hs zs dp) (e5:aq H' p) (e6:dn H' sp) (e7:a7 p sp H9 H'):AL hs zs p wl hl sm dl t0 sp T rm m dp o7 o8 c H9 j σ H'
theorem y8(F:aU K "_law_any" "_law_any" AT f fd)(cT:Cl P w K mg base 1 fT cf ["_law_box_here","_law_wide"] ba "_law_take")(cA:Cl P w K mg base 2 fA l5 ["_law_box_here","_law_total"] gN "_law_names")(cB:Cl P w K mg base 21 fB l6 ["_law_box_here","_law_names_here","_law_heads","_law_spare","_law_deep"] (hX 6) "_law_body")(ml:mg "len"=none)(mr:mg "range"=none)(m0:mg "tuple"=none)(mi:mg "int"=none):ah P w K mg base aE 22 f fd ["_law_box_here","_law_total","_law_room"] sQ:=by
 refine F.ok cX ?_ λl8 A o5 s H vs Q E hr h=>?_
 ·rintro _ _ _ _ ⟨p,T,Y,rfl,_⟩
  rfl
 refine aZ λGq u=>?_
 obtain⟨p,T,Y,rfl,B,l',m',f',o',q⟩:=h
 refine u ?_
 clear u
 refine#[_,(jd (jA 3 cX.nd (cA.e hr.m (ja (pv 0) (ja jf jb)))) (jd (jY (jx (za (cT.e hr.m (ja (pv 0) (ja jf jb)))) (jg (zf (jJ kB (pv 3) j7 (jG jf)) (@rg _ _ _ _ _ _ _ _ _ (pv 3) jf jf (by intro _;rfl)))) jp)) (jd (jA 4 cX.nd (jv jr (jF (ja jf (ja jf jb))) (jE Js Z mi boot_int (ja (qu qO (cT.e hr.m (ja (pv 0) (ja jf jb))) jf (aK _)) jb)) (λ_ _=>Z))) (jd (jA 5 cX.nd (jF jb)) (jd (j9 Gv Z (kM Z mr (ja (pv 1) jb)) (jw (i:=6) cX.nd Z (Or.inl Z)) (jd (jA 7 cX.nd (ju jX jf (cT.e hr.m (ja (pv 0) (ja jf jb))))) (jd (jA 8 cX.nd (ju qi (jJ kB (pv 3) (jG (pv 7)) (jG jf)) (jJ kB (pv 3) (jG jf) (jG (pv 7))))) (jg (jT (kN F8 Gk Gj jR (pv 5) (ja (jh (ja (jv jr (pv 3) (pv 6) (λ_ _=>Z)) (ja (jE jH Z m0 Ig (ja (jJ kB (pv 8) j7 (jG (cT.e hr.m (ja (pv 0) (ja (pv 4) jb))))) jb)) jb))) jb))))))) (jd (jA 9 cX.nd (jJ kB (pv 3) (jG jf) (jG (ju jX jf (cT.e hr.m (ja (pv 0) (ja jf jb))))))) (jd (jA 10 cX.nd (jv jr (jF (ja jf (ja jf (ja jf (ja jf jb))))) (cT.e hr.m (ja (pv 0) (ja jf jb))) (λ_ _=>Z))) (jd (jA 11 cX.nd (jF jb)) (jd (j9 Gv Z (qt (pv 5)) (ze (n:=2) Z (jz (jw (i:=12) cX.nd Z (Or.inl Z)) (jz (jw (i:=13) cX.nd Z (Or.inl Z)) j6))) (jd (jA 14 cX.nd (jF (ja (pv 2) jb))) (jd (jA 15 cX.nd (jh jb)) (jd (j9 Gv Z (kM Z mr (ja jf jb)) (jw (i:=6) cX.nd Z (Or.inl Z)) (jg (jA 15 cX.nd (ju j8 (pv 15) (cB.e hr (ja (pv 0) (ja (pv 9) (ja (pv 5) (ja (pv 14) (ja (pv 10) jb)))))))))) (jg (jT (kN F8 Gk Gj jR (pv 11) (ja (jh (ja (pv 12) (ja (pv 13) (ja (pv 15) jb)))) jb)))))))) (jg (jo (jE jH Z m0 Ig (ja (pv 11) jb))))))))))))),?_]
 have p1:=aN
 refine fQ λE1 m1=>?_
 refine#[_,Z,p,20,Z,B,MO,MO,λW ys H1 c6 g0 c9 C B1 k1=>?_]
 refine m1 _ _ ?_
 refine fQ λE2 m2=>?_
 have wp:W≠p:=B.ne c6
 refine dB (AJ p W T Y H) (λE0 _ fm=>?_) λσ0 H2 l=>?_
 ·clear m2
  refine nk λG' g'=>#[_,Z,p,2,Z,B1,MO,MO,λd1 H2 p2 p3 B2 e2=>?_]
  have h0:H2 W=some (.lst (ys.map V.str)):=by rw[e2 W wp];exact g0
  have k2:=k1.trans (au.of_eq e2)
  refine#[Z,_,Z,g' _ _ ?_]
  clear g'
  refine bV (λc=>?_) (λc=>fm _ _ #[ys,Z,h0,MP,#[C.1,C.2.sublist (HW _ _)],B2,k2])
  refine#[_,Z,_,Z,W,_,Z,aP.of h0,λsl n0=>?_]
  have g1:W≠sl:=λe=>by rw[<- e,h0]at n0;cases n0
  have p4:=B2.ne n0
  refine#[_,Z,W,sl,_,_,_,_,Z,Z,Z,Z,ao h0 n0,jc,g1,MO,MO,by rw[Fy];omega,?_,?_]
  ·have:=zd (ys.map V.str) none (some 2)
   rw[Fy]at this ⊢
   omega
  have e2:a8 (ys.map V.str) none (some 2)=(ys.take 2).map V.str:=by
   rw[show(2:Int)=((2:Nat):Int) from Z,BX (by rw[Fy];omega),Ld]
  refine fm _ _ #[ys.take 8++ys.take 2++ys.drop 10,Z,?_,?_,?_,(B2.upd_new n0).eq (jk (Gp wp)),?_]
  ·rw[jc,e2,Gm,Gm,Ld,List.map_drop,Ld]
   rfl
  ·rw[FD,FD,Gf,Gf,HL]
   omega
  ·refine#[λy hy=>?_,?_]
   ·rcases List.mem_append.mp hy with h |h
    ·rcases List.mem_append.mp h with h |h
     ·exact C.1 y (GU h)
     ·exact C.1 y (GU h)
    ·exact C.1 y (List.mem_of_mem_drop h)
   ·rw[List.append_assoc,List.take_append_of_le_length (by rw[Gf];omega),List.take_take]
    exact C.2.sublist (HW _ _)
  ·exact(k2.upd_new n0).upd_own c6
 obtain⟨ys,rfl,h0,c9,C,B2,k2⟩:=l
 refine m2 _ _ ?_
 clear m1 m2
 refine fQ λE3 m3=>?_
 refine#[bX,λl1 n'=>?_]
 refine#[_,Z,p,3,Z,B2.upd_new n',MO,MO,λd2 H3 p5 p6 B3 e3=>?_]
 have k3:au p H2 H3:=((au.refl).upd_new n').trans (au.of_eq e3)
 have l0:=B2.ne n'
 have g2:H3 l1=some (.lst [.int 4,.int 7]):=by rw[e3 l1 l0];exact jc
 refine#[Z,.inr #[_,Z,?_]]
 have a':∀c:Bool,∃m:Int,dF [V.int 4,V.int 7] (if c then 1 else 0)=some (.int m)/\4<=m/\m<=7:=λc=>by
  cases c
  ·exact#[4,Z,MO,MO]
  ·exact#[7,Z,MO,MO]
 obtain⟨m,hm,m4,m7⟩:=a' _
 refine#[l1,_,_,_,Z,Z,aP.of g2,hm,?_]
 refine m3 _ _ ?_
 refine fQ λE4 m4=>?_
 have c':H3 W=some (.lst (ys.map V.str)):=k3 _ _ wp h0
 have k0:=k2.trans k3
 refine#[FN _,λhl n1=>?_]
 refine m4 _ _ ?_
 refine fQ λE5 m5=>?_
 have h4:=B3.ne n1
 have n5:H hl=none:=by
  cases z:H hl with
  |none=>rfl
  |some o=>have:=k0 _ _ h4 z;rw[n1]at this;cases this
 have wh:W≠hl:=λe=>by rw[<- e,c']at n1;cases n1
 refine eB λJ j=>#[_,Z,T,Z,MP,MP,j _ _ ?_]
 clear j
 refine zE (lo:=0) (AI p W hl T Y m ys H)
  #[none,none,none,[],[],Z,jc,Z,Z,#[(λc hc=>nomatch hc),Z],ao c' n1,B3.upd_new n1,k0.upd_own n5] ?_ ?_
 ·intro D' _ i σ H4 hi f0 Gq u l
  obtain⟨o6,o7,o8,hs,hv,rfl,b1,h6,d4,h7,b2,B4,k4⟩:=l
  refine u ?_
  clear u m5 m3 m4
  show dO (dC _ _) _ D' _ _
  refine fQ λF1 f1=>?_
  refine#[_,Z,p,6,Z,B4,MO,MO,λD H5 g4 g5 B5 e5=>?_]
  have k5:au p H4 H5:=au.of_eq e5
  have h8:=k5 _ _ wp b2
  have b3:=k5 _ _ h4 b1
  have b4:=h6.mono (k5.tm B4)
  refine#[_,_,Z,Z,?_]
  refine f1 _ _ ?_
  show dO (dC _ _) _ D' _ _
  refine fQ λF2 f2=>?_
  refine#[_,Z,_,Z,_,Z,_,Z,W,_,Z,aP.of h8,λs1 b5=>?_]
  refine#[_,Z,_,Z,_,Z,_,Z,W,_,Z,aP.of (ao h8 b5),λs2 b7=>?_]
  have L1:=qo ys (some (8+D)) (some 14)
  have L0:=qo ys (some 8) (some (8+D))
  have L3:=zd (ys.map V.str) (some (8+D)) (some 14)
  have L4:=zd (ys.map V.str) (some 8) (some (8+D))
  rw[Fy]at L3 L4
  refine#[s1,s2,_,_,Z,Z,ao jc b7,jc,MP,λrl d6=>?_]
  refine f2 _ _ ?_
  have er:a8 (ys.map V.str) (some (8+D)) (some 14)++a8 (ys.map V.str) (some 8) (some (8+D))=(bn ys (some (8+D)) (some 14)++bn ys (some 8) (some (8+D))).map V.str:=by
   rw[zw,zw,Gm]
  have s6:ae H5 (af (af (af H5 s1 (.lst (a8 (ys.map V.str) (some (8+D)) (some 14)))) s2 (.lst (a8 (ys.map V.str) (some 8) (some (8+D))))) rl (.lst (a8 (ys.map V.str) (some (8+D)) (some 14)++a8 (ys.map V.str) (some 8) (some (8+D))))):=((je b5).trans (je b7)).trans (je d6)
  have r6:af (af (af H5 s1 (.lst (a8 (ys.map V.str) (some (8+D)) (some 14)))) s2 (.lst (a8 (ys.map V.str) (some 8) (some (8+D))))) rl (.lst (a8 (ys.map V.str) (some (8+D)) (some 14)++a8 (ys.map V.str) (some 8) (some (8+D)))) rl=some (.lst ((bn ys (some (8+D)) (some 14)++bn ys (some 8) (some (8+D))).map V.str)):=by rw[jc,er]
  have B6:aq (af (af (af H5 s1 (.lst (a8 (ys.map V.str) (some (8+D)) (some 14)))) s2 (.lst (a8 (ys.map V.str) (some 8) (some (8+D))))) rl (.lst (a8 (ys.map V.str) (some (8+D)) (some 14)++a8 (ys.map V.str) (some 8) (some (8+D))))) p:=((B5.upd_new b5).upd_new b7).upd_new d6
  generalize af (af (af H5 s1 (.lst (a8 (ys.map V.str) (some (8+D)) (some 14)))) s2 (.lst (a8 (ys.map V.str) (some 8) (some (8+D))))) rl (.lst (a8 (ys.map V.str) (some (8+D)) (some 14)++a8 (ys.map V.str) (some 8) (some (8+D))))=H6 at s6 r6 B6
  have LR:(bn ys (some (8+D)) (some 14)++bn ys (some 8) (some (8+D))).length<=40:=by rw[FD];omega
  generalize bn ys (some (8+D)) (some 14)++bn ys (some 8) (some (8+D))=r0 at r6 LR
  have d8:=s6 _ _ h8
  have h':=s6 _ _ b3
  have ei:(0:Int)+(i:Int)=(i:Int):=Int.zero_add _
  rw[ei]
  obtain⟨y,b'⟩:∃y,ys[i]?=some y:=#[_,Fu (by omega:i < ys.length)]
  have hy:=F' b'
  have a':dF (ys.map V.str) (i:Int)=some (.str y):=jN (by rw[FT,b'];rfl)
  have rp:rl≠p:=qj B6 r6
  refine#[_,Z,.inl #[Z,_,aP.of h'],_,Z,_,Z,W,_,_,_,Z,Z,aP.of d8,a',_,Z,_,Z,_,Z,p,m,Z,B6,MP,MP,λd7 H7 d0 d' B7 e7=>?_]
  have k7:au p H6 H7:=au.of_eq e7
  refine#[_,Z,rl,_,Z,aP.of (k7 _ _ rp r6),λs3 e0=>?_]
  refine#[s3,_,Z,.inl #[aP.of jc,λt nt=>#[bX,λr nr=>?_]]]
  rw[zw]at nt nr ⊢
  have L8:=uK (ss:=r0) d0
  generalize bn r0 none (some d7)=ps at*
  have s8:ae H7 (af (af (af H7 s3 (.lst (ps.map V.str))) t (.tup (ps.map V.str))) r (.tup [.str y,.ref t])):=((je e0).trans (je nt)).trans (je nr)
  have t8:af (af (af H7 s3 (.lst (ps.map V.str))) t (.tup (ps.map V.str))) r (.tup [.str y,.ref t]) t=some (.tup (ps.map V.str)):=ao jc nr
  have r8:af (af (af H7 s3 (.lst (ps.map V.str))) t (.tup (ps.map V.str))) r (.tup [.str y,.ref t]) r=some (.tup [.str y,.ref t]):=jc
  have B8:aq (af (af (af H7 s3 (.lst (ps.map V.str))) t (.tup (ps.map V.str))) r (.tup [.str y,.ref t])) p:=((B7.upd_new e0).upd_new nt).upd_new nr
  generalize af (af (af H7 s3 (.lst (ps.map V.str))) t (.tup (ps.map V.str))) r (.tup [.str y,.ref t])=R at s8 t8 r8 B8
  have e4:=s8 _ _ (k7 _ _ h4 h')
  have g6:=s8 _ _ (k7 _ _ wp d8)
  have h5:=h6.len
  refine#[hl,_,_,Z,Z,e4,MP,?_]
  have tm:ai R (af R hl (.lst (hv++[.ref r]))):=λb xs e=>by rw[jk (jO e e4 (by intro z;cases z))];exact e
  have g7:=((b4.mono (ae.tm s6)).mono (k7.tm B6)).mono (ae.tm s8)
  refine f0 _ _ #[_,_,_,hs++[(y,ps)],_,Z,jc,(g7.mono tm).snoc #[r,t,Z,tm _ _ r8,tm _ _ t8],by rw[FD,d4];rfl,#[q8 h7.1 #[C.1 y hy,by show ps.length<=6;omega],by rw[Gm,h7.2,Iq,b'];rfl],by rw[jk wh];exact g6,B8.eq (jk (Gp h4)),?_]
  refine au.upd_own (λb o n e=>?_) n5
  exact s8 _ _ (k7 _ _ n (s6 _ _ (k5 _ _ n (k4 _ _ n e))))
 intro σ H4 l
 refine aZ λGq u=>?_
 obtain⟨o6,o7,o8,hs,hv,rfl,b1,h6,d4,⟨h7,e6⟩,b2,B4,k4⟩:=l
 refine u ?_
 clear u
 refine m5 _ _ ?_
 refine fQ λE6 m6=>?_
 refine#[_,Z,_,Z,_,Z,p,7,Z,B4,MO,MO,λD H5 g4 g5 B5 e5=>?_]
 have k5:au p H4 H5:=au.of_eq e5
 have h8:=k5 _ _ wp b2
 have b3:=k5 _ _ h4 b1
 have b4:=h6.mono (k5.tm B4)
 refine#[_,_,Z,Z,_,Z,W,_,Z,aP.of h8,λsm n3=>?_]
 refine m6 _ _ ?_
 refine fQ λE7 m7=>?_
 obtain⟨z1,z2⟩:=oO (ys:=ys) (k:=14+D) c9 MP MP
 have m6:af H5 sm (.lst (a8 (ys.map V.str) (some 8) (some (14+D)))) sm=some (.lst ((bn ys (some 8) (some (14+D))).map V.str)):=by rw[jc,zw]
 have k6:au p H (af H5 sm (.lst (a8 (ys.map V.str) (some 8) (some (14+D))))):=(k4.trans k5).upd_new n3
 have h':=ao (o:=.lst (a8 (ys.map V.str) (some 8) (some (14+D)))) b3 n3
 have e8:=b4.mono (ae.tm (je (o:=.lst (a8 (ys.map V.str) (some 8) (some (14+D)))) n3))
 have B6:=B5.upd_new (o:=.lst (a8 (ys.map V.str) (some 8) (some (14+D)))) n3
 generalize af H5 sm (.lst (a8 (ys.map V.str) (some 8) (some (14+D))))=H6 at m6 k6 h' e8 B6
 generalize bn ys (some 8) (some (14+D))=zs at m6 z1 z2
 have s':=qj B6 m6
 refine#[tE,λl2 c0=>?_]
 refine#[_,Z,p,4,Z,B6.upd_new c0,MO,MO,λd7 H7 d0 d' B7 e7=>?_]
 have k7:au p H6 H7:=((au.refl).upd_new c0).trans (au.of_eq e7)
 have l3:=B6.ne c0
 have g8:H7 l2=some (.lst [.int 3,.int 3,.int 3,.int 5]):=by rw[e7 l2 l3];exact jc
 refine aZ λGq u=>?_
 obtain⟨dp,i0,i1,p9,p'⟩:=uN d0 d'
 refine u ?_
 clear u
 refine#[l2,_,_,_,Z,Z,aP.of g8,i0,?_]
 refine m7 _ _ ?_
 refine fQ λE8 m8=>?_
 have m7:=k7 _ _ s' m6
 have c1:=k7 _ _ h4 h'
 have i2:=e8.mono (k7.tm B6)
 have k9:=k6.trans k7
 refine#[FN _,λdl N=>?_]
 refine m8 _ _ ?_
 refine fQ λE9 m9=>?_
 have d3:=B7.ne N
 have n7:H dl=none:=by
  cases z:H dl with
  |none=>rfl
  |some o=>have:=k9 _ _ d3 z;rw[N]at this;cases this
 have e':hl≠dl:=λe=>by rw[<- e,c1]at N;cases N
 have s5:sm≠dl:=λe=>by rw[<- e,m7]at N;cases N
 have q1:=h6.len
 refine eB λJ j=>#[_,Z,hl,Z,#[_,aP.of (ao c1 N)],j _ _ ?_]
 clear j
 refine Ju (K:=K) (a:=hl) (xs:=hv) (AK p W hl sm dl T Y m dp zs hs hv H)
  #[_,_,_,_,_,_,_,[],[],Z,jc,Z,Z,#[(λc hc=>nomatch hc),Z],ao c1 N,i2.mono (ae.tm (je N)),ao m7 N,B7.upd_new N,k9.upd_own n7,#[Z,(λi d n h=>nomatch h)]] ?_ ?_ ?_
 ·intro i σ R _ l
  refine aZ λGq u=>?_
  obtain⟨o6,o7,o8,o1,o2,o3,o4,ds,dv,rfl,h5,hD,a0,x,hh,hd,c2,B8,k8,p0⟩:=l
  refine u ?_
  clear u
  exact aP.of hh
 ·intro D' _ i v σ R hx f0 Gq u l
  obtain⟨o6,o7,o8,o1,o2,o3,o4,ds,dv,rfl,h5,hD,a0,x,hh,hd,c2,B8,k8,p0⟩:=l
  have q2:i < hv.length:=(List.getElem?_eq_some_iff.mp hx).1
  obtain⟨c,hc,q0,t0,rfl,w1,w2⟩:=hd.at i v hx
  refine u ?_
  clear u m9
  have i3:=F' hc
  have f4:=h7 c i3
  refine Fk λF6 f6=>#[q0,_,Z,aA.of w1,Z,_,_,Z,_,_,Z,Z,f6 _ _ ?_]
  clear f6
  show dO (dC _ _) _ D' _ _
  refine fQ λF1 f1=>?_
  refine#[_,Z,lO,λM n2=>?_]
  refine f1 _ _ ?_
  show dO (dC _ _) _ D' _ _
  refine fQ λF2 f2=>?_
  refine#[lW,λb0 n4=>?_]
  refine f2 _ _ ?_
  show dO (Bk _ _ _) _ D' _ _
  refine fQ λF3 f3=>?_
  have s9:ae R (af (af R M (.lst [.int Y])) b0 (.tup [])):=(je n2).trans (je n4)
  have s4:dn (af (af R M (.lst [.int Y])) b0 (.tup [])) M:=#[Y,ao jc n4]
  have b9:af (af R M (.lst [.int Y])) b0 (.tup []) b0=some (.tup []):=jc
  have B9:aq (af (af R M (.lst [.int Y])) b0 (.tup [])) p:=(B8.upd_new n2).upd_new n4
  have e9:gj (af (af R M (.lst [.int Y])) b0 (.tup [])) M=Y:=Jo (ao jc n4)
  generalize af (af R M (.lst [.int Y])) b0 (.tup [])=H9 at s9 s4 b9 B9 e9
  have f5:H M=none:=by
   cases z:H M with
   |none=>rfl
   |some o=>have:=k8 _ _ (B8.ne n2) z;rw[n2]at this;cases this
  have i4:dl≠M:=λe=>by rw[<- e,h5]at n2;cases n2
  have G9:lS H9 p sm hl M zs hs:=#[B9,s9 _ _ c2,z1,z2,#[hv,s9 _ _ hh,hd.mono (ae.tm s9)],MP,MP,λc hc=>(h7 c hc).2,s4]
  refine eB λJ j=>#[_,Z,MO,MO,j _ _ ?_]
  clear j
  refine zE (lo:=0) (AL hs zs p W hl sm dl t0 M T Y m dp o7 o8 c H9)
   #[_,b0,.nil,[],Z,b9,Z,(by rw[e9];exact#[by show((0:Nat):Int)+_<=_;omega,f']),Y4,B9,s4,a7.refl] ?_ ?_
  ·intro q3 _ j σ G hj fin2 Gq u l
   obtain⟨o9,bb,Bb,bs,rfl,c3,a1,a2,I,B',U,L⟩:=l
   refine u ?_
   clear u f1 f2 f3
   have G0:=G9.but2 B' U L
   refine#[_,Z,_,Z,_,Z,_,Z,_,Z,_,Z,p,sm,hl,M,dp,zs,hs,Z,G0,i1,a2.2,λr b q4 H0 X a4 i' c4 c5 a3 S k'=>?_]
   have tm:=k'.tm B' U
   have lb:=a1.len
   have q5:=a4.len
   obtain⟨j0,j1⟩:=a2
   refine#[bb,r,_,_,Z,Z,tm _ _ c3,X,MP,λr2 H' f7 s0=>?_]
   have j2:aq H' p:=by
    refine aZ λGq u=>?_
    obtain⟨a,b,h1,h2,h3,h⟩:=a3.ob
    refine u ?_
    clear u
    exact#[a,b,h1,h2,h3,s0 _ _ h]
   have s7:dn H' M:=by
    obtain⟨z,hz⟩:=S
    exact#[z,s0 _ _ hz]
   refine fin2 _ _ #[_,r2,Bb.app b,_,Z,f7,(a4.mono (ae.tm s0)).app ((a1.mono tm).mono (ae.tm s0)),?_,Y5 I c5,j2,s7,L.trans (k'.trans (a7.of_same s0))]
   rw[jV,kh S s0]
   exact#[MP,c4]
  ·intro σ G l
   refine aZ λGq u=>?_
   obtain⟨o9,bb,Bb,bs,rfl,c3,a1,a2,I,B',U,L⟩:=l
   refine u ?_
   clear u
   refine f3 _ _ ?_
   have O:G dl=some (.lst dv):=L _ _ d3 i4 (s9 _ _ h5)
   have G0:=G9.but2 B' U L
   have t3:ai R G:=λb xs e=>L.tm B9 s4 _ _ (s9 _ _ e)
   refine#[_,Z,.inl #[Z,_,aP.of O],_,Z,_,Z,_,Z,gm,λr nr=>?_]
   have S:ae G (af G r (.tup [.str c.1,.ref t0,.ref bb])):=je nr
   have l4:=hD.len
   have f9:Bb.size<=40:=by obtain⟨j0,j1⟩:=a2;omega
   refine#[dl,_,_,Z,Z,S _ _ O,MP,?_]
   have X:af G r (.tup [.str c.1,.ref t0,.ref bb]) r=some (.tup [.str c.1,.ref t0,.ref bb]):=jc
   have a3:=B'.upd_new (o:=.tup [.str c.1,.ref t0,.ref bb]) nr
   generalize af G r (.tup [.str c.1,.ref t0,.ref bb])=H0 at S X a3
   have tm:ai H0 (af H0 dl (.lst (dv++[.ref r]))):=λb xs e=>by rw[jk (jO e (S _ _ O) (by intro z;cases z))];exact e
   have t2:ai G (af H0 dl (.lst (dv++[.ref r]))):=λb xs e=>tm _ _ (S _ _ e)
   have t1:ai R (af H0 dl (.lst (dv++[.ref r]))):=λb xs e=>t2 _ _ (t3 _ _ e)
   refine f0 _ _ #[_,_,_,_,_,_,_,ds++[#[c.1,r,t0,bb,Bb]],_,Z,jc,(hD.mono t1).snoc #[bs,Z,tm _ _ X,t2 _ _ c3,a1.mono t2],by rw[FD,a0];rfl,#[q8 x.1 #[#[#[zs,z2,I.1.1],Hq I.2 MP,FL f9 MO],I.1.2],by rw[Gm,x.2,Iq,FT,hc];rfl],?_,hd.mono t1,?_,a3.eq (jk (Gp d3)),?_,(by rw[Iq,FT,hc];exact(p0.mono t1).snoc (d:=#[c.1,r,t0,bb,Bb]) (t1 _ _ w2) (FL f4.2 MO))]
   ·obtain⟨q6,e1,e2⟩:=G0.h
    rw[jk e']
    exact S _ _ (L _ _ G9.hsp.2 G9.hsp.1 (s9 _ _ hh))
   ·rw[jk s5]
    exact S _ _ G0.g
   ·refine au.upd_own (λb o n e=>?_) n7
    exact S _ _ (L _ _ n (jm e f5) (s9 _ _ (k8 _ _ n e)))
 ·intro σ R l
  refine aZ λGq u=>?_
  obtain⟨o6,o7,o8,o1,o2,o3,o4,ds,dv,rfl,h5,hD,a0,x,hh,hd,c2,B8,k8,p0⟩:=l
  refine u ?_
  clear u
  refine m9 _ _ ?_
  refine#[_,Z,dl,dv,Z,.inl #[aP.of h5,λt nt=>?_]]
  have nn:(ds.map Df.f).Nodup:=by
   rw[x.2,e6]
   refine List.Nodup.sublist (HW _ _) ?_
   have e:∀m,m<=8->ys.take m=(ys.take 8).take m:=λm hm=>by rw[List.take_take,IB hm]
   rw[e _ MP]
   exact C.2.sublist (HW _ _)
  exact q t ds dv _ jc (hD.mono (ae.tm (je nt))) MP (hs.map λc=>c.2.length) #[λd hd=>#[(x.1 d hd).1,by have e:=x.2;rw[Hw (by rw[Fy];omega)]at e;rw[e];have z:=(x.1 d hd).2;rw[show(hs.map λc=>(c.1,c.2.length))=(hs.map (·.1)).zip (hs.map λc=>c.2.length) by rw[List.zip_map']]at z;exact z],nn,λy hy=>by rw[x.2,e6]at hy;exact C.1 y (GU (GU hy))] (by have z:=p0.mono (ae.tm (je (o:=.tup dv) nt));rw[Hw (by rw[Fy];omega)]at z;exact z) (B8.upd_new nt) (k8.upd_new nt)
theorem lW:0<=sizeLine:=by decide
theorem lO:1<=sizeLine:=by decide
theorem bX:2<=sizeLine:=by decide
theorem gm:3<=sizeLine:=by decide
theorem tE:4<=sizeLine:=by decide
theorem ai.trans(a:ai H h)(b:ai h d):ai H d:=λc x e=>b c x (a c x e)
theorem ai.refl:ai H H:=λ_ _ e=>e
def gg(H:Hp)(y:List Str)(k:Nat)(a:Addr):Prop:=∃T,bj H T a/\T.Good y/\T.depth<=k
theorem gg.mono(h:gg H y k a)(m:ai H b):gg b y k a:=let #[T,c,d]:=h;#[T,c.mono m,d]
theorem gg.ok(h:gg H y k a)(m:k < 6):∃T,bj H T a/\di y T:=let #[T,b,c,d]:=h;#[T,b,c,Hq d m]
section
variable {Cf:gU}{H:Hp}{ys:List Str}
theorem Bp(h:H a=some (.tup [.str "num",.int n]))(b:0<=n)(c:n < 1000000000000000000):gg H ys 0 a:=#[.num n,h,#[b,c],FN _]
theorem tO(h:H a=some (.tup [.str "var",.str x]))(b:x∈ys):gg H ys 0 a:=#[.var x,h,b,FN _]
def Sg(s:Str):Prop:=∃i,i < 6/\s=Eo i
theorem yc(h:H a=some (.tup [.str "op",.str s,.ref b,.ref c]))(d:Sg s)(e:gg H ys j b)(f:gg H ys k c)(q:j < n)(r:k < n):gg H ys n a:=by
 obtain⟨i,g,rfl⟩:=d
 obtain⟨B,l,m,t⟩:=e
 obtain⟨C,o,p,u⟩:=f
 exact#[.op i B C,#[b,c,h,l,o],#[g,m,p],by show max B.depth C.depth+1<=n;omega]
theorem zj:Sg "+":=#[0,MO,MS]
theorem Xn:Sg "-":=#[1,MO,MS]
theorem Xo:Sg "*":=#[2,MO,MS]
theorem wI:Sg "/":=#[3,MO,MS]
theorem QQ:Sg "<":=#[4,MO,MS]
theorem Db:Sg "=":=#[5,MO,MS]
theorem vX(h:0<=d)(a:d < 4):∃s,dF [V.str "+",.str "+",.str "*",.str "-"] d=some (.str s)/\Sg s:=by
 rcases(by omega:d=0∨d=1∨d=2∨d=3) with rfl |rfl |rfl |rfl
 ·exact#[_,Z,zj]
 ·exact#[_,Z,zj]
 ·exact#[_,Z,Xo]
 ·exact#[_,Z,Xn]
theorem vW(h:0<=d)(a:d < 3):∃c,dF (Str.cps "<=*").toList d=some c/\Sg #[(List.toArray [c])]:=by
 rcases(by omega:d=0∨d=1∨d=2) with rfl |rfl |rfl
 ·exact#[_,Z,QQ]
 ·exact#[_,Z,Db]
 ·exact#[_,Z,Xo]
theorem CP{P:Addr->Prop}(e:0<=d)(f:d < 2)(h:P a)(c:P b):∃x,dF [V.ref a,.ref b] d=some (.ref x)/\P x:=by
 rcases(by omega:d=0∨d=1) with rfl |rfl
 ·exact#[_,Z,h]
 ·exact#[_,Z,c]
theorem CQ{P:Addr->Prop}(g:0<=d)(i:d < 3)(h:P a)(e:P b)(f:P c):∃x,dF [V.ref a,.ref b,.ref c] d=some (.ref x)/\P x:=by
 rcases(by omega:d=0∨d=1∨d=2) with rfl |rfl |rfl
 ·exact#[_,Z,h]
 ·exact#[_,Z,e]
 ·exact#[_,Z,f]
theorem CS{P:Addr->Prop}(h:P a)(d:P b)(c:Bool):∃x,dF [V.ref a,.ref b] (if c then 1 else 0)=some (.ref x)/\P x:=by
 cases c
 ·exact#[_,Z,h]
 ·exact#[_,Z,d]
def cy(Cf:gU)(H:Hp)(ys:List Str)(d:Nat)(v:V):Prop:=∃s,gJ H v s/\(s.Ok ys/\s.Cs Cf)/\s.dep<=d/\s.size<=1+20*d
def gw(Cf:gU)(H:Hp)(ys:List Str)(d:Nat)(x:List V):Prop:=∃b,dw H b x/\(b.Ok ys/\b.Cs Cf)/\b.dep<=d/\b.size<=(1+20*d)*x.length
theorem cy.mono(h:cy Cf H ys d v)(m:ai H a):cy Cf a ys d v:=let #[s,b,c]:=h;#[s,b.mono m,c]
theorem gw.mono(h:gw Cf H ys d x)(m:ai H a):gw Cf a ys d x:=let #[s,b,c]:=h;#[s,b.mono m,c]
theorem cy.up(h:cy Cf H ys 0 v):cy Cf H ys d v:=let #[s,a,b,c,e]:=h;#[s,a,b,MP,MP]
theorem Ki:gw Cf H ys d []:=#[.nil,Z,#[Gg,Gg],FN _,FN _]
theorem Jp{xs:List V}(h:gw Cf H ys d xs)(g:gw Cf H ys d z):gw Cf H ys d (xs++z):=by
 obtain⟨a,c,A,f,i⟩:=h
 obtain⟨b,e,B,j,k⟩:=g
 refine#[a.app b,e.app c,#[Kg A.1 B.1,Kf A.2 B.2],by rw[zi];omega,?_]
 rw[jV,FD,Nat.mul_add]
 omega
theorem zp(h:cy Cf H ys d v):gw Cf H ys d [v]:=by
 obtain⟨s,a,b,c,e⟩:=h
 exact#[s,a.bd,b,c,by show s.size<=(1+20*d)*1;omega]
theorem jU(h:cy Cf H ys d v)(g:gw Cf H ys d xs):gw Cf H ys d (v::xs):=Jp (xs:=[v]) (zp h) g
theorem Q5{l:Lf}(h:H p=some (.tup v))(a:uy H l v)(b:l.Ok ys)(c:l.Cs Cf):cy Cf H ys 0 (.ref p):=#[.lf p l .nil,.lf p l v h a,#[#[b,Gg],c,Gg],Fz 0,Fz 1]
theorem Dl(h:H p=some (.tup [.str "read",.str x,.ref t]))(a:x∈ys)(b:gg H ys k t)(c:k < 6:=by decide):cy Cf H ys 0 (.ref p):=by
 obtain⟨T,d,e⟩:=b.ok c
 exact Q5 (l:=.rd x t T) h #[Z,d] #[a,e] Gg
theorem Dm(h:H p=some (.tup [.str "set",.str x,.ref t]))(a:x∈ys)(b:gg H ys k t)(c:k < 6:=by decide):cy Cf H ys 0 (.ref p):=by
 obtain⟨T,d,e⟩:=b.ok c
 exact Q5 (l:=.st x t T) h #[Z,d] #[a,e] Gg
theorem Dj(h:H p=some (.tup [.str "give",.ref t]))(a:gg H ys k t)(b:k < 6:=by decide):cy Cf H ys 0 (.ref p):=by
 obtain⟨T,c,d⟩:=a.ok b
 exact Q5 (l:=.gv t T) h #[Z,c] d Gg
theorem Dn(h:H p=some (.tup [.str "write",.ref t,.ref u]))(a:gg H ys k t)(b:gg H ys j u)(c:k < 6:=by decide)(d:j < 6:=by decide):cy Cf H ys 0 (.ref p):=by
 obtain⟨T,e,f⟩:=a.ok c
 obtain⟨U,g,i⟩:=b.ok d
 exact Q5 (l:=.wr t u T U) h #[Z,e,g] #[f,i] Gg
theorem Di{f:Str}(h:H p=some (.tup [.str "call",.str x,.str f,.ref q]))(b:x∈ys)(a:(f,2)∈Cf)(d:H q=some (.tup [.ref t,.ref u]))(e:gg H ys k t)(g:gg H ys j u)(i:k < 6:=by decide)(m:j < 6:=by decide):cy Cf H ys 0 (.ref p):=by
 obtain⟨T,n,o⟩:=e.ok i
 obtain⟨U,r,s⟩:=g.ok m
 refine Q5 (l:=.cl x f q [(t,T),(u,U)]) h #[Z,d,λc hc=>?_] #[b,(by show 2<=6;decide),λc hc=>?_] a
 ·rcases List.mem_cons.mp hc with rfl |hc
  ·exact n
  ·rw[List.mem_singleton.mp hc];exact r
 ·rcases List.mem_cons.mp hc with rfl |hc
  ·exact o
  ·rw[List.mem_singleton.mp hc];exact s
theorem Dk(h:H p=some (.tup [.str "if",.ref t,.ref q,.ref Q]))(e:gg H ys k t)(f:H q=some (.tup A))(g:H Q=some (.tup B))(G:gw Cf H ys 0 A)(i:gw Cf H ys 0 B)(r:A.length+B.length<=20)(j:k < 6:=by decide):cy Cf H ys 1 (.ref p):=by
 obtain⟨T,l,m⟩:=e.ok j
 obtain⟨a,n,c,s,u⟩:=G
 obtain⟨b,o,d,v,x⟩:=i
 exact#[.ite p t T a b .nil,.ite p t T a b q Q A B h l f g n o,#[#[m,c.1,d.1,Gg],c.2,d.2,Gg],(by show max (max a.dep b.dep+1) 0<=1;omega),(by show a.size+b.size+0+1<=21;omega)]
theorem tw(h:H p=some (.tup [.str "while",.ref t,.ref q]))(c:gg H ys k t)(d:H q=some (.tup A))(g:gw Cf H ys 0 A)(l:A.length<=20)(e:k < 6:=by decide):cy Cf H ys 1 (.ref p):=by
 obtain⟨T,f,i⟩:=c.ok e
 obtain⟨a,j,b,m,n⟩:=g
 exact#[.loop p t T a .nil,.loop p t T a q A h f d j,#[#[i,b.1,Gg],b.2,Gg],(by show max (a.dep+1) 0<=1;omega),(by show a.size+0+1<=21;omega)]
def oy(Cf:gU)(n:Nat)(H:Hp)(r:Addr)(f:Str):Prop:=∃d:Df,wZ H d (.ref r)/\(lY d/\d.b.Cs Cf)/\∃p:List Str,H d.pa=some (.tup (p.map V.str))/\p.length=n/\d.f=f
theorem oy.mono(h:oy Cf n H r f)(m:ai H a):oy Cf n a r f:=let #[d,b,c,p,e,g]:=h;#[d,b.mono m,c,p,m _ _ e,g]
theorem Cd{f:Str}{p:List Str}(h:H r=some (.tup [.str f,.ref a,.ref b]))(d:H a=some (.tup (p.map V.str)))(e:p.length=n)(i:H b=some (.tup x))(g:gw Cf H ys 1 x)(l:x.length<=100)(j:ys.length<=20):oy Cf n H r f:=by
 obtain⟨c,k,C,m,o⟩:=g
 exact#[#[f,r,a,b,c],#[x,Z,h,i,k],#[#[#[ys,j,C.1],(by show c.dep < 8;omega),(by show c.size<=3000;omega)],C.2],p,d,e,Z]
structure Wd(H0 H:Hp)(p wl:Addr)(ys:List Str):Prop where
 B:aq H p
 K:au p H0 H
 w:H wl=some (.lst (ys.map V.str))
theorem Wd.np(h:Wd b H p a ys):a≠p:=qj h.B h.w
theorem Wd.same(h:Wd a H p b ys)(s:ae H c):Wd a c p b ys:=#[h.B.same s,h.K.trans (au.of_same s),s _ _ h.w]
theorem Wd.but(h:Wd b H p c ys)(B:aq a p)(k:au p H a):Wd b a p c ys:=#[B,h.K.trans k,k _ _ h.np h.w]
theorem Wd.own{xs:List V}(h:Wd a H p b ys)(n:a l=none)(L:l≠p)(c:l≠b):Wd a (af H l (.lst z)) p b ys:=#[h.B.eq (jk (Gp L)),h.K.upd_own n,by rw[jk (Gp c)];exact h.w]
theorem QE(h:H l=some (.lst x)):ai H (af H l (.lst a)):=λb u e=>by rw[jk (jO e h (by intro z;cases z))];exact e
end
def mP:Sp:=λv H Q _=>∃(p a b:Addr) (y:List Str) (k:Nat),v=[.ref p,.ref a,.ref b]/\aq H p/\gg H y k a/\gg H y k b/\∀(r:Addr) (h:Hp),gg h y (k+1) r->aq h p->au p H h->Q (.ref r) h
def dq(n:Nat):Sp:=λv H Q _=>∃(p W:Addr) (f g:Str) (y:List Str),v=[.ref p,.str f,.str g,.ref W]/\aq H p/\H W=some (.lst (y.map V.str))/\y.length=6/\∀(r:Addr) (h:Hp),oy [(g,2)] n h r f->aq h p->au p H h->Q (.ref r) h
noncomputable abbrev El:Stmt:=bQ 66
noncomputable abbrev mw:Stmt:=bQ 67
noncomputable abbrev gK:Stmt:=bQ 68
noncomputable abbrev fj:Stmt:=bQ 69
noncomputable abbrev rN:Stmt:=bQ 70
theorem D9{A:List V}(h:A.length=5):∃a b c d e,A=[a,b,c,d,e]:=by
 cases A with
 |nil=>cases h
 |cons a r=>
  cases r with
  |nil=>cases h
  |cons b R=>
   cases R with
   |nil=>cases h
   |cons c f=>
    cases f with
    |nil=>cases h
    |cons d g=>
     cases g with
     |nil=>cases h
     |cons e i=>
      cases i with
      |nil=>exact#[a,b,c,d,e,Z]
      |cons _ _=>cases h
theorem EZ{n:Nat}:mj (n+1) 0=some 0:=by unfold mj;rw[FQ MO,FQ MP];rfl
theorem Fb{n:Nat}:mj (n+2) 1=some 1:=by unfold mj;rw[FQ MO,FQ MP];rfl
theorem lB:dF (v::u::y) 1=some u:=jN (j:=1) Z
structure Fw(p:Addr)(H H':Hp):Prop where
 t:ai H H'
 b:au p H H'
theorem Fw.refl:Fw p H H:=#[ai.refl,au.refl]
theorem Fw.trans(a:Fw p H h)(b:Fw p h c):Fw p H c:=#[a.t.trans b.t,a.b.trans b.b]
theorem Fw.new{p:Addr}{H:Hp}{o:HO}(n:H r=none):Fw p H (af H r o):=#[ae.tm (je n),au.of_same (je n)]
theorem Fw.same(s:ae H h):Fw p H h:=#[ae.tm s,au.of_same s]
theorem Fw.but(B:aq H p)(c:au p H h):Fw p H h:=#[c.tm B,c]
def nj(P:Hp->V->Prop):Prop:=∀H h v,ai H h->P H v->P h v
def Ev(a:Hp)(p W:Addr)(y:List Str)(b:Hp)(c:L2.St)(t:TE)(P:Hp->V->Prop):Prop:=∀(H:Hp) (Q:VK),Fw p b H->Wd a H p W y->(∀v h,P h v->Wd a h p W y->Fw p H h->Q v h)->t c H Q
def PT(y:List Str)(k:Nat)(H:Hp)(v:V):Prop:=∃a,v= .ref a/\gg H y k a
def PB(C:gU)(y:List Str)(d n:Nat)(H:Hp)(v:V):Prop:=∃a x,v= .ref a/\H a=some (.tup x)/\gw C H y d x/\x.length<=n
def PN(y:List Str)(_:Hp)(v:V):Prop:=∃x,v= .str x/\x∈y
def PG(_:Hp)(v:V):Prop:=∃s,v= .str s/\Sg s
def PP(n:Nat)(H:Hp)(v:V):Prop:=∃(a:Addr) (x:List Str),v= .ref a/\H a=some (.tup (x.map V.str))/\x.length=n
def uA(y:Str)(_:Hp)(v:V):Prop:=v= .str y
def PD(C:gU)(n:Nat)(f:Str)(H:Hp)(v:V):Prop:=∃a,v= .ref a/\oy C n H a f
section
variable {Cf:gU}{ys:List Str}{H0 Hb:Hp}{p wl:Addr}{σ:L2.St}
theorem ar:nj (PT ys k):=λ_ _ _ m #[a,e,h]=>#[a,e,h.mono m]
theorem dG:nj (PB Cf ys d n):=λ_ _ _ m #[a,x,e,h,H,b]=>#[a,x,e,m _ _ h,H.mono m,b]
theorem dN:nj λH v=>cy Cf H ys d v:=λ_ _ _ m h=>h.mono m
theorem iK:nj (PD Cf n f):=λ_ _ _ m #[a,e,h]=>#[a,e,h.mono m]
theorem Ev.up{P R:Hp->V->Prop}(h:Ev H0 p wl ys Hb σ t P)(k:∀H v,P H v->R H v):Ev H0 p wl ys Hb σ t R:=λH Q m W q=>h H Q m W λv a x=>q v a (k _ _ x)
theorem jI{P:Hp->V->Prop}(e:σ[i]?=some (some v))(M:nj P)(h:P Hb v):Ev H0 p wl ys Hb σ (be i) P:=λH Q m W q=>#[v,e,q v H (M _ _ _ m.t h) W .refl]
theorem qg(h:Sg s):Ev H0 p wl ys Hb σ (tC (.str s)) PG:=λH Q m W q=>q _ H #[s,Z,h] W .refl
theorem kK{K:Frag}(e:σ[j]?=some (some (.ref wl)))(a:0<=i)(b:i < (ys.length:Int)):Ev H0 p wl ys Hb σ (dJ (iN K) (be j) (tC (.int i))) (PN ys):=λH Q m W q=>by
 obtain⟨y,c,h⟩:=Ke (ys:=ys) a b
 exact#[_,e,wl,_,_,_,Z,Z,aP.of W.w,h,q _ H #[y,Z,c] W .refl]
theorem kr{Q:VK}{P:Hp->V->Prop}(W:Wd H0 H p wl ys)(q:∀v h,P h v->Wd H0 h p wl ys->Fw p H h->Q v h)(n:H r=none)(x:ai H (af H r o)->af H r o r=some o->P (af H r o) (.ref r)):Q (.ref r) (af H r o):=
 q _ _ (x (ae.tm (je n)) jc) (W.same (je n)) (.new n)
abbrev uj(n:Int):TE:=dI ba [] E0 (am (be 0) (am (tC (.int n)) aT))
def PK(n:Int)(_:Hp)(v:V):Prop:=∃d:Int,v= .int d/\0<=d/\d < n
theorem kO(e:σ[0]?=some (some (.ref p)))(h:1<=n)(c:n<=1000):Ev H0 p wl ys Hb σ (uj n) (PK n):=λH Q m W q=>
 #[_,e,p,n,Z,W.B,MP,MP,λd f D a b E=>q _ _ #[d,Z,D,a] (W.but b (au.of_eq E)) (.but W.B (au.of_eq E))]
theorem ky(h:Ev H0 p wl ys Hb σ t (PK n))(g:n<=1000000000000000000):Ev H0 p wl ys Hb σ (b6 (am (tC (.str "num")) (am t aT))) (PT ys 0):=λH Q m W q=>
 h H _ m W λv i #[d,e,D,j] a b=>#[bX,λr N=>kr (P:=PT ys 0) a (λV c x f k=>q V c x f (b.trans k)) N λ_ z=>#[r,Z,Bp (by rw[z,e]) D MP]]
theorem QC(h:0<=n)(a:n < m):Ev H0 p wl ys Hb σ (tC (.int n)) (PK m):=λH Q _ W q=>q _ H #[n,Z,h,a] W .refl
theorem QF(h:Ev H0 p wl ys Hb σ t (PK n))(c:0<=m):Ev H0 p wl ys Hb σ (dJ (wc λi j=>V.int (i+j)) (tC (.int m)) t) (PK (m+n)):=λH Q M W q=>
 h H _ M W λv a #[d,e,D,f] b k=>#[m,d,Z,e,q _ a #[m+d,Z,MP,MP] b k]
theorem J7(h:Ev H0 p wl ys Hb σ t (PN ys)):Ev H0 p wl ys Hb σ (b6 (am (tC (.str "var")) (am t aT))) (PT ys 0):=λH Q m W q=>
 h H _ m W λv i #[d,e,a] b c=>#[bX,λr n=>kr (P:=PT ys 0) b (λV f x g k=>q V f x g (c.trans k)) n λ_ z=>#[r,Z,tO (by rw[z,e]) a]]
theorem qe{n:Nat}(h:Ev H0 p wl ys Hb σ T PG)(f:Ev H0 p wl ys Hb σ g (PT ys j))(i:Ev H0 p wl ys Hb σ l (PT ys k))(o:j < n)(u:k < n):Ev H0 p wl ys Hb σ (b6 (am (tC (.str "op")) (am T (am g (am l aT))))) (PT ys n):=λH Q m W q=>
 h H _ m W λM v #[s,E,X] y c=>f v _ (m.trans c) y λO A #[a,B,C] D d=>i A _ ((m.trans c).trans d) D λR S #[b,F,G] I e=>#[tE,λr N=>kr (P:=PT ys n) I (λV J x L k=>q V J x L (((c.trans d).trans e).trans k)) N λt z=>
  #[r,Z,yc (by rw[z,E,B,F]) X ((C.mono e.t).mono t) (G.mono t) o u]]
theorem Cn(e:σ[0]?=some (some (.ref p))):Ev H0 p wl ys Hb σ (dJ AQ (tC (.str "<=*")) (uj 3)) PG:=λH Q m W q=>
 kO e MO MO H _ m W λv h #[d,E,D,a] b k=>by
  obtain⟨g,i,x⟩:=vW D a
  exact#["<=*",d,g,Z,E,MS,i,q _ h #[_,Z,x] b k]
theorem YC{K:Frag}(e:σ[0]?=some (some (.ref p)))(r:Ev H0 p wl ys Hb σ T (PT ys k))(s:Ev H0 p wl ys Hb σ u (PT ys k)):Ev H0 p wl ys Hb σ (dJ (iN K) (lQ (am T (am u aT))) (uj 2)) (PT ys k):=λH Q m W q=>
 r H _ m W λV y #[a,E,X] z c=>s y _ (m.trans c) z λA C #[b,D,F] h f=>#[bX,λl n=>kO e MO MO _ _ (((m.trans c).trans f).trans (.new n)) (h.same (je n)) λv G #[d,I,J,L] M j=>by
  obtain⟨g,i,x⟩:=CP (P:=gg C ys k) J L (X.mono f.t) F
  rw[<- E,<- D]at i
  have t:=(Fw.new (p:=p) (o:=HO.lst [V,A]) n).trans j
  exact#[l,_,d,_,Z,I,aP.of (j.b _ _ (h.B.ne n) jc),i,q _ G #[g,Z,x.mono t.t] M ((c.trans f).trans t)]]
theorem xz{K:Frag}(e:σ[0]?=some (some (.ref p)))(u:Ev H0 p wl ys Hb σ T (PT ys k))(y:Ev H0 p wl ys Hb σ z (PT ys k))(A:Ev H0 p wl ys Hb σ C (PT ys k)):Ev H0 p wl ys Hb σ (dJ (iN K) (lQ (am T (am z (am C aT)))) (uj 3)) (PT ys k):=λH Q m W q=>
 u H _ m W λV D #[a,E,X] F f=>y D _ (m.trans f) F λG I #[b,J,L] M h=>A I _ ((m.trans f).trans h) M λN O #[c,R,S] r j=>#[gm,λl n=>kO e MO MO _ _ ((((m.trans f).trans h).trans j).trans (.new n)) (r.same (je n)) λv U #[d,Y,d0,d1] W4 s=>by
  obtain⟨g,i,x⟩:=CQ (P:=gg O ys k) d0 d1 (X.mono (h.trans j).t) (L.mono j.t) S
  rw[<- E,<- J,<- R]at i
  have t:=(Fw.new (p:=p) (o:=HO.lst [V,G,N]) n).trans s
  exact#[l,_,d,_,Z,Y,aP.of (s.b _ _ (r.B.ne n) jc),i,q _ U #[g,Z,x.mono t.t] W4 (((f.trans h).trans j).trans t)]]
theorem Ck{K:Frag}(e:σ[0]?=some (some (.ref p)))(r:1<=n)(s:n<=1000)(u:Ev H0 p wl ys Hb σ T (PT ys k))(y:Ev H0 p wl ys Hb σ z (PT ys k)):Ev H0 p wl ys Hb σ (dJ (iN K) (lQ (am T (am z aT))) (DM (λX H Q=>(∃i,X=[V.int i]/\Q (V.int i) H)∨∃k,X=[V.bl k]/\Q (V.int (if k=true then 1 else 0)) H) (am (dJ CV (uj n) (tC (.int 0))) aT))) (PT ys k):=λH Q m W q=>
 u H _ m W λA C #[a,E,D] F c=>y C _ (m.trans c) F λG I #[b,J,L] h f=>#[bX,λl N=>kO e r s _ _ (((m.trans c).trans f).trans (.new N)) (h.same (je N)) λv M #[d,O,S,U] R j=>by
  subst O
  refine#[Z,.inr #[_,Z,?_]]
  obtain⟨g,i,x⟩:=CS (P:=gg I ys k) (D.mono f.t) L _
  rw[<- E,<- J]at i
  have t:=(Fw.new (p:=p) (o:=HO.lst [A,G]) N).trans j
  exact#[l,_,_,_,Z,Z,aP.of (j.b _ _ (h.B.ne N) jc),i,q _ M #[g,Z,x.mono t.t] R ((c.trans f).trans t)]]
theorem J8(e:σ[0]?=some (some (.ref p)))(h:Ev H0 p wl ys Hb σ T (PT ys k))(g:Ev H0 p wl ys Hb σ i (PT ys k)):Ev H0 p wl ys Hb σ (dI mP [] E0 (am (be 0) (am T (am i aT)))) (PT ys (k+1)):=λH Q m W q=>
 #[_,e,h H _ m W λv j #[a,E,x] l d=>g j _ (m.trans d) l λV y #[b,n,X] c f=>#[p,a,b,ys,k,by rw[E,n];rfl,c.B,x.mono f.t,X,λr o s u C=>q _ o #[r,Z,s] (c.but u C) ((d.trans f).trans (.but c.B C))]]
theorem uQ{w:Str}{T a:TE}{A B R:Hp->V->Prop}(M:nj A)(d:nj B)(e:Ev H0 p wl ys Hb σ T A)(f:Ev H0 p wl ys Hb σ a B)(h:∀H r u v,H r=some (.tup [.str w,u,v])->A H u->B H v->R H (.ref r)):Ev H0 p wl ys Hb σ (b6 (am (tC (.str w)) (am T (am a aT)))) R:=λH Q m W q=>
 e H _ m W λC g X i b=>f g _ (m.trans b) i λD E j l c=>#[gm,λr n=>kr (P:=R) l (λo s x y k=>q o s x y ((b.trans c).trans k)) n λt z=>h _ _ _ _ z (M _ _ _ t (M _ _ _ c.t X)) (d _ _ _ t j)]
theorem D4{w:Str}{T:TE}{A R:Hp->V->Prop}(M:nj A)(a:Ev H0 p wl ys Hb σ T A)(h:∀H r u,H r=some (.tup [.str w,u])->A H u->R H (.ref r)):Ev H0 p wl ys Hb σ (b6 (am (tC (.str w)) (am T aT))) R:=λH Q m W q=>
 a H _ m W λf g X b c=>#[bX,λr n=>kr (P:=R) b (λv d x e k=>q v d x e (c.trans k)) n λt z=>h _ _ _ z (M _ _ _ t X)]
theorem Ce{w:Str}{T d e:TE}{A B C R:Hp->V->Prop}(M:nj A)(f:nj B)(g:nj C)(i:Ev H0 p wl ys Hb σ T A)(j:Ev H0 p wl ys Hb σ d B)(l:Ev H0 p wl ys Hb σ e C)(h:∀H r u v x,H r=some (.tup [.str w,u,v,x])->A H u->B H v->C H x->R H (.ref r)):Ev H0 p wl ys Hb σ (b6 (am (tC (.str w)) (am T (am d (am e aT))))) R:=λH Q m W q=>
 i H _ m W λL n X o a=>j n _ (m.trans a) o λO s y D b=>l s _ ((m.trans a).trans b) D λS U E F c=>#[tE,λr N=>kr (P:=R) F (λG I x J k=>q G I x J (((a.trans b).trans c).trans k)) N λt z=>h _ _ _ _ _ z (M _ _ _ t (M _ _ _ (b.trans c).t X)) (f _ _ _ t (f _ _ _ c.t y)) (g _ _ _ t E)]
theorem yS:nj (PN ys):=λ_ _ _ _ h=>h
theorem J9{t T:TE}{k:Nat}(h:Ev H0 p wl ys Hb σ t (PN ys))(b:Ev H0 p wl ys Hb σ T (PT ys k))(c:k < 6):Ev H0 p wl ys Hb σ (b6 (am (tC (.str "read")) (am t (am T aT)))) (λH v=>cy Cf H ys 0 v):=uQ yS ar h b λH r u v z #[x,e,d] #[a,E,f]=>Dl (by rw[z,e,E]) d f c
theorem JB{t T:TE}{k:Nat}(h:Ev H0 p wl ys Hb σ t (PN ys))(b:Ev H0 p wl ys Hb σ T (PT ys k))(c:k < 6):Ev H0 p wl ys Hb σ (b6 (am (tC (.str "set")) (am t (am T aT)))) (λH v=>cy Cf H ys 0 v):=uQ yS ar h b λH r u v z #[x,e,d] #[a,E,f]=>Dm (by rw[z,e,E]) d f c
theorem Ka{t T:TE}{j k:Nat}(h:Ev H0 p wl ys Hb σ t (PT ys j))(b:Ev H0 p wl ys Hb σ T (PT ys k))(c:j < 6)(d:k < 6):Ev H0 p wl ys Hb σ (b6 (am (tC (.str "write")) (am t (am T aT)))) (λH v=>cy Cf H ys 0 v):=uQ ar ar h b λH r u v z #[x,e,f] #[a,E,g]=>Dn (by rw[z,e,E]) f g c d
theorem Q6{t:TE}{k:Nat}(h:Ev H0 p wl ys Hb σ t (PT ys k))(b:k < 6):Ev H0 p wl ys Hb σ (b6 (am (tC (.str "give")) (am t aT))) (λH v=>cy Cf H ys 0 v):=D4 ar h λH r v z #[a,e,c]=>Dj (by rw[z,e]) c b
theorem o0{n o T c:TE}{j k:Nat}(C:Ev H0 p wl ys Hb σ n (PN ys)){f:Str}(D:Ev H0 p wl ys Hb σ o (uA f))(d:(f,2)∈Cf)(F:Ev H0 p wl ys Hb σ T (PT ys j))(G:Ev H0 p wl ys Hb σ c (PT ys k))(I:j < 6)(J:k < 6):Ev H0 p wl ys Hb σ (b6 (am (tC (.str "call")) (am n (am o (am (b6 (am T (am c aT))) aT))))) (λH v=>cy Cf H ys 0 v):=by
 let R:Hp->V->Prop:=λH v=>∃q a b,v= .ref q/\H q=some (.tup [.ref a,.ref b])/\gg H ys j a/\gg H ys k b
 have M:nj R:=λ_ _ _ m #[q,a,b,e,g,L,i]=>#[q,a,b,e,m _ _ g,L.mono m,i.mono m]
 have N:Ev H0 p wl ys Hb σ (b6 (am T (am c aT))) R:=λH Q m W q=>
  F H _ m W λv2 O #[a,E,X] S s=>G O _ (m.trans s) S λv3 H3 #[b,l,U] Y A=>#[bX,λr nr=>kr (P:=R) Y (λv' H' x W' k=>q v' H' x W' ((s.trans A).trans k)) nr λt z=>#[r,a,b,Z,by rw[z,E,l],(X.mono A.t).mono t,U.mono t]]
 exact Ce yS (B:=uA f) (λ_ _ _ _ h=>h) M C D N λH r u v x z #[y,e1,g] (E:v= .str f) #[q,a,b,l,i,h4,h5]=>Di (f:=f) (by rw[z,e1,E,l]) g d i h4 h5 I J
theorem xw{t T b:TE}{k n m:Nat}(h:Ev H0 p wl ys Hb σ t (PT ys k))(c:Ev H0 p wl ys Hb σ T (PB Cf ys 0 n))(d:Ev H0 p wl ys Hb σ b (PB Cf ys 0 m))(e:k < 6)(s:n+m<=20):Ev H0 p wl ys Hb σ (b6 (am (tC (.str "if")) (am t (am T (am b aT))))) (λH v=>cy Cf H ys 1 v):=
 Ce ar dG dG h c d λH r u v x z #[a,E,f] #[Q,X,g,i,j,y] #[A,B,l,o,q,C]=>Dk (by rw[z,E,g,l]) f i o j q MP e
theorem xE{t T:TE}{k n:Nat}(h:Ev H0 p wl ys Hb σ t (PT ys k))(b:Ev H0 p wl ys Hb σ T (PB Cf ys 0 n))(c:k < 6)(i:n<=20):Ev H0 p wl ys Hb σ (b6 (am (tC (.str "while")) (am t (am T aT)))) (λH v=>cy Cf H ys 1 v):=
 uQ ar dG h b λH r u v z #[a,e,d] #[q,x,E,f,g,j]=>tw (by rw[z,e,E]) d f g MP c
theorem xu{d:Nat}:Ev H0 p wl ys Hb σ (b6 aT) (PB Cf ys d 0):=λH Q m W q=>#[lW,λr n=>kr (P:=PB Cf ys d 0) W q n λt z=>#[r,[],Z,z,Ki,Fz 0]]
theorem Kb(h:Ev H0 p wl ys Hb σ T (λH v=>cy Cf H ys d v)):Ev H0 p wl ys Hb σ (b6 (am T aT)) (PB Cf ys d 1):=λH Q m W q=>
 h H _ m W λf g X a b=>#[lO,λr n=>kr (P:=PB Cf ys d 1) a (λV c x e k=>q V c x e (b.trans k)) n λt z=>#[r,_,Z,z,zp (X.mono t),Fz 1]]
theorem YD(h:Ev H0 p wl ys Hb σ T (λH v=>cy Cf H ys d v))(c:Ev H0 p wl ys Hb σ e (λH v=>cy Cf H ys d v)):Ev H0 p wl ys Hb σ (b6 (am T (am e aT))) (PB Cf ys d 2):=λH Q m W q=>
 h H _ m W λs f X g a=>c f _ (m.trans a) g λu y i j b=>#[bX,λr n=>kr (P:=PB Cf ys d 2) j (λV l x o k=>q V l x o ((a.trans b).trans k)) n λt z=>#[r,_,Z,z,jU ((X.mono b.t).mono t) (zp (i.mono t)),Fz 2]]
theorem Ci(h:Ev H0 p wl ys Hb σ T (λH v=>cy Cf H ys d v))(e:Ev H0 p wl ys Hb σ f (λH v=>cy Cf H ys d v))(g:Ev H0 p wl ys Hb σ i (λH v=>cy Cf H ys d v)):Ev H0 p wl ys Hb σ (b6 (am T (am f (am i aT)))) (PB Cf ys d 3):=λH Q m W q=>
 h H _ m W λC j X l a=>e j _ (m.trans a) l λD n o s b=>g n _ ((m.trans a).trans b) s λE F u y c=>#[gm,λr N=>kr (P:=PB Cf ys d 3) y (λV A x B k=>q V A x B (((a.trans b).trans c).trans k)) N λt z=>#[r,_,Z,z,jU ((X.mono (b.trans c).t).mono t) (jU ((o.mono c.t).mono t) (zp (u.mono t))),Fz 3]]
theorem qK(h:Ev H0 p wl ys Hb σ T (PB Cf ys d n))(e:Ev H0 p wl ys Hb σ f (PB Cf ys d m))(B:n+m<=100):Ev H0 p wl ys Hb σ (dJ xO T f) (PB Cf ys d (n+m)):=λH Q M W q=>
 h H _ M W λV g #[a,x,E,i,X,L] j c=>e g _ (M.trans c) j λC D #[b,z,l,o,u,F] v k=>#[a,b,x,z,E,l,k.t _ _ i,o,FL (show x.length+z.length<=100 by omega) MO,λr y A s=>q _ y #[r,_,Z,A,Jp ((X.mono k.t).mono (ae.tm s)) (u.mono (ae.tm s)),by rw[FD];omega] (v.same s) ((c.trans k).trans (.same s))]
theorem Qc(e:σ[i]?=some (some (.str x))):Ev H0 p wl ys Hb σ (be i) (uA x):=jI e (λ_ _ _ _ h=>h) Z
theorem YE(h:Ev H0 p wl ys Hb σ T (uA f))(g:Ev H0 p wl ys Hb σ i (PP m))(j:Ev H0 p wl ys Hb σ l (PB Cf ys 1 n))(O:n<=100)(o:ys.length<=20):Ev H0 p wl ys Hb σ (b6 (am T (am i (am l aT)))) (PD Cf m f):=λH Q M W q=>
 h H _ M W λv s (E:v= .str f) u c=>g s _ (M.trans c) u λR y #[a,S,A,B,L] C d=>j y _ ((M.trans c).trans d) C λU Y #[b,xs,D,F,X,l4] G e=>#[gm,λr N=>kr (P:=PD Cf m f) G (λV I x J k=>q V I x J (((c.trans d).trans e).trans k)) N λt z=>
  #[r,Z,Cd (f:=f) (by rw[z,E,A,D]) (t _ _ (e.t _ _ B)) L (t _ _ F) (X.mono t) MP o]]
theorem xA(h:Ev H0 p wl ys Hb σ T (PN ys)):Ev H0 p wl ys Hb σ (b6 (am T aT)) (PP 1):=λH Q m W q=>
 h H _ m W λV f #[X,e,_] a b=>#[lO,λr n=>kr (P:=PP 1) a (λv c x d k=>q v c x d (b.trans k)) n λt z=>#[r,[X],Z,by rw[z,e];rfl,Z]]
theorem xB(h:Ev H0 p wl ys Hb σ T (PN ys))(b:Ev H0 p wl ys Hb σ c (PN ys)):Ev H0 p wl ys Hb σ (b6 (am T (am c aT))) (PP 2):=λH Q m W q=>
 h H _ m W λV d #[X,e,_] f a=>b d _ (m.trans a) f λs u #[g,E,_] i j=>#[bX,λr n=>kr (P:=PP 2) i (λv l x o k=>q v l x o ((a.trans j).trans k)) n λt z=>#[r,[X,g],Z,by rw[z,e,E];rfl,Z]]
theorem cy.lift(h:cy Cf H ys 0 v):cy Cf H ys 1 v:=h.up
theorem PB.lift(h:PB Cf ys 0 n H v):PB Cf ys 1 n H v:=let #[a,x,e,c,#[b,B,d,g,i],f]:=h;#[a,x,e,c,#[b,B,d,MP,MP],f]
theorem PB.more(h:PB Cf ys d n H v)(k:n<=m):PB Cf ys d m H v:=let #[a,x,e,b,c,f]:=h;#[a,x,e,b,c,FL f k]
theorem qP{a b:TS}(W:Wd H0 H p wl ys)(e:σ[0]?=some (some (.ref p)))(g:1<=n)(i:n<=1000)(j:∀h,Wd H0 h p wl ys->Fw p H h->a D σ h)(l:∀h,Wd H0 h p wl ys->Fw p H h->b D σ h):io (iI (dJ CV (uj n) (tC (.int 0)))) a b D σ H:=
 kO (Hb:=H) e g i H _ .refl W λv c #[d,E,m,o] f k=>by
  subst E
  exact#[Z,_,Z,bV (λ_=>j c f k) (λ_=>l c f k)]
theorem jQ{D:bu}{P:Hp->V->Prop}(W:Wd H0 H p wl ys)(h:Ev H0 p wl ys H σ t P)(q:∀v a,P a v->Wd H0 a p wl ys->Fw p H a->D.nx (σ.set i (some v)) a):dC t (bK i) D σ H:=h H _ .refl W q
theorem QG{D:bu}{P:Hp->V->Prop}(W:Wd H0 H p wl ys)(h:Ev H0 p wl ys H σ t P)(q:∀v a,P a v->Wd H0 a p wl ys->D.rt v a):eF t D σ H:=h H _ .refl W λv a x b _=>q v a x b
theorem wG{K:Frag}{D:bu}(W:Wd H0 H p wl ys)(d:Ev H0 p wl ys H σ T (PT ys 0))(e:Ev H0 p wl ys H σ f (PT ys 0))(g:Ev H0 p wl ys H σ l (PT ys 0))
  (q:∀u v w h,PT ys 0 h u->PT ys 0 h v->PT ys 0 h w->Wd H0 h p wl ys->Fw p H h->D.nx (((σ.set k (some w)).set j (some v)).set i (some u)) h):xY K (b6 (am T (am f (am l aT)))) i j k D σ H:=
 d H _ .refl W λV m x o a=>e m _ a o λs y X z b=>g y _ (a.trans b) z λA E B C c=>#[gm,λr n=>#[r,_,_,_,Z,aA.of jc,q V s A _ (ar _ _ _ (ae.tm (je n)) (ar _ _ _ (b.trans c).t x)) (ar _ _ _ (ae.tm (je n)) (ar _ _ _ c.t X)) (ar _ _ _ (ae.tm (je n)) B) (C.same (je n)) (((a.trans b).trans c).trans (.new n))]]
structure Ow(H0 H:Hp)(p wl l:Addr)(xs:List V):Prop where
 hl:H l=some (.lst xs)
 np:l≠p
 lw:l≠wl
 l0:H0 l=none
theorem Ow.fw(o:Ow H0 H p wl l x)(k:Fw p H h):Ow H0 h p wl l x:=#[k.b _ _ o.np o.hl,o.np,o.lw,o.l0]
theorem Ow.new(W:Wd H0 H p wl ys)(n:H l=none):Ow H0 (af H l (.lst x)) p wl l x:=#[jc,W.B.ne n,(λe=>by have z:=W.w;rw[<- e,n]at z;cases z),W.K.none W.B n]
theorem CM{D:bu}(W:Wd H0 H p wl ys)(b:Ev H0 p wl ys H σ t (λH v=>cy Cf H ys 0 v))(q:∀l v h,Ow H0 h p wl l [v]->cy Cf h ys 0 v->Wd H0 h p wl ys->Fw p H h->D.nx (σ.set i (some (.ref l))) h):dC (lQ (am t aT)) (bK i) D σ H:=
 b H _ .refl W λV c x a k=>#[lO,λl n=>q l V _ (.new a n) (x.mono (ae.tm (je n))) (a.same (je n)) (k.trans (.new n))]
theorem CN{D:bu}(W:Wd H0 H p wl ys)(c:Ev H0 p wl ys H σ T (λH v=>cy Cf H ys 0 v))(d:Ev H0 p wl ys H σ e (λH v=>cy Cf H ys 0 v))(q:∀l u v h,Ow H0 h p wl l [u,v]->cy Cf h ys 0 u->cy Cf h ys 0 v->Wd H0 h p wl ys->Fw p H h->D.nx (σ.set i (some (.ref l))) h):dC (lQ (am T (am e aT))) (bK i) D σ H:=
 c H _ .refl W λV f x g k=>d f _ k g λj m X a b=>#[bX,λl n=>q l V j _ (.new a n) ((x.mono b.t).mono (ae.tm (je n))) (X.mono (ae.tm (je n))) (a.same (je n)) ((k.trans b).trans (.new n))]
theorem Jq{K:Frag}{D:bu}(W:Wd H0 H p wl ys)(a:σ[i]?=some (some (.ref l)))(o:Ow H0 H p wl l xs)(b:xs.length<=100)(c:Ev H0 p wl ys H σ T (λH v=>cy Cf H ys 0 v))
  (q:∀v h,cy Cf h ys 0 v->Ow H0 h p wl l (xs++[v])->Wd H0 h p wl ys->ai H h->D.nx σ h):nX (Eu K "list" nB (be i) (am T aT)) D σ H:=
 #[_,a,.inl #[Z,_,aP.of o.hl],c H _ .refl W λv e x d k=>#[l,xs,v,Z,Z,(o.fw k).hl,Hq b MO,q v _ (x.mono (QE (o.fw k).hl)) #[jc,o.np,o.lw,o.l0] (d.own (xs:=xs) o.l0 o.np o.lw) (k.t.trans (QE (o.fw k).hl))]]
theorem wM{K:Frag}{D:bu}(W:Wd H0 H p wl ys)(h:σ[i]?=some (some (.ref l)))(o:Ow H0 H p wl l (u::v::z))
  (q:∀a,Ow H0 a p wl l (v::u::z)->Wd H0 a p wl ys->ai H a->D.nx σ a):dC (b6 (am (dJ (iN K) (be i) (tC (.int 1))) (am (dJ (iN K) (be i) (tC (.int 0))) aT))) (uV K 2 (dR (yC (be i) (tC (.int 0)) rJ) (dR (yC (be i) (tC (.int 1)) rJ) uU))) D σ H:=
 #[_,h,l,_,_,_,Z,Z,aP.of o.hl,lB,_,h,l,_,_,_,Z,Z,aP.of o.hl,gE,bX,λt N=>#[t,_,Z,aA.of jc,Z,_,_,Z,_,h,l,_,0,0,Z,Z,ao o.hl N,EZ (n:=z.length+1),_,_,Z,_,h,l,_,1,1,Z,Z,jc,Fb (n:=z.length),Z,
  q _ #[jc,o.np,o.lw,o.l0] (((W.same (je N)).own (xs:=u::v::z) o.l0 o.np o.lw).own (xs:=u::v::z) o.l0 o.np o.lw) (((ae.tm (je N)).trans (QE (ao o.hl N))).trans (QE jc))]]
theorem xC{K:Frag}{n:Nat}(e:σ[i]?=some (some (.ref l)))(o:Ow H0 Hb p wl l x)(h:gw Cf Hb ys 0 x)(a:x.length<=n):Ev H0 p wl ys Hb σ (DM (λx H Q=>∃p ys,x=[V.ref p]/\((aP K H p ys/\∀(l:Addr),H l=none->Q (V.ref l) (af H l (HO.tup ys)))∨aA K H p ys/\Q (V.ref p) H)) (am (be i) aT)) (PB Cf ys 0 n):=λH Q m W q=>
 #[_,e,l,x,Z,.inl #[aP.of (o.fw m).hl,λr N=>kr (P:=PB Cf ys 0 n) W q N λt z=>#[r,x,Z,z,(h.mono m.t).mono t,a]]]
theorem yr{D:bu}(W:Wd H0 H p wl ys)(u:σ[i]?=some (some (.ref l)))(y:σ[j]?=some (some (.ref m)))(o:Ow H0 H p wl l x)(O:Ow H0 H p wl m z)(C:x.length+z.length<=100)(E:gw Cf H ys 0 x)(F:gw Cf H ys 0 z)
  (G:Ev H0 p wl ys H σ T (λH v=>cy Cf H ys 0 v)) (I:Ev H0 p wl ys H σ J (λH v=>cy Cf H ys 0 v)) (q:∀r U h,Ow H0 h p wl r U->gw Cf h ys 0 U->U.length<=x.length+z.length+2->Wd H0 h p wl ys->Fw p H h->D.nx (σ.set i (some (.ref r))) h):
  dC (dJ AO (dJ AO (be i) (be j)) (lQ (am T (am J aT)))) (bK i) D σ H:=
 #[_,u,_,y,l,m,_,_,Z,Z,o.hl,O.hl,FL C MO,λc n=>G _ _ (.new n) (W.same (je n)) λV L X M k=>I L _ ((Fw.new n).trans k) M λe R Q A s=>#[bX,λd N=>#[c,d,_,_,Z,Z,ao ((k.trans s).b _ _ (W.B.ne n) jc) N,jc,by
  have:=aN
  show(x++z).length+2<=sizeLine
  rw[FD]
  omega,λr a=>q r _ _ (.new (A.same (je N)) a) (by
   have f:=(((Fw.new n).trans k).trans s).trans ((Fw.new (p:=p) (o:=HO.lst [V,e]) N).trans (Fw.new (o:=HO.lst ((x++z)++[V,e])) a))
   have g:=(Fw.new (p:=p) (o:=HO.lst [V,e]) N).trans (Fw.new (o:=HO.lst ((x++z)++[V,e])) a)
   exact Jp (Jp (E.mono f.t) (F.mono f.t)) (jU ((X.mono s.t).mono g.t) (zp (Q.mono g.t)))) (by rw[FD,FD];exact Fz _) ((A.same (je N)).same (je a)) ((((Fw.new n).trans k).trans s).trans ((Fw.new N).trans (Fw.new a)))]]]
theorem Y7{K:Frag}{D:bu}(W:Wd H0 H p wl ys)(k:σ[3]?=some (some (.ref wl)))(l:ys.length=6)
  (q:∀a b c d e g,PT ys 0 g a->PT ys 0 g b->PT ys 0 g c->PT ys 0 g d->PT ys 0 g e->Wd H0 g p wl ys->D.nx (((((σ.set 4 (some a)).set 5 (some b)).set 6 (some c)).set 7 (some d)).set 8 (some e)) g):
  dC (tF (xG K (DN (AR K) (be 3) lh (lR (tC (V.int 5))))) 1 [] (bK 0) lP (b6 (am (tC (V.str "var")) (am (be 0) aT)))) (ER K 5 (dR (bK 4) (dR (bK 5) (dR (bK 6) (dR (bK 7) (dR (bK 8) uU)))))) D σ H:=by
 have B:=aN
 refine#[_,k,_,Z,wl,_,Z,aP.of W.w,λs n=>?_]
 have E:a8 (ys.map V.str) none (some 5)=(ys.take 5).map V.str:=by rw[show(5:Int)=((5:Nat):Int) from Z,BX (by rw[Fy];omega),Ld]
 have t:af H s (.lst (a8 (ys.map V.str) none (some 5))) s=some (.lst ((ys.take 5).map V.str)):=by rw[E];exact jc
 have S:=je (o:=HO.lst (a8 (ys.map V.str) none (some 5))) n
 generalize af H s (.lst (a8 (ys.map V.str) none (some 5)))=A at t S
 refine#[s,Z,#[_,aP.of t],?_]
 refine ZT (K:=K) (a:=s) (xs:=(ys.take 5).map V.str) (by rw[Fy,Gf];omega) (λi j g=>j.length=i/\(∀v∈j,PT ys 0 g v)/\ae A g) #[Z,(λ_ h=>absurd h Gh),ae.refl _] (λi j g h=>#[aP.of (h.2.2 _ _ t),Md h.1]) (λi x j g C h=>?_) (λj F h L N=>?_)
 ·obtain⟨y,l,rfl⟩:=List.mem_map.mp (F' C)
  exact#[_,Z,bX,λr u=>#[by rw[FD,h.1];rfl,q8 (λa z=>ar _ _ _ (ae.tm (je u)) (h.2.1 a z)) #[r,Z,tO jc (GU l)],h.2.2.trans (je u)]]
 ·have e:=h.1
  rw[Fy,Gf]at e
  obtain⟨a,b,c,d,f,rfl⟩:=D9 (show j.length=5 by omega)
  have m:=ae.tm (je (o:=HO.lst [a,b,c,d,f]) N)
  exact#[L,_,Z,aP.of jc,Z,_,_,Z,_,_,Z,_,_,Z,_,_,Z,_,_,Z,Z,q a b c d f _ (ar _ _ _ m (h.2.1 a MQ)) (ar _ _ _ m (h.2.1 b MQ)) (ar _ _ _ m (h.2.1 c MQ)) (ar _ _ _ m (h.2.1 d MQ)) (ar _ _ _ m (h.2.1 f MQ)) (((W.same S).same h.2.2).same (je N))]
end
theorem Em:al ["_law_box_here","_law_a","_law_b"] ["_law_box_here","_law_a","_law_b"] (aa El):=bP
theorem CF{cf:FuncData}(F:aU K "_law_op" "_law_op" El f t)(C:Cl P w K mg base 1 M cf ["_law_box_here","_law_wide"] ba "_law_take"):ah P w K mg base aE 2 f t ["_law_box_here","_law_a","_law_b"] mP:=by
 refine F.ok Em ?_ λu A O s H V Q E v h=>?_
 ·rintro _ _ _ _ ⟨p,a,b,y,k,rfl,_⟩
  rfl
 refine aZ λR i=>?_
 obtain⟨p,a,b,y,k,rfl,B,x,z,q⟩:=h
 refine i ?_
 clear i
 refine#[_,(jg (jo (jh (ja jl (ja (jv jr (jF (ja jl (ja jl (ja jl (ja jl jb))))) (C.e v.m (ja (pv 0) (ja jf jb))) (λ_ _=>Z)) (ja (pv 1) (ja (pv 2) jb))))))),?_]
 refine#[tE,λl n=>#[_,Z,p,4,Z,B.upd_new n,MO,MO,λd D G I J j=>?_]]
 obtain⟨s,c,L⟩:=vX G I
 have g:au p H D:=((au.refl).upd_new n).trans (au.of_eq j)
 refine#[l,_,_,_,Z,Z,aP.of (by rw[j l (B.ne n)];exact jc),c,_,Z,_,Z,tE,λr N=>?_]
 have S:=je (o:=HO.tup [.str "op",.str s,.ref a,.ref b]) N
 exact q r _ (yc jc L ((x.mono (g.tm B)).mono (ae.tm S)) ((z.mono (g.tm B)).mono (ae.tm S)) (Hj _) (Hj _)) (J.upd_new N) (g.trans (au.of_same S))
theorem bZ:al ["_law_box_here","_law_f","_law_g","_law_w","_law_x","_law_i","_law_y","_law_spot_here","_law_body_here","_law_deeper","_law_test","_law_early","_law_last"] ["_law_box_here","_law_f","_law_g","_law_w"] (aa mw):=bP
theorem pU{cf:FuncData}(F:aU K "_law_inner" "_law_inner" mw f fd)(I:Cl P w K mg base 1 fT cf ["_law_box_here","_law_wide"] ba "_law_take")(cO:Cl P w K mg base 2 fO c1 ["_law_box_here","_law_a","_law_b"] mP "_law_op"):ah P w K mg base aE 3 f fd ["_law_box_here","_law_f","_law_g","_law_w"] (dq 2):=by
 refine F.ok bZ ?_ λc2 A o1 s H vs Q E l h=>?_
 ·rintro _ _ _ _ ⟨p,T,f0,g,Y,rfl,_⟩
  rfl
 refine aZ λGq kq=>?_
 obtain⟨p,T,f0,g,Y,rfl,B,hw,h2,q⟩:=h
 refine kq ?_
 clear kq
 refine#[_,(jd (@vY _ _ _ _ _ _ _ _ (4) (5) (6) Z bZ.nd Z Z Z (Or.inl Z) (Or.inl Z) (Or.inl Z) (jh (ja (jh (ja jl (ja (jv jr (pv 3) jf (λ_ _=>Z)) jb))) (ja (jh (ja jl (ja (jv jr (pv 3) jf (λ_ _=>Z)) jb))) (ja (jh (ja jl (ja (jv jr (pv 3) jf (λ_ _=>Z)) jb))) jb)))) (by first |exact .inl Z |exact .inr Z) (by first |exact .inl Z |exact .inr Z) (by first |exact .inl Z |exact .inr Z) MT MT) (jd (jA 7 bZ.nd (jh (ja jl (ja jl (ja (jv jr (jF (ja (pv 4) (ja (pv 5) jb))) (I.e l.m (ja (pv 0) (ja jf jb))) (λ_ _=>Z)) (ja (jh (ja jl (ja (I.e l.m (ja (pv 0) (ja jf jb))) jb))) jb)))))) (jd (jA 8 bZ.nd (jh (ja (jh (ja jl (ja (jv jr (pv 3) jf (λ_ _=>Z)) (ja (pv 7) jb)))) jb))) (jd (jY (jx (za (I.e l.m (ja (pv 0) (ja jf jb)))) (jd (jA 7 bZ.nd (jh (ja jl (ja jl (ja (pv 5) (ja (jh (ja jl (ja (ju jX jf (I.e l.m (ja (pv 0) (ja jf jb)))) jb))) jb)))))) (jg (jA 8 bZ.nd (ju j8 (pv 8) (jh (ja (jh (ja jl (ja (pv 7) (ja (cO.e l.m (ja (pv 0) (ja (pv 4) (ja (pv 6) jb)))) jb)))) jb)))))) jp)) (jd (jY (jx (za (I.e l.m (ja (pv 0) (ja jf jb)))) (jd (jA 9 bZ.nd (jh (ja jl (ja (jv jr (pv 3) jf (λ_ _=>Z)) (ja (pv 2) (ja (jh (ja (jh (ja jl (ja jl (ja (pv 5) (ja (jh (ja jl (ja jf jb))) jb))))) (ja (pv 6) jb))) jb)))))) (jg (jA 8 bZ.nd (ju j8 (pv 8) (jh (ja (jh (ja jl (ja (pv 5) (ja (jh (ja (pv 9) jb)) (ja (jh jb) jb))))) jb)))))) jp)) (jd (jA 10 bZ.nd (jh (ja jl (ja (jv Kd jl (I.e l.m (ja (pv 0) (ja jf jb))) (λ_ _=>Z)) (ja (pv 6) (ja (jh (ja jl (ja (I.e l.m (ja (pv 0) (ja jf jb))) jb))) jb)))))) (jd (jA 11 bZ.nd (jh (ja jl (ja (cO.e l.m (ja (pv 0) (ja (pv 4) (ja (pv 6) jb)))) jb)))) (jd (jA 12 bZ.nd (jh (ja jl (ja (cO.e l.m (ja (pv 0) (ja (pv 6) (ja (pv 5) jb)))) jb)))) (jd (jA 8 bZ.nd (ju j8 (pv 8) (jh (ja (jh (ja jl (ja (pv 10) (ja (jh (ja (pv 11) jb)) (ja (jh jb) jb))))) (ja (pv 12) jb))))) (jg (jo (jh (ja (pv 1) (ja (jh (ja (jv jr (pv 3) jf (λ_ _=>Z)) (ja (jv jr (pv 3) jf (λ_ _=>Z)) jb))) (ja (pv 8) jb))))))))))))))),?_]
 have W0:Wd H H p T Y:=#[B,au.refl,hw]
 refine aj λF1 f1=>wG W0 (J7 (kK Z MO MP)) (J7 (kK Z MO MP)) (J7 (kK Z MO MP)) λvx vi vy J xx X U W1 k1=>f1 _ _ ?_
 refine aj λF2 f2=>jQ W1 (qe (n:=1) (qg zj) (YC Z (jI Z ar xx) (jI Z ar X)) (ky (kO Z MO MO) MO) MO MO) λv2 H2 x2 W2 k2=>f2 _ _ ?_
 refine aj λF3 f3=>jQ W2 (Kb (J9 (Cf:=[(g,2)]) (kK Z MO MP) (jI Z ar x2) MO)) λv3 H3 x3 W3 k3=>f3 _ _ ?_
 refine aj λF4 f4=>dB (λL u=>∃(o:Option V) (b:V),L=[some (V.ref p),some (V.str f0),some (V.str g),some (V.ref T),some (vx),some (vi),some (vy),o,some b,none,none,none,none]/\PB [(g,2)] Y 1 2 u b/\Wd H u p T Y/\ai H3 u) (λE4 _ f5=>qP W3 Z MO MO (λH6 W6 k6=>?_) (λH6 W6 k6=>?_)) λσ0 H5 h0=>?_
 ·clear f4
  have C:ai J H6:=((k2.t.trans k3.t).trans k6.t)
  refine aj λF7 f7=>jQ W6 (qe (n:=1) (qg zj) (jI Z ar (ar _ _ _ C X)) (ky (QF (kO Z MO MO) MO) MO) MO MO) λv7 H7 x7 W7 k7=>f7 _ _ ?_
  have D:ai H3 H7:=(k6.t.trans k7.t)
  have G:ai J H7:=(C.trans k7.t)
  refine jQ W7 (qK (jI Z dG (dG _ _ _ D x3)) (Kb (Ka (Cf:=[(g,2)]) (jI Z ar x7) (J8 Z (jI Z ar (ar _ _ _ G xx)) (jI Z ar (ar _ _ _ G U))) MO MO)) MO) λv8 H8 x8 W8 k8=>f5 _ _ ?_
  have m0:ai H3 H8:=(D.trans k8.t)
  exact#[_,_,Z,(PB.lift x8),W8,m0]
 ·clear f4
  exact f5 _ _ #[_,_,Z,(PB.more (PB.lift (dG _ _ _ k6.t x3)) MO),W6,k6.t]
 obtain⟨o5,b5,rfl,x5,W5,k5⟩:=h0
 refine f4 _ _ ?_
 clear f4
 refine aj λF9 f9=>dB (λL u=>∃(o:Option V) (b:V),L=[some (V.ref p),some (V.str f0),some (V.str g),some (V.ref T),some (vx),some (vi),some (vy),o5,some b,o,none,none,none]/\PB [(g,2)] Y 1 3 u b/\Wd H u p T Y/\ai H5 u) (λE9 _ f6=>qP W5 Z MO MO (λH0 W k=>?_) (λH0 W k=>?_)) λσ1 H4 h1=>?_
 ·clear f9
  have M:ai J H0:=(((k2.t.trans k3.t).trans k5).trans k.t)
  refine aj λF0 f'=>jQ W (o0 (Cf:=[(g,2)]) (kK Z MO MP) (Qc Z) FX (qe (n:=1) (qg Xn) (jI Z ar (ar _ _ _ M X)) (ky (QC MO (by decide:(1:Int) < 2)) MO) MO MO) (jI Z ar (ar _ _ _ M U)) MO MO) λv1 H9 x0 W4 k0=>f' _ _ ?_
  have c:ai H5 H9:=(k.t.trans k0.t)
  have N:ai J H9:=(M.trans k0.t)
  refine jQ W4 (qK (jI Z dG (dG _ _ _ c x5)) (Kb (xw (jI Z ar (ar _ _ _ N X)) (Kb (jI Z dN x0)) (xu (Cf:=[(g,2)]) (d:=0)) MO MO)) MO) λv4 a2 x1 W9 k9=>f6 _ _ ?_
  have O:ai H5 a2:=(c.trans k9.t)
  exact#[_,_,Z,x1,W9,O]
 ·clear f9
  exact f6 _ _ #[_,_,Z,(PB.more (dG _ _ _ k.t x5) MO),W,k.t]
 obtain⟨o2,c3,rfl,x4,a3,k'⟩:=h1
 refine f9 _ _ ?_
 clear f9
 have i:ai J H4:=(((k2.t.trans k3.t).trans k5).trans k')
 refine aj λF5 a4=>jQ a3 (qe (n:=1) (Cn Z) (jI Z ar (ar _ _ _ i U)) (ky (kO Z MO MO) MO) MO MO) λv5 a0 x9 a' k4=>a4 _ _ ?_
 have a:ai J a0:=(i.trans k4.t)
 refine aj λF6 b0=>jQ a' (Q6 (Cf:=[(g,2)]) (J8 Z (jI Z ar (ar _ _ _ a xx)) (jI Z ar (ar _ _ _ a U))) MO) λv6 b1 x' b2 R=>b0 _ _ ?_
 have j:ai J b1:=(a.trans R.t)
 refine aj λc4 b3=>jQ b2 (Q6 (Cf:=[(g,2)]) (J8 Z (jI Z ar (ar _ _ _ j U)) (jI Z ar (ar _ _ _ j X))) MO) λv9 a1 b4 b7 S=>b3 _ _ ?_
 have y:ai H4 a1:=((k4.t.trans R.t).trans S.t)
 have z:ai a0 a1:=(R.t.trans S.t)
 refine aj λc5 b9=>jQ b7 (qK (jI Z dG (dG _ _ _ y x4)) (YD (xw (jI Z ar (ar _ _ _ z x9)) (Kb (jI Z dN (dN _ _ _ S.t x'))) (xu (Cf:=[(g,2)]) (d:=0)) MO MO) (Ev.up (jI Z dN b4) λ_ _=>cy.lift)) MO) λv' c6 b' c0 c9=>b9 _ _ ?_
 refine QG c0 (YE (Qc Z) (xB (kK Z MO MP) (kK Z MO MP)) (jI Z dG b') MO MP) λv u x W'=>?_
 obtain⟨r,rfl,x⟩:=x
 exact q r u x W'.B W'.K
theorem bq:al ["_law_box_here","_law_f","_law_inner_here","_law_w","_law_n","_law_i","_law_s","_law_x","_law_y","_law_body_here","_law_spot_here","_law_start","_law_loop"] ["_law_box_here","_law_f","_law_inner_here","_law_w"] (aa gK):=bP
noncomputable def K9:Scope:=#[.function,[(".0",.local),("_law_one",.local)],false,false,[]]
theorem Yv:(["_law_one"]:List Str).Nodup:=by decide+kernel
theorem Yw:bM ["_law_box_here","_law_f","_law_inner_here","_law_w","_law_n","_law_i","_law_s","_law_x","_law_y","_law_body_here","_law_spot_here","_law_start","_law_loop"] (aa gK) K9 ["_law_one"] 1 []:=ui
theorem ZX{cf:FuncData}(F:aU K "_law_looped" "_law_looped" gK f fd)(C:Cl P w K mg base 1 fT cf ["_law_box_here","_law_wide"] ba "_law_take")(cO:Cl P w K mg base 2 fO d7 ["_law_box_here","_law_a","_law_b"] mP "_law_op")(mi:mg "int"=none)(m6:mg "tuple"=none):ah P w K mg base aE 3 f fd ["_law_box_here","_law_f","_law_inner_here","_law_w"] (dq 1):=by
 refine F.ok bq ?_ λd8 A b2 s H vs Q E l h=>?_
 ·rintro _ _ _ _ ⟨p,W,f0,g,Y,rfl,_⟩
  rfl
 refine aZ λGq kq=>?_
 obtain⟨p,W,f0,g,Y,rfl,B,hw,h2,q⟩:=h
 refine kq ?_
 clear kq
 refine#[_,(jd (zf (@zG _ _ _ _ _ _ _ (["_law_one"]) (1) ([]) _ _ _ _ Z (qt (jJ kB (pv 3) j7 (jG jf))) Yw (λ_ _ _ _ _=>(jw (i:=0) Yv Z (Or.inl Z))) (λ_ _ _ _ _=>(@zU _)) (λ_ _ _ _ _=>(jh (ja jl (ja (pv 0) jb)))) (by intro _;rfl)) (@YY _ _ _ _ (5) _ Z (jz (jw (i:=4) bq.nd Z (Or.inl Z)) (jz (jw (i:=5) bq.nd Z (Or.inl Z)) (jz (jw (i:=6) bq.nd Z (Or.inl Z)) (jz (jw (i:=7) bq.nd Z (Or.inl Z)) (jz (jw (i:=8) bq.nd Z (Or.inl Z)) j6))))) MT MT)) (jd (jA 9 bq.nd (jF (ja (jh (ja jl (ja (jv jr (pv 3) jf (λ_ _=>Z)) (ja (jh (ja jl (ja jl (ja (pv 5) (ja (jh (ja jl (ja (C.e l.m (ja (pv 0) (ja jf jb))) jb))) jb))))) jb)))) jb))) (jd (jT (kN F8 Gk Gj jR (pv 9) (ja (jh (ja jl (ja (jv jr (pv 3) jf (λ_ _=>Z)) (ja (pv 2) (ja (jh (ja (pv 7) (ja (jv jr (jF (ja (pv 5) (ja (pv 6) jb))) (jE Js Z mi boot_int (ja (qu qO (C.e l.m (ja (pv 0) (ja jf jb))) jf (aK _)) jb)) (λ_ _=>Z)) jb))) jb))))) jb))) (jd (jY (jx (za (C.e l.m (ja (pv 0) (ja jf jb)))) (jd (jA 10 bq.nd (jh (ja jl (ja jl (ja (pv 5) (ja (jh (ja jl (ja (ju jX jf (C.e l.m (ja (pv 0) (ja jf jb)))) jb))) jb)))))) (jg (jT (kN F8 Gk Gj jR (pv 9) (ja (jh (ja jl (ja (pv 10) (ja (jv jr (jF (ja (pv 6) (ja (pv 8) (ja (pv 7) jb)))) (C.e l.m (ja (pv 0) (ja jf jb))) (λ_ _=>Z)) jb)))) jb))))) jp)) (jd (jT (kN F8 Gk Gj jR (pv 9) (ja (jh (ja jl (ja (jv jr (pv 3) jf (λ_ _=>Z)) (ja (cO.e l.m (ja (pv 0) (ja (jv jr (jF (ja (pv 6) (ja (pv 6) (ja (pv 7) jb)))) (C.e l.m (ja (pv 0) (ja jf jb))) (λ_ _=>Z)) (ja (pv 8) jb)))) jb)))) jb))) (jd (jY (jx (za (C.e l.m (ja (pv 0) (ja jf jb)))) (jg (zf (jh (ja (jv jr (pv 9) jf (λ_ _=>Z)) (ja (jv jr (pv 9) jf (λ_ _=>Z)) jb))) (ze (n:=2) Z (jz (qH (pv 9) jf zr) (jz (qH (pv 9) jf zr) j6))))) jp)) (jd (jT (kN F8 Gk Gj jR (pv 9) (ja (jh (ja jl (ja (jv jr (pv 3) jf (λ_ _=>Z)) (ja (jh (ja jl (ja jl (ja (pv 5) (ja (jh (ja jl (ja jf jb))) jb))))) jb)))) jb))) (jd (jA 11 bq.nd (jh (ja (jh (ja jl (ja (jv jr (pv 3) jf (λ_ _=>Z)) (ja (jh (ja jl (ja (C.e l.m (ja (pv 0) (ja jf jb))) jb))) jb)))) (ja (jh (ja jl (ja (jv jr (pv 3) jf (λ_ _=>Z)) (ja (jh (ja jl (ja (C.e l.m (ja (pv 0) (ja jf jb))) jb))) jb)))) jb)))) (jd (jY (jx (za (C.e l.m (ja (pv 0) (ja jf jb)))) (jd (jA 11 bq.nd (ju j8 (pv 11) (jh (ja (jh (ja jl (ja (jv jr (pv 3) jf (λ_ _=>Z)) (ja (jh (ja jl (ja (ju jX jf (C.e l.m (ja (pv 0) (ja jf jb)))) jb))) jb)))) jb)))) (jg (jA 11 bq.nd (ju j8 (pv 11) (jh (ja (jh (ja jl (ja (jv jr (pv 3) jf (λ_ _=>Z)) (ja (jh (ja jl (ja jl (ja (pv 4) (ja (jh (ja jl (ja jf jb))) jb))))) jb)))) jb)))))) jp)) (jd (jA 12 bq.nd (jh (ja jl (ja (jh (ja jl (ja jl (ja (pv 5) (ja (pv 4) jb))))) (ja (jE jH Z m6 Ig (ja (pv 9) jb)) jb))))) (jg (jo (jh (ja (pv 1) (ja (jh (ja (jv jr (pv 3) jf (λ_ _=>Z)) jb)) (ja (ju j8 (pv 11) (jh (ja (pv 12) (ja (jh (ja jl (ja (jh (ja jl (ja jf jb))) (ja (pv 6) jb)))) (ja (jh (ja jl (ja (pv 6) jb))) jb))))) jb)))))))))))))))),?_]
 have W0:Wd H H p W Y:=#[B,au.refl,hw]
 refine aj λF1 f1=>Y7 W0 Z h2 λvn vi vs vx vy U xn xi xs xx xy W1=>f1 _ _ ?_
 refine aj λF2 f2=>CM W1 (J9 (Cf:=[(g,2)]) (kK Z MO MP) (qe (n:=1) (qg zj) (jI Z ar xi) (ky (kO Z MO MO) MO) MO MO) MO) λlb u2 H2 o2 x2 W2 k2=>f2 _ _ ?_
 refine aj λF3 f3=>Jq W2 Z o2 (show 1<=100 by decide) (o0 (Cf:=[(g,2)]) (kK Z MO MP) (Qc Z) FX (jI Z ar (ar _ _ _ k2.t xx)) (Ck Z MO MO (jI Z ar (ar _ _ _ k2.t xi)) (jI Z ar (ar _ _ _ k2.t xs))) MO MO) λu3 H3 x3 o3 W3 k3=>f3 _ _ ?_
 refine aj λF4 f4=>dB (λu c=>∃(o:Option V) (G:List V),u=[some (V.ref p),some (V.str f0),some (V.str g),some (V.ref W),some (vn),some (vi),some (vs),some (vx),some (vy),some (V.ref lb),o,none,none]/\Ow H c p W lb (u2::u3::G)/\gw [(g,2)] c Y 0 G/\G.length<=1/\Wd H c p W Y/\ai H3 c) (λE4 _ f5=>qP W3 Z MO MO (λH6 W6 k6=>?_) (λH6 W6 k6=>?_)) λσ2 H5 h3=>?_
 ·clear f4
  have o6:=o3.fw k6
  have R:ai U H6:=((k2.t.trans k3).trans k6.t)
  refine aj λF7 f7=>jQ W6 (qe (n:=1) (qg zj) (jI Z ar (ar _ _ _ R xi)) (ky (QF (kO Z MO MO) MO) MO) MO MO) λv7 H7 x7 W7 k7=>f7 _ _ ?_
  have o7:=o6.fw k7
  have y:ai U H7:=(R.trans k7.t)
  refine Jq W7 Z o7 (show 2<=100 by decide) (Ka (Cf:=[(g,2)]) (jI Z ar x7) (xz Z (jI Z ar (ar _ _ _ y xs)) (jI Z ar (ar _ _ _ y xy)) (jI Z ar (ar _ _ _ y xx))) MO MO) λu8 H8 x8 o8 W8 k8=>f5 _ _ ?_
  have m5:ai H3 H8:=((k6.t.trans k7.t).trans k8)
  exact#[_,[u8],Z,o8,zp x8,Fz 1,W8,m5]
 ·clear f4
  have o6:=o3.fw k6
  exact f5 _ _ #[_,[],Z,o6,Ki,MO,W6,k6.t]
 obtain⟨w5,G,rfl,o5,zx,zl,W5,k5⟩:=h3
 refine f4 _ _ ?_
 clear f4
 have M:ai U H5:=((k2.t.trans k3).trans k5)
 refine aj λF9 f9=>Jq W5 Z o5 (show G.length+1+1<=100 by omega) (JB (Cf:=[(g,2)]) (kK Z MO MP) (J8 Z (xz Z (jI Z ar (ar _ _ _ M xs)) (jI Z ar (ar _ _ _ M xs)) (jI Z ar (ar _ _ _ M xx))) (jI Z ar (ar _ _ _ M xy))) MO) λu9 H9 x9 o9 W9 k9=>f9 _ _ ?_
 have zy:gw [(g,2)] H9 Y 0 (G++[u9]):=Jp (zx.mono k9) (zp x9)
 have zm:(G++[u9]).length<=2:=by rw[FD];exact Ho zl
 refine aj λF0 I=>dB (λu c=>∃(X:List V),u=[some (V.ref p),some (V.str f0),some (V.str g),some (V.ref W),some (vn),some (vi),some (vs),some (vx),some (vy),some (V.ref lb),w5,none,none]/\Ow H c p W lb X/\gw [(g,2)] c Y 0 X/\X.length<=4/\Wd H c p W Y/\ai H9 c) (λE1 _ S=>qP W9 Z MO MO (λH0 W4 k=>?_) (λH0 W4 k=>?_)) λσ0 b3 h0=>?_
 ·clear I
  have o1:=o9.fw k
  refine wM W4 Z o1 λH4 b4 b5 k0=>S _ _ ?_
  have m0:ai H3 H4:=(((k5.trans k9).trans k.t).trans k0)
  have m1:ai H2 H4:=((((k3.trans k5).trans k9).trans k.t).trans k0)
  have z:ai H9 H4:=(k.t.trans k0)
  exact#[_,Z,b4,jU ((dN _ _ _ m0 x3)) (jU ((dN _ _ _ m1 x2)) (zy.mono z)),(show(G++[u9]).length+1+1<=4 by omega),b5,z]
 ·clear I
  have o1:=o9.fw k
  have m2:ai H2 H0:=(((k3.trans k5).trans k9).trans k.t)
  have m3:ai H3 H0:=((k5.trans k9).trans k.t)
  exact S _ _ #[_,Z,o1,jU ((dN _ _ _ m2 x2)) (jU ((dN _ _ _ m3 x3)) (zy.mono k.t)),(show(G++[u9]).length+1+1<=4 by omega),W4,k.t]
 obtain⟨X,rfl,b7,ux,ul,b9,b'⟩:=h0
 refine I _ _ ?_
 clear I
 have d:ai U b3:=((M.trans k9).trans b')
 refine aj λF5 f6=>Jq b9 Z b7 MP (JB (Cf:=[(g,2)]) (kK Z MO MP) (qe (n:=1) (qg zj) (jI Z ar (ar _ _ _ d xi)) (ky (QC MO (by decide:(1:Int) < 2)) MO) MO MO) MO) λu0 a1 x1 c0 c1 k1=>f6 _ _ ?_
 have b0:gw [(g,2)] a1 Y 0 (X++[u0]):=Jp (ux.mono k1) (zp x1)
 have bl:(X++[u0]).length<=5:=by rw[FD];exact Ho ul
 refine aj λF6 f'=>jQ c1 (YD (JB (Cf:=[(g,2)]) (kK Z MO MP) (ky (kO Z MO MO) MO) MO) (JB (Cf:=[(g,2)]) (kK Z MO MP) (ky (kO Z MO MO) MO) MO)) λv1 a2 x0 c2 J=>f' _ _ ?_
 have o':=c0.fw J
 refine aj λd' L=>dB (λu c=>∃(b:V),u=[some (V.ref p),some (V.str f0),some (V.str g),some (V.ref W),some (vn),some (vi),some (vs),some (vx),some (vy),some (V.ref lb),w5,some b,none]/\Ow H c p W lb (X++[u0])/\PB [(g,2)] Y 0 4 c b/\Wd H c p W Y/\ai a2 c) (λE2 _ T=>qP c2 Z MO MO (λc3 a0 a=>?_) (λc3 a0 a=>?_)) λσ1 a3 h1=>?_
 ·clear L
  have o4:=o'.fw a
  refine aj λe0 c4=>jQ a0 (qK (jI Z dG (dG _ _ _ a.t x0)) (Kb (J9 (Cf:=[(g,2)]) (kK Z MO MP) (ky (QF (kO Z MO MO) MO) MO) MO)) MO) λv2 c5 x4 c6 k4=>c4 _ _ ?_
  have c9:=o4.fw k4
  have m4:ai U c5:=((((d.trans k1).trans J.t).trans a.t).trans k4.t)
  refine jQ c6 (qK (jI Z dG x4) (Kb (JB (Cf:=[(g,2)]) (kK Z MO MP) (qe (n:=1) (qg wI) (jI Z ar (ar _ _ _ m4 xn)) (ky (QC MO (by decide:(2:Int) < 3)) MO) MO MO) MO)) MO) λv3 c' x5 d0 a4=>T _ _ ?_
  have d1:=c9.fw a4
  have N:ai a2 c':=((a.t.trans k4.t).trans a4.t)
  exact#[_,Z,d1,x5,d0,N]
 ·clear L
  have o4:=o'.fw a
  exact T _ _ #[_,Z,o4,(PB.more (dG _ _ _ a.t x0) MO),a0,a.t]
 obtain⟨e1,rfl,a',x',d2,b1⟩:=h1
 refine L _ _ ?_
 clear L
 have j:ai U a3:=(((d.trans k1).trans J.t).trans b1)
 have O:ai a1 a3:=(J.t.trans b1)
 refine aj λe2 d3=>jQ d2 (xE (qe (n:=1) (qg QQ) (jI Z ar (ar _ _ _ j xi)) (jI Z ar (ar _ _ _ j xn)) MO MO) (xC (n:=5) Z a' (b0.mono O) bl) MO MO) λv4 d4 d5 d6 k'=>d3 _ _ ?_
 have e3:=a'.fw k'
 have D:ai U d4:=(j.trans k'.t)
 refine QG d6 (YE (Qc Z) (xA (kK Z MO MP)) (qK (Ev.up (jI Z dG (dG _ _ _ k'.t x')) λ_ _=>PB.lift) (Ci (jI Z dN d5) (Ev.up (Ka (Cf:=[(g,2)]) (ky (QC MO (by decide:(30:Int) < 31)) MO) (jI Z ar (ar _ _ _ D xs)) MO MO) λ_ _=>cy.lift) (Ev.up (Q6 (Cf:=[(g,2)]) (jI Z ar (ar _ _ _ D xs)) MO) λ_ _=>cy.lift)) MO) MO MP) λv c x W'=>?_
 obtain⟨r,rfl,x⟩:=x
 exact q r c x W'.B W'.K
theorem D0(b:0<=d)(c:d < 2)(h:cy C H y 0 u)(a:cy C H y 0 v):gw C H y 0 (a8 [u,v] none (some (1+d)))/\(a8 [u,v] none (some (1+d))).length<=2:=by
 rcases(by omega:d=0∨d=1) with rfl |rfl
 ·exact#[zp h,by show 1<=2;decide]
 ·exact#[jU h (zp a),by show 2<=2;decide]
def P2(C:gU)(y:List Str)(H:Hp)(w:V):Prop:=∃a u v,w= .ref a/\H a=some (.tup [u,v])/\cy C H y 0 u/\cy C H y 0 v
theorem xJ:nj (P2 C y):=λ_ _ _ m #[a,u,v,e,h,H,b]=>#[a,u,v,e,m _ _ h,H.mono m,b.mono m]
section
variable {Cf:gU}{ys:List Str}{H0 Hb:Hp}{p wl:Addr}{σ:L2.St}
theorem yz(h:Ev H0 p wl ys Hb σ T (λH v=>cy Cf H ys 0 v))(c:Ev H0 p wl ys Hb σ d (λH v=>cy Cf H ys 0 v)):Ev H0 p wl ys Hb σ (b6 (am T (am d aT))) (P2 Cf ys):=λH Q m W q=>
 h H _ m W λo e X f a=>c e _ (m.trans a) f λs u g i b=>#[bX,λr n=>kr (P:=P2 Cf ys) i (λV j x l k=>q V j x l ((a.trans b).trans k)) n λt z=>#[r,_,_,Z,z,(X.mono b.t).mono t,g.mono t]]
theorem yy(e:σ[i]?=some (some v))(E:σ[0]?=some (some (.ref p)))(h:P2 Cf ys Hb v):Ev H0 p wl ys Hb σ (DN CW (be i) lh (lR (dJ (wc λi j=>V.int (i+j)) (tC (.int 1)) (uj 2)))) (PB Cf ys 0 2):=λH Q m W q=>
 #[v,e,kO E MO MO H _ m W λw y #[d,b,D,c] f k=>#[1,d,Z,b,_,Z,by
  obtain⟨a,u,A,rfl,g,l,n⟩:=xJ _ _ _ (m.trans k).t h
  have z:=D0 D c l n
  exact#[a,_,Z,g,λr o x s=>q _ o #[r,_,Z,x,z.1.mono (ae.tm s),z.2] (f.same s) (k.trans (.same s))]]]
end
theorem aV:al ["_law_box_here","_law_f","_law_inner_here","_law_w","_law_n","_law_i","_law_s","_law_x","_law_y","_law_spot_here","_law_body_here","_law_kept","_law_some","_law_start","_law_loop"] ["_law_box_here","_law_f","_law_inner_here","_law_w"] (aa fj):=bP
noncomputable def KP:Scope:=#[.function,[(".0",.local),("_law_one",.local)],false,false,[]]
theorem XO:(["_law_one"]:List Str).Nodup:=by decide+kernel
theorem XQ:bM ["_law_box_here","_law_f","_law_inner_here","_law_w","_law_n","_law_i","_law_s","_law_x","_law_y","_law_spot_here","_law_body_here","_law_kept","_law_some","_law_start","_law_loop"] (aa fj) KP ["_law_one"] 1 []:=ui
theorem Yx{cf:FuncData}(F:aU K "_law_ticking" "_law_ticking" fj f fd)(C:Cl P w K mg base 1 fT cf ["_law_box_here","_law_wide"] ba "_law_take")(cO:Cl P w K mg base 2 fO b7 ["_law_box_here","_law_a","_law_b"] mP "_law_op")(mi:mg "int"=none)(m1:mg "tuple"=none):ah P w K mg base aE 3 f fd ["_law_box_here","_law_f","_law_inner_here","_law_w"] (dq 1):=by
 refine F.ok aV ?_ λc0 A o5 s H vs Q E c h=>?_
 ·rintro _ _ _ _ ⟨p,W,f0,g,ys,rfl,_⟩
  rfl
 refine aZ λGq kq=>?_
 obtain⟨p,W,f0,g,ys,rfl,B,hw,h1,q⟩:=h
 refine kq ?_
 clear kq
 refine#[_,(jd (zf (@zG _ _ _ _ _ _ _ (["_law_one"]) (1) ([]) _ _ _ _ Z (qt (jJ kB (pv 3) j7 (jG jf))) XQ (λ_ _ _ _ _=>(jw (i:=0) XO Z (Or.inl Z))) (λ_ _ _ _ _=>(@zU _)) (λ_ _ _ _ _=>(jh (ja jl (ja (pv 0) jb)))) (by intro _;rfl)) (@YY _ _ _ _ (5) _ Z (jz (jw (i:=4) aV.nd Z (Or.inl Z)) (jz (jw (i:=5) aV.nd Z (Or.inl Z)) (jz (jw (i:=6) aV.nd Z (Or.inl Z)) (jz (jw (i:=7) aV.nd Z (Or.inl Z)) (jz (jw (i:=8) aV.nd Z (Or.inl Z)) j6))))) MT MT)) (jd (jA 9 aV.nd (jh (ja jl (ja (ju jX jf (C.e c.m (ja (pv 0) (ja jf jb)))) jb)))) (jd (jA 10 aV.nd (jF (ja (jh (ja jl (ja (jv jr (pv 3) jf (λ_ _=>Z)) (ja (pv 9) jb)))) (ja (jh (ja jl (ja (jv jr (pv 3) jf (λ_ _=>Z)) (ja (jv jr (jF (ja (pv 5) (ja (jh (ja jl (ja (C.e c.m (ja (pv 0) (ja jf jb))) jb))) jb))) (C.e c.m (ja (pv 0) (ja jf jb))) (λ_ _=>Z)) jb)))) jb)))) (jd (jT (kN F8 Gk Gj jR (pv 10) (ja (jh (ja jl (ja (jv jr (pv 3) jf (λ_ _=>Z)) (ja (pv 2) (ja (jh (ja (jv jr (jF (ja (pv 7) (ja (jh (ja jl (ja jf jb))) jb))) (C.e c.m (ja (pv 0) (ja jf jb))) (λ_ _=>Z)) (ja (jv jr (jF (ja (pv 5) (ja (jh (ja jl (ja jf jb))) jb))) (C.e c.m (ja (pv 0) (ja jf jb))) (λ_ _=>Z)) jb))) jb))))) jb))) (jd (jY (jx (za (C.e c.m (ja (pv 0) (ja jf jb)))) (jg (jT (kN F8 Gk Gj jR (pv 10) (ja (jh (ja jl (ja (jh (ja jl (ja jl (ja (pv 5) (ja (jh (ja jl (ja (C.e c.m (ja (pv 0) (ja jf jb))) jb))) jb))))) (ja (pv 8) jb)))) jb)))) jp)) (jd (jA 11 aV.nd (jh (ja jl (ja jf jb)))) (jd (jA 12 aV.nd (jF (ja (jh (ja jl (ja (jv jr (pv 3) jf (λ_ _=>Z)) (ja (pv 11) jb)))) (ja (jh (ja jl (ja (pv 11) (ja (cO.e c.m (ja (pv 0) (ja (pv 6) (ja (pv 8) jb)))) jb)))) jb)))) (jd (jY (jx (za (C.e c.m (ja (pv 0) (ja jf jb)))) (jg (jA 12 aV.nd (jF (ja (jh (ja jl (ja (jv jr (pv 3) jf (λ_ _=>Z)) (ja (cO.e c.m (ja (pv 0) (ja (pv 6) (ja (pv 8) jb)))) jb)))) jb)))) jp)) (jd (jA 10 aV.nd (ju qi (ju qi (pv 10) (pv 12)) (jF (ja (jh (ja jl (ja (pv 9) (ja (jh (ja jl (ja jl (ja (pv 5) (ja (jh (ja jl (ja jf jb))) jb))))) jb)))) (ja (jh (ja jl (ja (jv jr (pv 3) jf (λ_ _=>Z)) (ja (jh (ja jl (ja jl (ja (pv 5) (ja (pv 4) jb))))) jb)))) jb))))) (jd (jA 13 aV.nd (jh (ja (jh (ja jl (ja (jv jr (pv 3) jf (λ_ _=>Z)) (ja (jh (ja jl (ja jf jb))) jb)))) (ja (jh (ja jl (ja (pv 9) (ja (jh (ja jl (ja (C.e c.m (ja (pv 0) (ja jf jb))) jb))) jb)))) jb)))) (jd (jA 14 aV.nd (jh (ja jl (ja (jh (ja jl (ja (jv jr (pv 3) jf (λ_ _=>Z)) jb))) (ja (jE jH Z m1 Ig (ja (pv 10) jb)) jb))))) (jg (jo (jh (ja (pv 1) (ja (jh (ja (jv jr (pv 3) jf (λ_ _=>Z)) jb)) (ja (ju j8 (jJ zh (pv 13) j7 (jG (ju jX jf (C.e c.m (ja (pv 0) (ja jf jb)))))) (jh (ja (pv 14) (ja (jh (ja jl (ja (pv 6) jb))) jb)))) jb))))))))))))))))),?_]
 have W0:Wd H H p W ys:=#[B,au.refl,hw]
 refine aj λF1 f1=>Y7 W0 Z h1 λvn vi vs vx vy H1 xn xi xs xx xy W1=>f1 _ _ ?_
 refine aj λF2 f2=>jQ W1 (ky (QF (kO Z MO MO) MO) MO) λv2 H2 x2 W2 k2=>f2 _ _ ?_
 refine aj λF3 f3=>CN W2 (J9 (Cf:=[(g,2)]) (kK Z MO MP) (jI Z ar x2) MO) (J9 (Cf:=[(g,2)]) (kK Z MO MP) (YC Z (jI Z ar (ar _ _ _ k2.t xi)) (ky (kO Z MO MO) MO)) MO) λlb u3 w3 H3 o3 x3 y3 W3 k3=>f3 _ _ ?_
 have a:ai H1 H3:=(k2.t.trans k3.t)
 refine aj λF4 f4=>Jq W3 Z o3 (show 2<=100 by decide) (o0 (Cf:=[(g,2)]) (kK Z MO MP) (Qc Z) FX (YC Z (jI Z ar (ar _ _ _ a xx)) (ky (QC MO (by decide:(3:Int) < 4)) MO)) (YC Z (jI Z ar (ar _ _ _ a xi)) (ky (QC MO (by decide:(2:Int) < 3)) MO)) MO MO) λu4 H4 x4 o4 W4 k4=>f4 _ _ ?_
 refine aj λF5 f5=>dB (λN d=>∃(us:List V),N=[some (V.ref p),some (V.str f0),some (V.str g),some (V.ref W),some (vn),some (vi),some (vs),some (vx),some (vy),some (v2),some (V.ref lb),none,none,none,none]/\Ow H d p W lb us/\gw [(g,2)] d ys 0 us/\us.length<=4/\Wd H d p W ys/\ai H4 d) (λE5 _ f6=>qP W4 Z MO MO (λH7 W7 u=>?_) (λH7 W7 u=>?_)) λσ1 H6 h2=>?_
 ·clear f5
  have o7:=o4.fw u
  have D:ai H1 H7:=((a.trans k4).trans u.t)
  refine Jq W7 Z o7 (show 3<=100 by decide) (Ka (Cf:=[(g,2)]) (qe (n:=1) (qg zj) (jI Z ar (ar _ _ _ D xi)) (ky (kO Z MO MO) MO) MO MO) (jI Z ar (ar _ _ _ D xy)) MO MO) λu8 H8 x8 o8 W8 k8=>f6 _ _ ?_
  have G:ai H4 H8:=(u.t.trans k8)
  have I:ai H3 H8:=((k4.trans u.t).trans k8)
  exact#[_,Z,o8,(jU ((dN _ _ _ I x3)) (jU ((dN _ _ _ I y3)) (jU ((dN _ _ _ G x4)) (jU (x8) Ki)))),(show 4<=4 by decide),W8,G]
 ·clear f5
  have o7:=o4.fw u
  have J:ai H3 H7:=(k4.trans u.t)
  exact f6 _ _ #[_,Z,o7,(jU ((dN _ _ _ J x3)) (jU ((dN _ _ _ J y3)) (jU ((dN _ _ _ u.t x4)) Ki))),(show 3<=4 by decide),W7,u.t]
 obtain⟨us,rfl,o6,ux,ul,W6,k6⟩:=h2
 refine f5 _ _ ?_
 clear f5
 refine aj λF9 f9=>jQ W6 (ky (QC MO (by decide:(30:Int) < 31)) MO) λv9 H9 x9 W9 k9=>f9 _ _ ?_
 have o9:=o6.fw k9
 have b:ai H1 H9:=(((a.trans k4).trans k6).trans k9.t)
 refine aj λF0 f7=>CN W9 (J9 (Cf:=[(g,2)]) (kK Z MO MP) (jI Z ar x9) MO) (Ka (Cf:=[(g,2)]) (jI Z ar x9) (J8 Z (jI Z ar (ar _ _ _ b xs)) (jI Z ar (ar _ _ _ b xy))) MO MO) λlm u0 w0 H0 z0 x0 y0 W5 j=>f7 _ _ ?_
 have o1:=o9.fw j
 refine aj λF6 y=>dB (λN d=>∃(m:Addr) (zs:List V),N=[some (V.ref p),some (V.str f0),some (V.str g),some (V.ref W),some (vn),some (vi),some (vs),some (vx),some (vy),some (v2),some (V.ref lb),some (v9),some (.ref m),none,none]/\Ow H d p W lb us/\Ow H d p W m zs/\gw [(g,2)] d ys 0 zs/\zs.length<=2/\Wd H d p W ys/\ai H0 d) (λE1 _ L=>qP W5 Z MO MO (λH5 O k=>?_) (λH5 O k=>?_)) λσ0 R h0=>?_
 ·clear y
  have S:=o1.fw k
  have z1:=z0.fw k
  have l:ai H1 H5:=((b.trans j.t).trans k.t)
  refine CM O (JB (Cf:=[(g,2)]) (kK Z MO MP) (J8 Z (jI Z ar (ar _ _ _ l xs)) (jI Z ar (ar _ _ _ l xy))) MO) λlq u1 a0 z2 x1 a1 k1=>L _ _ ?_
  have o':=S.fw k1
  have z:ai H0 a0:=(k.t.trans k1.t)
  exact#[_,_,Z,o',z2,zp x1,(show 1<=2 by decide),a1,z]
 ·clear y
  have S:=o1.fw k
  have z1:=z0.fw k
  exact L _ _ #[_,_,Z,S,z1,(jU ((dN _ _ _ k.t x0)) (jU ((dN _ _ _ k.t y0)) Ki)),(show 2<=2 by decide),O,k.t]
 obtain⟨lm,zs,rfl,a2,z3,zx,zl,a3,T⟩:=h0
 refine y _ _ ?_
 clear y
 have o:ai H2 R:=(((((k3.t.trans k4).trans k6).trans k9.t).trans j.t).trans T)
 have M:ai H1 R:=((b.trans j.t).trans T)
 have U:ai H6 R:=((k9.t.trans j.t).trans T)
 refine aj λF7 f'=>yr a3 Z Z a2 z3 MP (ux.mono U) zx (Ka (Cf:=[(g,2)]) (jI Z ar (ar _ _ _ o x2)) (qe (n:=1) (qg zj) (jI Z ar (ar _ _ _ M xi)) (ky (QC MO (by decide:(1:Int) < 2)) MO) MO MO) MO MO) (JB (Cf:=[(g,2)]) (kK Z MO MP) (qe (n:=1) (qg QQ) (jI Z ar (ar _ _ _ M xi)) (jI Z ar (ar _ _ _ M xn)) MO MO) MO) λlc cs a4 a' cx cl b0 k5=>f' _ _ ?_
 have cm:cs.length<=8:=by omega
 have X:ai H2 a4:=(o.trans k5.t)
 refine aj λb9 b1=>jQ b0 (yz (JB (Cf:=[(g,2)]) (kK Z MO MP) (ky (QC MO (by decide:(1:Int) < 2)) MO) MO) (Ka (Cf:=[(g,2)]) (jI Z ar (ar _ _ _ X x2)) (ky (kO Z MO MO) MO) MO MO)) λv1 b' x5 b2 Y=>b1 _ _ ?_
 have o2:=a'.fw Y
 refine aj λc1 b3=>jQ b2 (xE (J7 (kK Z MO MP)) (xC (n:=8) Z o2 (cx.mono Y.t) cm) MO MO) λv3 b4 x7 b5 k0=>b3 _ _ ?_
 have c2:=o2.fw k0
 have m0:ai H1 b4:=(((M.trans k5.t).trans Y.t).trans k0.t)
 refine QG b5 (YE (Qc Z) (xA (kK Z MO MP)) (qK (Ev.up (yy Z Z (xJ _ _ _ k0.t x5)) λ_ _=>PB.lift) (YD (jI Z dN x7) (Ev.up (Q6 (Cf:=[(g,2)]) (jI Z ar (ar _ _ _ m0 xs)) MO) λ_ _=>cy.lift)) MO) MO MP) λv d x W'=>?_
 obtain⟨r,rfl,x⟩:=x
 exact q r d x W'.B W'.K
theorem D1{y:List Str}{lo:Nat}(h:y.length=14)(H:lo<=8):(bn y (some (lo:Int)) (some ((lo+6:Nat):Int))).length=6:=by
 unfold bn
 rw[HT.sIx_nat,HT.sIx_nat,Gf,HL,h,IB (FL H MO),IB (Nat.add_le_add_right H 6),Nat.add_sub_cancel_left]
 exact IB (Nat.le_sub_of_add_le (FL (Nat.add_le_add_left H 6) MO))
theorem Fc{k:Nat}(h:k < n):mj n (k:Int)=some k:=by unfold mj;rw[FQ MP,FQ MP,GQ]
theorem oy.more(h:oy C n H r f)(k:∀y∈C,y∈D):oy D n H r f:=let #[d,b,a,c]:=h;#[d,b,#[a.1,km k a.2],c]
theorem D3(r:oy [(l,N),(m,j),(o,k)] N H a l)(s:oy [(l,N),(m,j),(o,k)] j H b m)(t:oy [(l,N),(m,j),(o,k)] k H c o)(p:N<=100/\j<=100/\k<=100):∃D,cw H D [.ref a,.ref b,.ref c]/\D.length=3/\((∀d∈D,lY d/\d.b.Cs [(l,N),(m,j),(o,k)])/\D.map Df.f=[l,m,o])/\lD H D [N,j,k]:=by
 obtain⟨d,u,v,O,y,z,E⟩:=r
 obtain⟨e,A,B,Q,C,F,G⟩:=s
 obtain⟨f,I,J,R,g3,L,M⟩:=t
 refine#[[d,e,f],#[_,_,Z,u,_,_,Z,A,_,_,Z,I,Z],Z,#[λx q=>?_,by rw[<- E,<- G,<- M];rfl],Z,λi x n h g=>?_]
 ·simp only[Ib,Gh,I0]at q
  rcases q with rfl |rfl |rfl
  ·exact v
  ·exact B
  ·exact J
 ·match i,h,g with
  |0,h,g=>cases h;cases g;exact#[_,y,z,p.1]
  |1,h,g=>cases h;cases g;exact#[_,C,F,p.2.1]
  |2,h,g=>cases h;cases g;exact#[_,g3,L,p.2.2]
def mK:Sp:=λv H Q _=>∃(p:Addr),v=[.ref p]/\aq H p/\∀(r:Addr) (d:List Df) (x:List V) (h:Hp),h r=some (.tup x)->cw h d x->d.length=3->∀n,oB d n->lD h d n->(∃r,n=1::r)->aq h p->au p H h->Q (.ref r) h
def BN(L:List Str)(_:Hp)(v:V):Prop:=∃x,v= .str x/\x∈L
section
variable {ys:List Str}{H0 Hb:Hp}{p wl:Addr}{σ:L2.St}
theorem Cm{K:Frag}(e:σ[0]?=some (some (.ref p)))(r:Ev H0 p wl ys Hb σ t (uA a))(s:Ev H0 p wl ys Hb σ T (uA b))(u:Ev H0 p wl ys Hb σ x (uA c)):Ev H0 p wl ys Hb σ (dJ (iN K) (lQ (am t (am T (am x aT)))) (uj 3)) (BN [a,b,c]):=λH Q m W q=>
 r H _ m W λy z (E:y= .str a) A k=>s z _ (m.trans k) A λC D (F:C= .str b) G f=>u D _ ((m.trans k).trans f) G λI R (J:I= .str c) h j=>#[gm,λl n=>kO e MO MO _ _ ((((m.trans k).trans f).trans j).trans (.new n)) (h.same (je n)) λv L #[d,M,S,U] N o=>by
  obtain⟨g,i,O⟩:∃g,dF [V.str a,.str b,.str c] d=some (.str g)/\g∈[a,b,c]:=by
   rcases(by omega:d=0∨d=1∨d=2) with rfl |rfl |rfl
   ·exact#[a,Z,MQ]
   ·exact#[b,Z,MQ]
   ·exact#[c,Z,MQ]
  rw[<- E,<- F,<- J]at i
  exact#[l,_,d,_,Z,M,aP.of (o.b _ _ (h.B.ne n) jc),i,q _ L #[g,Z,O] N (((k.trans f).trans j).trans ((Fw.new n).trans o))]]
theorem pe{K:Frag}{lo:Nat}(e:σ[0]?=some (some (.ref p)))(E:σ[1]?=some (some (.ref wl)))(d:Ev H0 p wl ys Hb σ t (uA f))(l:Ev H0 p wl ys Hb σ T (BN L))(h:ys.length=14)(o:lo<=8)(s:i=(lo:Int))(u:j=((lo+6:Nat):Int)):
  Ev H0 p wl ys Hb σ (dI (dq n) [] E0 (am (be 0) (am t (am T (am (DN (AR K) (be 1) (lR (tC (.int i))) (lR (tC (.int j)))) aT))))) (PD (L.map λy=>(y,2)) n f):=λH Q m W q=>
 #[_,e,d H _ m W λv x (z:v= .str f) A k=>l x _ (m.trans k) A λV M #[g,D,c] b F=>#[_,E,_,Z,_,Z,wl,_,Z,aP.of b.w,λr N=>#[p,r,f,g,bn ys (some i) (some j),by rw[z,D];rfl,b.B.upd_new N,by rw[jc,zw],by rw[s,u];exact D1 h o,λa G X I C=>
  q _ G #[a,Z,X.more λy J=>by rw[List.mem_singleton.mp J];exact List.mem_map.mpr #[g,c,Z]] ((b.same (je N)).but I C) ((k.trans F).trans ((Fw.new N).trans (.but (b.B.upd_new N) C)))]]]
theorem qQ{K:Frag}{k:Nat}(e:σ[j]?=some (some (.ref wl)))(a:i=(k:Int))(h:ys[k]?=some y):Ev H0 p wl ys Hb σ (dJ (iN K) (be j) (tC (.int i))) (uA y):=λH Q m W q=>
 #[_,e,wl,_,_,_,Z,Z,aP.of W.w,(by rw[a];exact jN (by rw[FT,h];rfl)),q _ H Z W .refl]
theorem Cj{n1 n2 n3:Nat}(s:n1<=100/\n2<=100/\n3<=100)(u:Ev H0 p wl ys Hb σ T (PD [(e,n1),(h,n2),(i,n3)] n1 e))(y:Ev H0 p wl ys Hb σ z (PD [(e,n1),(h,n2),(i,n3)] n2 h))(A:Ev H0 p wl ys Hb σ B (PD [(e,n1),(h,n2),(i,n3)] n3 i)):Ev H0 p wl ys Hb σ (b6 (am T (am z (am B aT)))) (λH v=>∃r D x,v= .ref r/\H r=some (.tup x)/\cw H D x/\D.length=3/\((∀d∈D,lY d/\d.b.Cs [(e,n1),(h,n2),(i,n3)])/\D.map Df.f=[e,h,i])/\lD H D [n1,n2,n3]):=λH Q m W q=>
 u H _ m W λV C X E k=>y C _ (m.trans k) E λF G I J j=>A G _ ((m.trans k).trans j) J λL H4 M N l=>#[gm,λr n=>q _ _ (by
  have t:=ae.tm (je (o:=HO.tup [V,F,L]) n)
  obtain⟨a,O,R⟩:=iK _ _ _ t (iK _ _ _ (j.trans l).t X)
  obtain⟨b,S,U⟩:=iK _ _ _ t (iK _ _ _ l.t I)
  obtain⟨c,Y,h3⟩:=iK _ _ _ t M
  obtain⟨D,g⟩:=D3 R U h3 s
  exact#[r,D,_,Z,by rw[jc,O,S,Y],g]) (N.same (je n)) (((k.trans j).trans l).trans (.new n))]
end
theorem eV:al ["_law_box_here","_law_w","_law_body_here","_law_deeper","_law_further","_law_first"] ["_law_box_here"] (aa rN):=bP
theorem vp{cf:FuncData}(F:aU K "_law_busy" "_law_busy" rN f fd)(T:Cl P w K mg base 1 fT cf ["_law_box_here","_law_wide"] ba "_law_take")(cO:Cl P w K mg base 2 fO f0 ["_law_box_here","_law_a","_law_b"] mP "_law_op")(cA:Cl P w K mg base 2 fA f1 ["_law_box_here","_law_total"] gN "_law_names")(cL:Cl P w K mg base 3 fL f7 ["_law_box_here","_law_f","_law_inner_here","_law_w"] (dq 1) "_law_looped")(cK:Cl P w K mg base 3 fK f9 ["_law_box_here","_law_f","_law_inner_here","_law_w"] (dq 1) "_law_ticking")(cI:Cl P w K mg base 3 fI f' ["_law_box_here","_law_f","_law_g","_law_w"] (dq 2) "_law_inner"):ah P w K mg base aE 4 f fd ["_law_box_here"] mK:=by
 refine F.ok eV ?_ λc0 A U s H vs Q E i h=>?_
 ·rintro _ _ _ _ ⟨p,rfl,_⟩
  rfl
 refine aZ λGq kq=>?_
 obtain⟨p,rfl,B,q⟩:=h
 refine kq ?_
 clear kq
 refine#[_,(jd (jA 1 eV.nd (cA.e i.m (ja (pv 0) (ja jf jb)))) (jd (jY (jx (za (T.e i.m (ja (pv 0) (ja jf jb)))) (jg (zf (jv jr (pv 1) jf (λ_ _=>Z)) (qH (pv 1) jf zr))) jp)) (jd (jA 2 eV.nd (jh (ja (jh (ja jl (ja (jv jr (pv 1) jf (λ_ _=>Z)) (ja (jh (ja jl (ja (jv jr (pv 1) jf (λ_ _=>Z)) jb))) jb)))) (ja (jh (ja jl (ja (cO.e i.m (ja (pv 0) (ja (jh (ja jl (ja (jv jr (pv 1) jf (λ_ _=>Z)) jb))) (ja (jh (ja jl (ja (jv jr (pv 1) jf (λ_ _=>Z)) jb))) jb)))) jb))) jb)))) (jd (jA 3 eV.nd (jh (ja (jv jr (pv 1) jf (λ_ _=>Z)) (ja (jh (ja (jv jr (pv 1) jf (λ_ _=>Z)) (ja (jv jr (pv 1) jf (λ_ _=>Z)) jb))) (ja (pv 2) jb))))) (jd (jA 4 eV.nd (jv jr (jF (ja (jv jr (pv 1) jf (λ_ _=>Z)) (ja (jv jr (pv 1) jf (λ_ _=>Z)) (ja (jv jr (pv 1) jf (λ_ _=>Z)) jb)))) (T.e i.m (ja (pv 0) (ja jf jb))) (λ_ _=>Z))) (jd (jA 5 eV.nd (cL.e i.m (ja (pv 0) (ja (jv jr (pv 1) jf (λ_ _=>Z)) (ja (jv jr (pv 1) jf (λ_ _=>Z)) (ja (jJ kB (pv 1) (jG jf) (jG jf)) jb)))))) (jd (jY (jx (za (T.e i.m (ja (pv 0) (ja jf jb)))) (jg (jA 5 eV.nd (cK.e i.m (ja (pv 0) (ja (jv jr (pv 1) jf (λ_ _=>Z)) (ja (jv jr (pv 1) jf (λ_ _=>Z)) (ja (jJ kB (pv 1) (jG jf) (jG jf)) jb))))))) jp)) (jg (jo (jh (ja (pv 5) (ja (cI.e i.m (ja (pv 0) (ja (jv jr (pv 1) jf (λ_ _=>Z)) (ja (pv 4) (ja (jJ kB (pv 1) (jG jf) (jG jf)) jb))))) (ja (pv 3) jb))))))))))))),?_]
 refine aj λFa o=>#[_,Z,p,14,Z,B,MO,MO,λj ys Ha X u c d Ba ka=>o _ _ ?_]
 clear o
 have wp:j≠p:=qj Ba u
 refine aj λFa o=>dB (λn g=>∃Y:List Str,n=[some (V.ref p),some (V.ref j),none,none,none,none]/\g j=some (.lst (Y.map V.str))/\(Y.length=14/\(Y.take 3).Nodup/\∀y∈Y.take 3,y.length<=20)/\aq g p/\au p H g) (λE0 _ fm=>qP (W:=#[Ba,ka,u]) Z MO MO (λHb l kb=>?_) (λHb l kb=>fm _ _ #[_,Z,l.w,#[MP,d.2.sublist (HW _ _),λy hy=>d.1 y (GU hy)],l.B,l.K])) λσ1 H0 h3=>?_
 ·clear o
  obtain⟨v1,h6,z⟩:=Ke (ys:=ys) (k:=1) MO MP
  refine#[_,Z,j,_,_,_,Z,Z,aP.of l.w,z,_,Z,j,_,8,8,Z,Z,l.w,Fc (k:=8) (by rw[Fy];omega),fm _ _ #[ys.set 8 v1,Z,?_,#[by rw[Ly];omega,by rw[List.take_set_of_le MO];exact#[d.2.sublist (HW _ _),λy hy=>d.1 y (GU hy)]],l.B.eq (jk (Gp wp)),l.K.upd_own X]]
  rw[jc,List.map_set]
 obtain⟨ys,rfl,h4,⟨c,C,D⟩,B1,k1⟩:=h3
 obtain⟨y0,h0⟩:∃y,ys[0]?=some y:=#[_,Fu (by omega:0 < ys.length)]
 obtain⟨G,I⟩:∃y,ys[1]?=some y:=#[_,Fu (by omega:1 < ys.length)]
 obtain⟨y2,N⟩:∃y,ys[2]?=some y:=#[_,Fu (by omega:2 < ys.length)]
 have e3:ys.take 3=[y0,G,y2]:=by rw[Iq,Iq,Iq,h0,I,N];rfl
 rw[e3]at C D
 refine o _ _ ?_
 clear o
 have W1:Wd H H0 p j ys:=#[B1,k1,h4]
 generalize H0=H1 at W1
 refine aj λF2 f2=>jQ W1 (YD (J9 (Cf:=[]) (kK Z MO MP) (J7 (kK Z MO MP)) MO) (Q6 (Cf:=[]) (J8 Z (J7 (kK Z MO MP)) (J7 (kK Z MO MP))) MO)) λv2 H2 x2 W2 k2=>f2 _ _ ?_
 refine aj λF3 f3=>jQ W2 (YE (Cf:=[]) (qQ (k:=2) Z Z N) (xB (kK Z MO MP) (kK Z MO MP)) (Ev.up (jI Z dG x2) λ_ _=>PB.lift) MO MP) λv3 H3 x3 W3 k3=>f3 _ _ ?_
 refine aj λF4 f4=>jQ W3 (Cm Z (qQ (k:=1) Z Z I) (qQ (k:=2) Z Z N) (qQ (k:=2) Z Z N)) λv4 H4 x4 W4 k4=>f4 _ _ ?_
 refine aj λF5 f5=>jQ W4 (pe (lo:=6) Z Z (qQ (k:=0) Z Z h0) (Ev.up (R:=BN [G]) (qQ (k:=1) Z Z I) λ_ _ e=>#[_,e,FX]) c MO Z Z) λv5 H5 x5 W5 k5=>f5 _ _ ?_
 refine aj λF6 O=>dB (λn g=>∃(b:V),n=[some (V.ref p),some (V.ref j),some (v2),some (v3),some (v4),some b]/\PD [(G,2)] 1 y0 g b/\Wd H g p j ys/\ai H5 g) (λE6 _ J=>qP W5 Z MO MO (λH8 W8 S=>?_) (λH8 W8 S=>?_)) λσ2 H7 h5=>?_
 ·clear O
  refine jQ W8 (pe (lo:=6) Z Z (qQ (k:=0) Z Z h0) (Ev.up (R:=BN [G]) (qQ (k:=1) Z Z I) λ_ _ e=>#[_,e,FX]) c MO Z Z) λv9 H9 x9 W9 k9=>J _ _ ?_
  have M:ai H5 H9:=(S.t.trans k9.t)
  exact#[_,Z,x9,W9,M]
 ·clear O
  exact J _ _ #[_,Z,(iK _ _ _ S.t x5),W8,S.t]
 obtain⟨b7,rfl,x7,W7,k7⟩:=h5
 refine O _ _ ?_
 clear O
 have L:ai H3 H7:=((k4.t.trans k5.t).trans k7)
 refine QG W7 (Cj (n1:=1) (n2:=2) (n3:=2) #[MO,MO,MO] (Ev.up (jI Z iK x7) (λ_ _ #[a,e,h]=>#[a,e,h.more MQ])) (Ev.up (pe (lo:=7) Z Z (qQ (k:=1) Z Z I) (jI (P:=BN [G,y2,y2]) Z (λ_ _ _ _ h=>h) x4) c MO Z Z) (λ_ _ #[a,e,h]=>#[a,e,h.more MQ])) (Ev.up (jI Z iK (iK _ _ _ L x3)) (λ_ _ #[a,e,h]=>#[a,e,h.more MQ]))) λv g x W'=>?_
 obtain⟨r,ds,xs,rfl,g0,g1,g2,g3,g4⟩:=x
 exact q r ds xs g g0 g1 g2 [1,2,2] #[by rw[g3.2];exact g3.1,by rw[g3.2];exact#[C,D]] g4 #[_,Z] W'.B W'.K
noncomputable abbrev nD:Stmt:=bQ 71
theorem Bl(h:0<=d)(H:d < 4):∃m:Int,dF [V.int 3,.int 3,.int 3,.int 8] d=some (.int m)/\3<=m/\m<=8:=by
 rcases(by omega:d=0∨d=1∨d=2∨d=3) with rfl |rfl |rfl |rfl
 ·exact#[3,Z,MO,MO]
 ·exact#[3,Z,MO,MO]
 ·exact#[3,Z,MO,MO]
 ·exact#[8,Z,MO,MO]
theorem yx(h:cw H D v)(f:0<=k)(g:k < (v.length:Int)):∃d,dF v k=some (.ref d.p)/\d∈D/\wZ H d (.ref d.p):=by
 have a:k.toNat < v.length:=by omega
 have E:k=((k.toNat:Nat):Int):=by omega
 obtain⟨d,c,b⟩:=h.at k.toNat _ (Fu a)
 have e:v[k.toNat]= .ref d.p:=b.elim λ_ z=>z.1
 refine#[d,?_,F' c,by rw[<- e];exact b]
 rw[E]
 exact jN (by rw[<- e];exact Fu a)
def BD(H:Hp)(D:List Df)(v a:V):Prop:=∃(d:Df) (p:List Str) (t:Addr) (I:List Int),d∈D/\v= .str d.f/\H d.pa=some (.tup (p.map V.str))/\a= .ref t/\H t=some (.tup (I.map V.int))/\I.length=p.length/\I.length<=100/\∀i∈I,0<=i/\i < 1000000000000000000
def mM:Sp:=λb H Q _=>∃(p:Addr),b=[.ref p]/\aq H p/\∀(t r:Addr) (v a:V) (d:List Df) (x:List V) (h:Hp),h t=some (.tup [.ref r,v,a])->h r=some (.tup x)->cw h d x->1<=d.length->d.length<=8->∀n,oB d n->lD h d n->BD h d v a->aq h p->au p H h->Q (.ref t) h
theorem eW:al ["_law_box_here","_law_program","_law_total","_law_f","_law_params","_law_body_here"] ["_law_box_here"] (aa nD):=bP
noncomputable def XS:Scope:=#[.function,[(".0",.local),("_law_one",.local),("_law_number",.globalImplicit),("_law_box_here",.free)],false,false,[]]
theorem pJ:(["_law_one","_law_box_here"]:List Str).Nodup:=by decide+kernel
theorem oK:bM ["_law_box_here","_law_program","_law_total","_law_f","_law_params","_law_body_here"] (aa nD) XS ["_law_one","_law_box_here"] 1 [0]:=ui
theorem vq{cf:FuncData}(F:aU K "_law_case" "_law_case" nD f fd)(M:Cl P w K mg base 1 fT cf ["_law_box_here","_law_wide"] ba "_law_take")(cN:Cl P w K mg base 2 fN f0 ["_law_box_here"] ie "_law_number")(cY:Cl P w K mg base 4 fY f3 ["_law_box_here"] mK "_law_busy")(cZ:Cl P w K mg base 22 fZ f4 ["_law_box_here","_law_total","_law_room"] sQ "_law_any")(ml:mg "len"=none)(m0:mg "tuple"=none):ah P w K mg base aE 23 f fd ["_law_box_here"] mM:=by
 refine F.ok eW ?_ λc0 A o1 s H vs Q E y h=>?_
 ·rintro _ _ _ _ ⟨p,rfl,_⟩
  rfl
 refine aZ λGq kq=>?_
 obtain⟨p,rfl,B,q⟩:=h
 refine kq ?_
 clear kq
 refine#[_,(jd (jx (jB Jz (M.e y.m (ja (pv 0) (ja jf jb))) jf (aK _)) (jd (jA 1 eW.nd (cY.e y.m (ja (pv 0) jb))) (jg (jo (jh (ja (pv 1) (ja (jy (jv j5 (pv 1) jf (λ_ _=>Z))) (ja (jh (ja (M.e y.m (ja (pv 0) (ja jf jb))) jb)) jb))))))) jp) (jd (jA 2 eW.nd (jv jr (jF (ja jf (ja jf (ja jf (ja jf jb))))) (M.e y.m (ja (pv 0) (ja jf jb))) (λ_ _=>Z))) (jd (jA 1 eW.nd (cZ.e y.m (ja (pv 0) (ja (ju jX jf (M.e y.m (ja (pv 0) (ja (pv 2) jb)))) (ja jf jb))))) (jd (zf (jv j5 (pv 1) (M.e y.m (ja (pv 0) (ja (jP jK Z ml Hi (ja (pv 1) jb)) jb))) (λ_ _=>Z)) (ze (n:=3) Z (jz (jw (i:=3) eW.nd Z (Or.inl Z)) (jz (jw (i:=4) eW.nd Z (Or.inl Z)) (jz (jw (i:=5) eW.nd Z (Or.inl Z)) j6))))) (jg (jo (jh (ja (pv 1) (ja (pv 3) (ja (jE jH Z m0 Ig (ja (@zG _ _ _ _ _ _ _ (["_law_one","_law_box_here"]) (1) ([0]) _ _ _ _ Z (zT (pv 4)) oK (λ_ _ _ _ _=>(jw (i:=0) pJ Z (Or.inl Z))) (λ_ _ _ _ _=>(@zU _)) (λ_ _ _ _ _=>(cN.e y.m (ja (pv 1) jb))) (by intro _;rfl)) jb)) jb)))))))))),?_]
 have b0:=aN
 refine aj λF1 a=>nk λG1 g1=>#[_,Z,p,3,Z,B,MO,MO,λd1 H1 a0 a1 B1 e1=>#[_,_,Z,Z,_,Z,g1 _ _ ?_]]
 clear g1
 have k1:au p H H1:=au.of_eq e1
 refine bV (λc=>?_) (λc=>a _ _ ?_)
 ·clear a
  refine aj λF2 f2=>#[_,Z,p,Z,B1,λr ds xs H2 N C hl ns D b O B2 k2=>f2 _ _ ?_]
  clear f2
  have ln:=C.len
  obtain⟨nr,rfl⟩:=O
  cases ds with
  |nil=>cases hl
  |cons d r0=>
  obtain⟨p0,R,S,_⟩:=b.2 0 d 1 Z Z
  have h0:=C
  obtain⟨u0,rr,rfl,⟨bs,rfl,hp,_⟩,_⟩:=h0
  have g:dF (V.ref d.p::rr) 0=some (.ref d.p):=gE
  refine#[_,Z,jq N g #[d.p,_,_,_,Z,Z,aA.of hp,gE,_,Z,p,6,Z,B2,MO,MO,λd3 H3 d0 d4 B3 e3=>?_]]
  have c3:au p H2 H3:=au.of_eq e3
  refine#[lO,λu nu=>#[gm,λt U=>?_]]
  have s4:ae H3 (af (af H3 u (.tup [.int d3])) t (.tup [.ref r,.str d.f,.ref u])):=(je nu).trans (je U)
  have T:=(c3.tm B2).trans (ae.tm s4)
  exact q t r _ _ _ _ _ jc (T _ _ N) (C.mono T) MP MP _ D (b.mono T) #[d,p0,u,[d3],FX,Z,T _ _ R,Z,ao jc U,by rw[S];rfl,(by show 1<=100;decide),λi hi=>by rw[List.mem_singleton.mp hi];omega] (B3.same s4) ((k1.trans k2).trans (c3.trans (au.of_same s4)))
 clear a
 refine aj λF1 a=>#[tE,λl W=>#[_,Z,p,4,Z,B1.upd_new W,MO,MO,λd2 H2 d6 d7 B2 e2=>?_]]
 have k2:au p H1 H2:=((au.refl).upd_new W).trans (au.of_eq e2)
 obtain⟨m,g,m3,m8⟩:=Bl d6 d7
 refine#[l,_,_,_,Z,Z,aP.of (by rw[e2 l (B1.ne W)];exact jc),g,a _ _ ?_]
 clear a
 refine aj λF1 a=>#[_,Z,_,Z,_,Z,p,m,Z,B2,MP,MP,λd3 H3 d0 d4 B3 e3=>#[_,_,Z,Z,p,1+d3,12,Z,B3,MP,MP,MO,MO,λr ds xs H4 G C hl ns D b B4 k4=>a _ _ ?_]]
 clear a
 have ln:=C.len
 have K4:au p H H4:=(k1.trans k2).trans ((au.of_eq e3).trans k4)
 refine aj λF1 a=>#[_,Z,_,Z,_,Z,r,_,Z,.inr (aA.of G),p,_,Z,B4,MP,MP,λd5 H5 d8 d' B5 e5=>?_]
 have c5:au p H4 H5:=au.of_eq e5
 have o:=c5.tm B4
 obtain⟨d,g,hd,bs,e,hp,_⟩:=yx (C.mono o) d8 d'
 refine#[r,_,_,_,Z,Z,aA.of (o _ _ G),g,d.p,_,Z,aA.of hp,Z,_,_,Z,_,_,Z,_,_,Z,Z,a _ _ ?_]
 clear a
 obtain⟨pv,X,h4⟩:=b.v d hd
 have z:=o _ _ X
 refine#[_,Z,_,Z,_,Z,d.pa,Z,#[_,aA.of z],?_]
 refine qw (K:=K) (xs:=pv.map V.str) (by rw[Fy];omega) (λi L J=>(∃I:List Int,L=I.map V.int/\I.length=i/\∀j∈I,0<=j/\j < 1000000000000000000)/\aq J p/\au p H5 J) #[#[[],Z,Z,(λ_ h=>nomatch h)],B5,au.refl] (λi L J k=>?_) (λi x L J hx k=>?_) (λL J k l W=>?_)
 ·exact#[aA.of (k.2.2.tm B5 _ _ z),let #[I,e,l,_]:=k.1;by rw[e,Fy,l];exact Fz _]
 ·exact#[_,Z,p,Z,k.2.1,λe H7 e0 e1 B7 e7=>#[let #[I,h1,l,h2]:=k.1;#[I++[e],by rw[h1,Gm];rfl,by rw[FD,l];rfl,q8 h2 #[e0,e1]],B7,k.2.2.trans (au.of_eq e7)]]
 ·refine#[l,_,Z,.inl #[aP.of jc,λl2 n0=>#[gm,λt U=>?_]]]
  have s7:ae J (af (af (af J l (.lst L)) l2 (.tup L)) t (.tup [.ref r,.str d.f,.ref l2])):=((je W).trans (je n0)).trans (je U)
  have T:=o.trans ((k.2.2.tm B5).trans (ae.tm s7))
  obtain⟨I,hz,Y,h3⟩:=k.1
  rw[Fy]at Y
  exact q t r _ _ ds xs _ jc (T _ _ G) (C.mono T) MP MP ns D (b.mono T) #[d,pv,l2,I,hd,Z,T _ _ X,Z,by rw[<- hz];exact ao jc U,Y,MP,h3] (k.2.1.same s7) (K4.trans (c5.trans (k.2.2.trans (au.of_same s7))))
noncomputable abbrev iS:Stmt:=bQ 12
noncomputable abbrev iY:Stmt:=bQ 13
abbrev aL:=List (bE×V)
def eQ(x:Int):Prop:=0<=x/\x < 1000000000000000000
def GT(k:aL):Prop:=∀p∈k,∃i,p.2= .int i/\eQ i
theorem GT.nil:GT []:=λ_ h=>absurd h Gh
theorem GT.put(h:GT a)(k:bE)(H:eQ i):GT (aM a k (.int i)):=by
 intro p hp
 unfold aM at hp
 split at hp
 ·obtain⟨q,b,rfl⟩:=List.mem_map.mp hp
  by_cases e:q.1=k
  ·rw[FQ e];exact#[i,Z,H]
  ·rw[FV e];exact h q b
 ·rcases List.mem_append.mp hp with hp |hp
  ·exact h p hp
  ·rw[List.mem_singleton.mp hp];exact#[i,Z,H]
theorem GT.val(h:GT a)(e:bh a k=some v):∃i,v= .int i/\eQ i:=by
 unfold bh at e
 obtain⟨p,H,rfl⟩:=Option.map_eq_some_iff.mp e
 exact h p (My H)
noncomputable def look(a:aL)(k:bE)(z:Int):Int:=match bh a k with
 |some (.int i)=>i
 |_=>z
theorem Kq(h:GT a)(k:bE)(z:Int):(bh a k).getD (.int z)= .int (look a k z):=by
 unfold look
 cases e:bh a k with
 |none=>rfl
 |some v=>obtain⟨i,rfl,_⟩:=h.val e;rfl
theorem ZY(h:GT a)(e:bh a k=some v)(z:Int):v= .int (look a k z):=by
 unfold look
 obtain⟨i,rfl,_⟩:=h.val e
 rw[e]
theorem Jv(e:bh a k=none)(z:Int):look a k z=z:=by
 unfold look
 rw[e]
theorem qv(h:GT a)(H:eQ z):eQ (look a k z):=by
 unfold look
 cases e:bh a k with
 |none=>exact H
 |some v=>obtain⟨i,rfl,b⟩:=h.val e;exact b
theorem qW:eQ 0:=#[MO,MO]
noncomputable def jn(i:Nat)(x y:Int):Int:=match i with
 |0=>(x+y) % 1000000000000000000
 |1=>(x - y) % 1000000000000000000
 |2=>x*y % 1000000000000000000
 |3=>if y=0 then 0 else x / y
 |4=>if x < y then 1 else 0
 |_=>if x=y then 1 else 0
noncomputable def Tm.ev(k:aL):Tm->Int
 | .num n=>n
 | .var x=>look k (.inr x) 0
 | .op i a b=>jn i (a.ev k) (b.ev k)
theorem Cu(H:eQ x)(c:eQ y):eQ (jn i x y):=by
 have a:(1000000000000000000:Int)≠0:=by decide
 have b:(0:Int) < 1000000000000000000:=by decide
 match i with
 |0=>exact#[GV _ a,Gx _ b]
 |1=>exact#[GV _ a,Gx _ b]
 |2=>exact#[GV _ a,Gx _ b]
 |3=>
  show eQ (if y=0 then 0 else x / y)
  by_cases h:y=0
  ·rw[FQ h];exact#[MO,MO]
  ·rw[FV h]
   have e:=c.1
   have d:0 < y:=by omega
   refine#[Int.ediv_nonneg H.1 MP,Int.lt_of_le_of_lt ?_ H.2]
   exact Int.ediv_le_self _ H.1
 |4=>
  show eQ (if x < y then 1 else 0)
  split<;>exact#[MO,MO]
 |n+5=>
  show eQ (if x=y then 1 else 0)
  split<;>exact#[MO,MO]
theorem qy(g:GT k):∀{t:Tm},t.Good y->eQ (t.ev k)
 | .num _,h=>h
 | .var x,_=>qv g qW
 | .op _ _ _,h=>Cu (qy g h.2.1) (qy g h.2.2)
def i9:Sp:=λv H Q _=>∃(i:Nat) (x y:Int),v=[.str (Eo i),.int x,.int y]/\i < 6/\eQ x/\eQ y/\Q (.int (jn i x y)) H
def EN(K:Frag)(H:Hp)(T:Tm)(a:Addr):Prop:=bj H T a∨(T= .num 0/\aA K H a [.str "num",.int 0])
def c7(K:Frag)(n:Nat):Sp:=λv H Q _=>∃(a d:Addr) (T:Tm) (y:List Str) (k:aL),v=[.ref a,.ref d]/\EN K H T a/\T.depth < n/\T.Good y/\H d=some (.dK k)/\GT k/\Q (.int (T.ev k)) H
theorem sr:al ["sign","left","right"] ["sign","left","right"] (aa iS):=bP
theorem ZZ(F:aU K "joined" "joined" iS f b)(m:mg "TOP"=some (.int 1000000000000000000 t)):ah P w K mg base aE 1 f b ["sign","left","right"] i9:=by
 refine F.ok sr (λd H Q E h=>?_) (λe A o s H d Q E r h=>?_)
 ·obtain⟨i,x,y,rfl,_⟩:=h
  rfl
 obtain⟨i,x,y,rfl,u,g,j,q⟩:=h
 refine#[_,(jd (jx (jZ (pv 0)) (jg (jo (ju kW (ju jX (pv 1) (pv 2)) (qR (v:=.int 1000000000000000000) Z m #[_,Z])))) jp) (jd (jx (jZ (pv 0)) (jg (jo (ju kW (ju kL (pv 1) (pv 2)) (qR (v:=.int 1000000000000000000) Z m #[_,Z])))) jp) (jd (jx (jZ (pv 0)) (jg (jo (ju kW (ju zn (pv 1) (pv 2)) (qR (v:=.int 1000000000000000000) Z m #[_,Z])))) jp) (jd (jx (jZ (pv 0)) (jg (jo (zb (za (pv 2)) jf (ju Km (pv 1) (pv 2))))) jp) (jd (jx (jZ (pv 0)) (jg (jo (zb (jB Qb (pv 1) (pv 2) (aK _)) jf jf))) jp) (jg (jo (zb (jB qO (pv 1) (pv 2) (aK _)) jf jf)))))))),?_]
 obtain⟨k,l⟩:=g
 obtain⟨n,p⟩:=j
 rcases(by omega:i=0∨i=1∨i=2∨i=3∨i=4∨i=5) with rfl |rfl |rfl |rfl |rfl |rfl
 ·refine#[_,Z,Z,_,Z,cq MS ?_]
  exact#[_,Z,_,Z,_,_,Z,Z,_,_,Z,Z,(by show(0:Int) < 1000000000000000000;decide),q]
 ·refine#[_,Z,Z,_,Z,aO MS ?_]
  refine#[_,Z,Z,_,Z,cq MS ?_]
  exact#[_,Z,_,Z,_,_,Z,Z,_,_,Z,Z,(by show(0:Int) < 1000000000000000000;decide),q]
 ·refine#[_,Z,Z,_,Z,aO MS ?_]
  refine#[_,Z,Z,_,Z,aO MS ?_]
  refine#[_,Z,Z,_,Z,cq MS ?_]
  exact#[_,Z,_,Z,_,_,Z,Z,.inl #[MP,MP],_,_,Z,Z,(by show(0:Int) < 1000000000000000000;decide),q]
 ·refine#[_,Z,Z,_,Z,aO MS ?_]
  refine#[_,Z,Z,_,Z,aO MS ?_]
  refine#[_,Z,Z,_,Z,aO MS ?_]
  refine#[_,Z,Z,_,Z,cq MS ?_]
  have a:Q (.int (if y=0 then 0 else x / y)) H:=q
  refine#[_,Z,Z,_,Z,?_]
  refine bV (λc=>?_) (λc=>?_)
  ·have C:V.int y=V.int 0:=GN c
   injection C with C
   rw[FQ C]at a
   exact a
  ·have C:y≠0:=λz=>c (by rw[z];rfl)
   rw[FV C]at a
   exact#[_,Z,_,Z,_,_,Z,Z,#[MP,MP],a]
 ·refine#[_,Z,Z,_,Z,aO MS ?_]
  refine#[_,Z,Z,_,Z,aO MS ?_]
  refine#[_,Z,Z,_,Z,aO MS ?_]
  refine#[_,Z,Z,_,Z,aO MS ?_]
  refine#[_,Z,Z,_,Z,cq MS ?_]
  have a:Q (.int (if x < y then 1 else 0)) H:=q
  refine#[_,Z,_,Z,_,_,Z,Z,_,Z,?_]
  refine bV (λc=>?_) (λc=>?_)
  ·rw[FQ (GN c)]at a
   exact a
  ·rw[FV (I8 (Bool.eq_false_iff.mpr c))]at a
   exact a
 ·refine#[_,Z,Z,_,Z,aO MS ?_]
  refine#[_,Z,Z,_,Z,aO MS ?_]
  refine#[_,Z,Z,_,Z,aO MS ?_]
  refine#[_,Z,Z,_,Z,aO MS ?_]
  refine#[_,Z,Z,_,Z,aO MS ?_]
  have a:Q (.int (if x=y then 1 else 0)) H:=q
  refine#[_,Z,_,Z,Z,_,Z,?_]
  refine bV (λc=>?_) (λc=>?_)
  ·have C:V.int x=V.int y:=GN c
   injection C with C
   rw[FQ C]at a
   exact a
  ·have C:x≠y:=λz=>c (by rw[z];exact Gn Z)
   rw[FV C]at a
   exact a
theorem wF:al ["term","held"] ["term","held"] (aa iY):=bP
theorem p8(F:aU K "worth" "worth" iY f p)(C:Cl P w K mg base (n+1) f p ["term","held"] (c7 K n) "worth")(v:Cl P w K mg base 1 R B ["sign","left","right"] i9 "joined"):ah P w K mg base aE (n+2) f p ["term","held"] (c7 K (n+1)):=by
 refine F.ok wF (λV H Q E h=>?_) (λD A o s H V Q E j h=>?_)
 ·obtain⟨a,d,T,y,c,rfl,_⟩:=h
  rfl
 obtain⟨a,d,T,y,c,rfl,t,I,g,l,G,q⟩:=h
 refine#[_,(jd (jx (jZ (jy (pv 0))) (jg (jo (jy (pv 0)))) jp) (jd (jx (jZ (jy (pv 0))) (jg (jo (@qm _ _ _ _ _ _ _ _ _ (kU j) (pv 1) (jy (pv 0)) jf #[MT,MT,MT,MT]))) jp) (jg (jo (v.e j.m (ja (jy (pv 0)) (ja (C.e j (ja (jy (pv 0)) (ja (pv 1) jb))) (ja (C.e j (ja (jy (pv 0)) (ja (pv 1) jb))) jb)))))))),?_]
 cases T with
 |num m=>
  have b:aA K H a [.str "num",.int m]:=t.elim (λh=>aA.of h) λz=>by cases z.1;exact z.2
  refine#[_,Z,a,_,_,_,Z,Z,b,Z,Z,_,Z,cq MS ?_]
  exact#[_,Z,a,_,_,_,Z,Z,b,Z,q]
 |var x=>
  have b:H a=some (.tup [.str "var",.str x]):=t.resolve_right λz=>by cases z.1
  refine(jq b Z #[Z,_,Z,aO MS ?_])
  refine(jq b Z #[Z,_,Z,cq MS ?_])
  refine#[_,Z,d,Z,.inl #[c,.inl l],jq b Z #[_,dD.k (k:=Sum.inr x) l,?_]]
  rw[Kq G]
  exact q
 |op i r u=>
  obtain⟨J,L,b,M,N⟩:=t.resolve_right λz=>by cases z.1
  have O:max r.depth u.depth+1 < n+1:=I
  refine(jq b Z #[Z,_,Z,aO MS ?_])
  refine(jq b Z #[Z,_,Z,aO MS ?_])
  refine(jq b Z ?_)
  refine(jq b Z #[_,Z,J,d,r,y,c,Z,.inl M,MP,g.2.1,l,G,?_])
  refine(jq b Z #[_,Z,L,d,u,y,c,Z,.inl N,MP,g.2.2,l,G,?_])
  exact#[i,_,_,Z,g.1,qy G g.2.1,qy G g.2.2,q]
theorem pN:ah P w K mg base aE 1 f e ["term","held"] (c7 K 0):=by
 have n:∀v H Q E,¬c7 K 0 v H Q E:=λv H Q E h=>by
  obtain⟨a,d,T,y,k,_,_,c,_⟩:=h
  exact absurd c (IY _)
 exact#[λv H Q E h=>absurd h (n v H Q E),λA o s H b u v Q E _ _ _ _ h=>absurd h (n v H Q E)]
theorem t6(F:aU K "worth" "worth" iY f a)(b:ay K a ["term","held"] [])(m:mg "worth"=some (.ref f))(c:Cl P w K mg base 1 e d ["sign","left","right"] i9 "joined"):
  ∀n:Nat,ah P w K mg base aE (n+1) f a ["term","held"] (c7 K n)
 |0=>pN
 |n+1=>p8 F #[(t6 F b m c n),b,F.kp,m] c
def TV(H:Hp)(y:List Str)(t:Addr)(T:Tm):Prop:=bj H T t/\di y T
theorem TV.mono(k:ai H a)(h:TV H y t T):TV a y t T:=#[h.1.mono k,h.2]
inductive Gl where
 |give (t:Addr) (T:Tm) |nought |go (n:Nat)
structure WD where
 sets:List (Str×Addr×Tm)
 goal:Gl
noncomputable def Gl.gol(N:Addr):Gl->Dw
 | .give t _=>.give t
 | .nought=>.give N
 | .go n=>.go (n:Int)
noncomputable def WD.wy(n:Addr)(w:WD):Wy:=#[w.sets.map λs=>(s.1,s.2.1),w.goal.gol n]
def BG(H:Hp)(y:List Str)(m:Nat):Gl->Prop
 | .give t T=>TV H y t T
 | .nought=>True
 | .go n=>n < m
structure ug(H:Hp)(ys:List Str)(m N:Nat)(w:WD):Prop where
 sets:∀s∈w.sets,TV H ys s.2.1 s.2.2
 len:w.sets.length<=N
 goal:BG H ys m w.goal
def lF(H:Hp)(y:List Str)(n:Addr)(m N:Nat)(w:Wy):Prop:=∃d:WD,d.wy n=w/\ug H y m N d
def EF(F:gU)(H:Hp)(y:List Str):Dd->Prop
 | .st p=>∃(l:Lf) (v:List V),H p=some (.tup v)/\uy H l v/\l.Ok y/\l.isCut=true/\l.Cs F
 | .ask t=>∃T,TV H y t T
noncomputable def Dd.ways:Dd->Nat
 | .st _=>1
 | .ask _=>2
structure um(F:gU)(H:Hp)(ys:List Str)(nA:Addr)(m N:Nat)(c:Ct):Prop where
 mem:∀x,c.M x->x∈ys
 deed:EF F H ys c.d
 ways:∀w∈c.ws,lF H ys nA m N w
 len:c.ws.length=c.d.ways
structure ue(H:Hp)(ys:List Str)(nA:Addr)(m N:Nat)(pc:Pc):Prop where
 mem:∀x,pc.M x->x∈ys
 way:lF H ys nA m N pc.w
section
variable {F:gU}{H H':Hp}{ys:List Str}{nA:Addr}{m N N':Nat}
theorem BG.mono(k:ai H H')(h:BG H ys m g):BG H' ys m g:=by
 cases g with
 |give t T=>exact TV.mono k h
 |nought=>trivial
 |go n=>exact h
theorem ug.mono(k:ai H H'){w:WD}(h:ug H ys m N w):ug H' ys m N w:=#[λs a=>(h.sets s a).mono k,h.len,h.goal.mono k]
theorem lF.up(a:N<=N'){w:Wy}(h:lF H ys nA m N w):lF H ys nA m N' w:=let #[d,e,v]:=h;#[d,e,v.sets,FL v.len a,v.goal]
theorem um.up(a:N<=N')(h:um F H ys nA m N c):um F H ys nA m N' c:=#[h.mem,h.deed,λw b=>(h.ways w b).up a,h.len]
theorem ue.up(a:N<=N')(h:ue H ys nA m N p):ue H ys nA m N' p:=#[h.mem,h.way.up a]
theorem XY{n:Nat}(a:k=(n:Int))(b:n < m):lF H ys nA m N #[[],.go k]:=#[#[[],.go n],by rw[a];rfl,(λ_ h=>absurd h Gh),FN _,b]
theorem Kc:∀(b:Bd) {X:List V} {g:Pc} {fs:List Ct} {N:Nat},dw H b X->b.Ok ys->b.Cs F->ue H ys nA m N g->(∀c∈fs,um F H ys nA m N c)->fs.length+b.cuts<=m->
  ue H ys nA m (N+b.size) (pB (m:Int) b g fs).1/\∀c∈(pB (m:Int) b g fs).2,um F H ys nA m (N+b.size) c
 | .nil,_,_,_,_,_,_,_,o,y,_=>#[o,y]
 | .lf p l r,X,g,fs,N,C,i,k,o,y,D=>by
  obtain⟨vs,zs,_,h1,I,h3⟩:=C
  have E:fs.length+(l.cut+r.cuts)<=m:=D
  obtain⟨R,A⟩:=Kc r h3 i.2 k.2 o y MP
  have hl:=kc (m:Int) r g fs
  have S:N+r.size<=N+(r.size+1):=by omega
  have j:=Lf.use_in i.1 R.mem
  have J:l.isCut=true->l.cut=1->ue H ys nA m (N+(r.size+1)) #[l.use (pB (m:Int) r g fs).1.M,#[[],.go ((m:Int) - ((pB (m:Int) r g fs).2.length:Int) - 1)]]/\∀c∈(pB (m:Int) r g fs).2++[#[l.use (pB (m:Int) r g fs).1.M,.st p,[(pB (m:Int) r g fs).1.w]]],um F H ys nA m (N+(r.size+1)) c:=λG h0=>
   #[#[j,XY (n:=m - (fs.length+r.cuts) - 1) (by rw[hl];omega) MP],λc L=>by
    rcases List.mem_append.mp L with z |z
    ·exact(A c z).up S
    ·rw[List.mem_singleton.mp z]
     exact#[j,#[l,vs,h1,I,i.1,G,k.1],λw hw=>by rw[List.mem_singleton.mp hw];exact R.way.up S,Z]]
  show ue H ys nA m (N+(r.size+1)) (pL (m:Int) p l (pB (m:Int) r g fs)).1/\∀c∈(pL (m:Int) p l (pB (m:Int) r g fs)).2,um F H ys nA m (N+(r.size+1)) c
  cases l with
  |gv t T=>exact#[#[j,#[#[[],.give t T],Z,(λ_ h=>absurd h Gh),FN _,I.2,i.1]],λc G=>(A c G).up S]
  |st x t T=>
   refine#[#[j,?_],λc G=>(A c G).up S]
   show lF H ys nA m _ (hV x t (pB (m:Int) r g fs).1)
   unfold hV
   split
   ·obtain⟨d,e,v⟩:=R.way
    refine#[#[(x,t,T)::d.sets,d.goal],by rw[<- e];rfl,λs hs=>?_,Ho v.len,v.goal]
    rcases List.mem_cons.mp hs with rfl |hs
    ·exact#[I.2,i.1.2]
    ·exact v.sets s hs
   ·exact R.way.up S
  |rd x t T |wr t u T U |cl x f q ts=>exact J Z Z
 | .ite p t T a c r,X,g,fs,N,C,i,k,o,y,D=>by
  obtain⟨qa,qb,as,bs,zs,_,g1,O,g2,g3,Q,g5,W⟩:=C
  have E:fs.length+(1+a.cuts+c.cuts+r.cuts)<=m:=D
  obtain⟨R,A⟩:=Kc r W i.2.2.2 k.2.2 o y MP
  have B:=kc (m:Int) r g fs
  obtain⟨c1,c2⟩:=Kc c g5 i.2.2.1 k.2.1 R A MP
  have h4:=kc (m:Int) c (pB (m:Int) r g fs).1 (pB (m:Int) r g fs).2
  obtain⟨Y,a2⟩:=Kc a Q i.2.1 k.1 (R.up (Iw _ _)) c2 MP
  have S:N+r.size+c.size+a.size<=N+(a.size+c.size+r.size+1):=by omega
  have j:∀x,(Bd.ite p t T a c .nil).use (pB (m:Int) r g fs).1.M x->x∈ys:=Bd.use_in #[i.1,i.2.1,i.2.2.1,Gg] R.mem
  have hk:(m:Int) - ((pB (m:Int) r g fs).2.length:Int) - ((Bd.ite p t T a c .nil).cuts:Int)=((m - (fs.length+r.cuts) - (1+a.cuts+c.cuts):Nat):Int):=by
   show(m:Int) - _ - ((1+a.cuts+c.cuts+0:Nat):Int)=_
   rw[B]
   omega
  unfold pB
  dsimp only
  refine#[#[j,XY hk MP],λe he=>?_]
  rcases List.mem_append.mp he with z |z
  ·exact(a2 e z).up S
  ·rw[List.mem_singleton.mp z]
   refine#[j,#[T,O,i.1],λw hw=>?_,Z]
   rcases List.mem_cons.mp hw with rfl |hw
   ·exact Y.way.up S
   ·rw[List.mem_singleton.mp hw]
    exact c1.way.up (by show _<=N+(a.size+c.size+r.size+1);omega)
 | .loop p t T a r,X,g,fs,N,C,i,k,o,y,D=>by
  obtain⟨qa,as,zs,_,g1,O,g2,Q,W⟩:=C
  have E:fs.length+(1+a.cuts+r.cuts)<=m:=D
  obtain⟨R,A⟩:=Kc r W i.2.2 k.2 o y MP
  have B:=kc (m:Int) r g fs
  have j:∀x,(Bd.loop p t T a .nil).use (pB (m:Int) r g fs).1.M x->x∈ys:=Bd.use_in #[i.1,i.2.1,Gg] R.mem
  have hk:(m:Int) - ((pB (m:Int) r g fs).2.length:Int) - ((Bd.loop p t T a .nil).cuts:Int)=((m - (fs.length+r.cuts) - (1+a.cuts):Nat):Int):=by
   show(m:Int) - _ - ((1+a.cuts+0:Nat):Int)=_
   rw[B]
   omega
  have pl:ue H ys nA m (N+r.size) #[(Bd.loop p t T a .nil).use (pB (m:Int) r g fs).1.M,#[[],.go ((m:Int) - ((pB (m:Int) r g fs).2.length:Int) - ((Bd.loop p t T a .nil).cuts:Int))]]:=#[j,XY hk MP]
  obtain⟨Y,a2⟩:=Kc a Q i.2.1 k.1 pl A MP
  have S:N+r.size+a.size<=N+(a.size+r.size+1):=by omega
  unfold pB
  dsimp only
  refine#[pl.up (by show _<=N+(a.size+r.size+1);omega),λe he=>?_]
  rcases List.mem_append.mp he with z |z
  ·exact(a2 e z).up S
  ·rw[List.mem_singleton.mp z]
   refine#[j,#[T,O,i.1],λw hw=>?_,Z]
   rcases List.mem_cons.mp hw with rfl |hw
   ·exact Y.way.up S
   ·rw[List.mem_singleton.mp hw]
    exact R.way.up (by show _<=N+(a.size+r.size+1);omega)
end
noncomputable def bG(n:Addr)(d:Df):List Ct:=(gG n d).2.reverse
theorem Y8(n:Addr)(d:Df):(bG n d).length=d.b.cuts:=by
 unfold bG
 rw[List.length_reverse]
 exact(kc _ _ _ _).trans (Nat.zero_add _)
theorem xR{nA:Addr}{d:Df}(f:dw H d.b B)(g:d.b.Ok y):ue H y nA d.b.cuts d.b.size (gG nA d).1/\∀c∈bG nA d,um d.b.calls H y nA d.b.cuts d.b.size c:=by
 have p:ue H y nA d.b.cuts 0 (Ec nA):=#[λx i=>absurd i Gh,#[[],.nought],Z,(λ_ h=>absurd h Gh),Fz _,Gg]
 obtain⟨a,e⟩:=Kc (m:=d.b.cuts) d.b f g (zA d.b) p (fs:=[]) (λ_ h=>absurd h Gh) (by show 0+_<=_;omega)
 rw[Nat.zero_add]at a e
 exact#[a,λc j=>e c (List.mem_reverse.mp j)]
theorem QB{M:Str->Prop}{y:List Str}(h:∀x,M x->x∈y):(canon M).length<=y.length:=by
 by_cases e:∃s,Nm s M
 ·obtain⟨s,H⟩:=e
  rw[<- H.canon]
  exact H.len h
 ·unfold canon
  rw[dif_neg e]
  exact FN _
noncomputable def cp:List (Str×Addr×Tm)->aL->aL
 | [],k=>k
 |s::r,k=>cp r (aM k (.inr s.1) (.int (s.2.2.ev k)))
noncomputable def dH(N:Addr)(d:Df)(n:Nat):List Str:=match (bG N d)[n]? with
 |some c=>canon c.M
 |none=>[]
noncomputable def pG(N:Nat->List Str)(k:aL):Gl->Tr
 | .give _ T=>aQ [a9 "give",aB (T.ev k)]
 | .nought=>aQ [a9 "give",aB 0]
 | .go n=>aQ [a9 "go",aB (n:Int),aQ ((N n).map λx=>aB (look k (.inr x) 0))]
theorem zV{H:Hp}{ys:List Str}:∀{ss:List (Str×Addr×Tm)} {k:aL},(∀s∈ss,TV H ys s.2.1 s.2.2)->GT k->GT (cp ss k)
 | [],_,_,g=>g
 |s::r,k,h,g=>zV (H:=H) (ys:=ys) (ss:=r) (λS a=>h S (Ge _ a)) (g.put _ (qy g (h s FX).2.1))
theorem Z0{S:List (Str×Addr×Tm)}:∀{i:Nat} {s:Str×Addr×Tm} {k:aL},S[i]?=some s->cp (S.take (i+1)) k=aM (cp (S.take i) k) (.inr s.1) (.int (s.2.2.ev (cp (S.take i) k))):=by
 induction S with
 |nil=>intro i s k h;simp at h
 |cons a r I=>
  intro i s k h
  cases i with
  |zero=>
   cases h
   rfl
  |succ i=>exact I (by simpa using h)
theorem zC{kvs:aL}{k:bE}{v:V}:(aM kvs k v).length<=kvs.length+1:=by
 unfold aM
 split
 ·rw[Fy];exact Hs _
 ·rw[FD];exact Fz _
theorem Xp:∀{ss:List (Str×Addr×Tm)} {k:aL},(cp ss k).length<=k.length+ss.length
 | [],_=>Fz _
 |s::r,k=>by
  have h:=Xp (ss:=r) (k:=aM k (.inr s.1) (.int (s.2.2.ev k)))
  have H:=zC (kvs:=k) (k:=.inr s.1) (v:=.int (s.2.2.ev k))
  show(cp r _).length<=k.length+(r.length+1)
  omega
noncomputable def aR(n:List Str)(i:List Int):aL:=db [] ((n.map Sum.inr).zip (i.map V.int))
theorem Xq:∀{m:aL} {k:aL},GT k->GT m->GT (db k m)
 | [],_,g,_=>g
 |p::r,k,g,h=>by
  obtain⟨i,e,H⟩:=h p FX
  have E:aM k p.1 p.2=aM k p.1 (.int i):=by rw[e]
  show GT (db (aM k p.1 p.2) r)
  rw[E]
  exact Xq (g.put _ H) λq a=>h q (Ge _ a)
theorem qk(h:∀i∈I,eQ i):GT (aR n I):=by
 refine Xq GT.nil λp H=>?_
 obtain⟨i,a,e⟩:=List.mem_map.mp (Lx H).2
 exact#[i,e.symm,h i a]
theorem Y9{ns:List Str}{is:List Int}:(aR ns is).length<=ns.length:=by
 have h:=qC ((ns.map Sum.inr).zip (is.map V.int)) []
 rw[Mn,Fy]at h
 show(db [] _).length<=_
 have H:(db [] ((ns.map Sum.inr).zip (is.map V.int))).length<=0+min ns.length (is.map V.int).length:=h
 omega
noncomputable abbrev mv:Stmt:=bQ 23
noncomputable abbrev iR:Stmt:=bQ 24
noncomputable abbrev gX:Stmt:=bQ 28
noncomputable abbrev iQ:Stmt:=bQ 29
noncomputable abbrev gW:Stmt:=bQ 30
noncomputable abbrev iV:Stmt:=bQ 31
structure lv(H:Hp)(nA:Addr)(d:Df)(ys:List Str)(v:V):Prop where
 tr:aS H (eM nA d) v []
 bd:∃bs,dw H d.b bs
 ok:d.b.Ok ys
 y20:ys.length<=20
 sz:d.b.size<=3000
structure BE(H:Hp)(nA:Addr)(d:Df)(ys:List Str)(c:Ct)(ka na wa:Addr)(dv:V)(wvs:List V):Prop where
 at':H ka=some (.tup [.ref na,dv,.ref wa])
 nms:H na=some (.tup ((canon c.M).map V.str))
 deed:aS H (DH c.d) dv []
 wat:H wa=some (.tup wvs)
 ways:aS H (aJ (c.ws.map gI)) .non wvs
 v:um d.b.calls H ys nA d.b.cuts d.b.size c
theorem Za:∀{S:List Str} {v:List V},aS H (aJ (S.map a9)) .non v->v=S.map V.str
 | [],v,h=>h
 |s::S,v,h=>by
  obtain⟨_,_,y,Y,rfl,⟨rfl,_⟩,a⟩:=h
  rw[Za a]
  rfl
section
variable {H H':Hp}{nA:Addr}{d:Df}{ys:List Str}{v:V}
theorem lv.mono(k:ai H H')(h:lv H nA d ys v):lv H' nA d ys v:=#[h.tr.mono k,let #[b,a]:=h.bd;#[b,a.mono k],h.ok,h.y20,h.sz]
theorem lv.parts(h:lv H nA d ys v):∃(a c:Addr) (W:V) (C:List V),v= .ref a/\H a=some (.tup [.str d.f,.ref d.pa,W,.ref c])/\aS H (gI (gG nA d).1.w) W []/\H c=some (.tup C)/\aS H (aJ ((bG nA d).map BW)) .non C:=by
 obtain⟨_,a,x,rfl,i,_,_,n,Y,rfl,⟨rfl,_⟩,_,_,o,j,rfl,⟨rfl,_⟩,_,_,W,k,rfl,l,_,_,p,y,rfl,m,e⟩:=h.tr
 have e:y=[]:=e
 subst e
 obtain⟨_,c,C,rfl,b,g⟩:=m
 exact#[a,c,W,C,Z,i,l,b,g]
theorem lv.cut{C:List V}(h:lv H nA d ys v)(a:aS H (aJ ((bG nA d).map BW)) .non C){n:Nat}{c:Ct}(g:(bG nA d)[n]?=some c):∃k N i D W,C[n]?=some (.ref k)/\BE H nA d ys c k N i D W:=by
 have L:=kY a
 rw[Fy]at L
 have u:n < C.length:=by rw[L];exact(List.getElem?_eq_some_iff.mp g).1
 have j:C[n]?=some C[n]:=Fu u
 obtain⟨T,b,t⟩:=qJ a n _ j
 rw[FT,g]at b
 cases b
 obtain⟨B,y⟩:=h.bd
 have z:=(xR (nA:=nA) y h.ok).2 c (F' g)
 generalize C[n]=x at j t
 obtain⟨_,k,E,rfl,l,_,_,F,G,rfl,m,_,_,D,I,rfl,o,_,_,J,A,rfl,p,e⟩:=t
 have e:A=[]:=e
 subst e
 obtain⟨_,N,M,rfl,f,q⟩:=m
 obtain⟨_,i,W,rfl,r,s⟩:=p
 rw[Za q]at f
 exact#[k,N,i,D,W,j,l,f,o,r,s,z]
theorem lv.way(h:lv H nA d ys v):lF H ys nA d.b.cuts d.b.size (gG nA d).1.w:=let #[B,a]:=h.bd;(xR (nA:=nA) a h.ok).1.way
theorem pK(h:(bG nA d)[n]?=some c):dH nA d n=canon c.M:=by
 unfold dH
 rw[h]
end
structure DY(H:Hp)(nA:Addr)(w:WD)(wa sa ga:Addr)(ss:List V)(wd:Str)(u:V):Prop where
 at':H wa=some (.tup [.ref sa,.ref ga])
 sat:H sa=some (.tup ss)
 sets:∀(i:Nat) (x:V),ss[i]?=some x->∃(s:Str×Addr×Tm) (p:Addr),w.sets[i]?=some s/\x= .ref p/\H p=some (.tup [.str s.1,.ref s.2.1])
 len:ss.length=w.sets.length
 gat:H ga=some (.tup [.str wd,u])
 goal:match w.goal with
  | .give t _=>wd="give"/\u= .ref t
  | .nought=>wd="give"/\u= .ref nA
  | .go n=>wd="go"/\u= .int (n:Int)
theorem wS{w:WD}(h:aS H (gI (w.wy N)) v []):∃(l S G:Addr) (A:List V) (W:Str) (u:V),v= .ref l/\DY H N w l S G A W u:=by
 obtain⟨_,r,X,rfl,C,_,_,y0,D,rfl,⟨_,s,c,rfl,E,m⟩,_,_,Y,y,rfl,b,e⟩:=h
 have e:y=[]:=e
 subst e
 have L:=kY m
 have st:∀(i:Nat) (x:V),c[i]?=some x->∃(s:Str×Addr×Tm) (p:Addr),w.sets[i]?=some s/\x= .ref p/\H p=some (.tup [.str s.1,.ref s.2.1]):=λi x F=>by
  obtain⟨tr,o,I⟩:=qJ m i x F
  rw[FT]at o
  obtain⟨q,J,rfl⟩:=Option.map_eq_some_iff.mp o
  have a:(w.sets.map λs=>(s.1,s.2.1))[i]?=some q:=J
  rw[FT]at a
  obtain⟨z,M,rfl⟩:=Option.map_eq_some_iff.mp a
  obtain⟨_,p,X,rfl,O,_,_,Q,R,rfl,⟨rfl,_⟩,_,_,U,B,rfl,⟨rfl,_⟩,e⟩:=I
  have e:B=[]:=e
  subst e
  exact#[z,p,M,Z,O]
 have ln:c.length=w.sets.length:=by
  rw[L,Fy]
  exact Fy ..
 have f:∀g:Gl,w.goal=g->aS H (uX (g.gol N)) Y []->∃(G:Addr) (W:Str) (u:V),Y= .ref G/\H G=some (.tup [.str W,u])/\match g with
  | .give t _=>W="give"/\u= .ref t
  | .nought=>W="give"/\u= .ref N
  | .go n=>W="go"/\u= .int (n:Int):=λg _ b=>by
  cases g with
  |give t T |nought |go n=>
   obtain⟨_,gl,X,rfl,d,_,_,Q,R,rfl,⟨rfl,_⟩,_,_,U,B,rfl,⟨rfl,_⟩,e⟩:=b
   have e:B=[]:=e
   subst e
   exact#[gl,_,_,Z,d,Z,Z]
 obtain⟨G,W,u,rfl,j,k⟩:=f w.goal Z b
 exact#[r,s,G,c,W,u,Z,C,E,st,ln,j,k]
def iG(N:Addr):Sp:=λa H Q _=>∃(v:V) (n:Nat) (d:Df) (y:List Str) (c:Ct),a=[v,.int (n:Int)]/\lv H N d y v/\(bG N d)[n]?=some c/\∀(k b e:Addr) (D:V) (W:List V),BE H N d y c k b e D W->Q (.ref k) H
def i8(N:Addr):Sp:=λa H Q _=>∃(v:V) (n:Nat) (h:Addr) (d:Df) (y:List Str) (c:Ct) (i:List Int),a=[v,.int (n:Int),.ref h]/\lv H N d y v/\(bG N d)[n]?=some c/\H h=some (.tup (i.map V.int))/\i.length=(canon c.M).length/\
 ∀D:Addr,H D=none->Q (.ref D) (af H D (.dK (aR (canon c.M) i)))
theorem Zb:∀(s:List Str),(s.map (Sum.inr:Str->bE)).map kV=s.map V.str:=λs=>by rw[Ix];rfl
theorem wD:al ["part","n"] ["part","n"] (aa mv):=bP
theorem pR{f:Addr}{g:FuncData}{N:Addr}(F:aU K "cut_at" "cut_at" mv f g):ah P w K mg base aE 1 f g ["part","n"] (iG N):=by
 refine F.ok wD ?_ λl A o s H V Q E B h=>?_
 ·rintro _ _ _ _ ⟨v,n,d,y,c,rfl,_⟩
  rfl
 refine aZ λG k=>?_
 obtain⟨v,n,d,y,c,rfl,i,m,q⟩:=h
 refine k ?_
 clear k
 refine#[_,(jg (jo (jv j5 (jy (pv 0)) (pv 1) (λ_ _=>Z)))),?_]
 obtain⟨a,p,I,J,rfl,r,L,b,e⟩:=i.parts
 obtain⟨t,u,x,D,W,z,C⟩:=i.cut e m
 exact#[_,Z,a,_,_,_,Z,Z,aA.of r,jN (j:=3) Z,_,Z,p,_,_,_,Z,Z,aA.of b,jN z,q t u x D W C]
theorem sq:al ["part","n","held"] ["part","n","held"] (aa iR):=bP
theorem Z1(F:aU K "held_at" "held_at" iR f g)(i:Cl P w K mg base 1 J j ["part","n"] (iG N) "cut_at")(m:mg "dict"=none)(a:mg "zip"=none):ah P w K mg base aE 2 f g ["part","n","held"] (i8 N):=by
 refine F.ok sq ?_ λp A o s H V Q E r h=>?_
 ·rintro _ _ _ _ ⟨v,n,b,d,y,c,I,rfl,_⟩
  rfl
 refine aZ λL k=>?_
 obtain⟨v,n,b,d,y,c,I,rfl,t,u,x,z,q⟩:=h
 refine k ?_
 clear k
 refine#[_,(jg (jo (@Y0 _ _ _ _ _ _ _ _ Z m Z a Z (ja (jv j5 (i.e r (ja (pv 0) (ja (pv 1) jb))) jf (λ_ _=>Z)) (ja (pv 2) jb)) MT MT MT MT))),?_]
 refine#[_,Z,_,Z,v,n,d,y,c,Z,t,u,λB D O R W C=>#[B,_,_,_,Z,Z,aA.of C.at',gE,_,Z,D,b,(canon c.M).map Sum.inr,_,Z,by rw[Zb];exact aA.of C.nms,aA.of x,by rw[Fy,Fy,z],λl G=>q l G]]
inductive Wh where
 |rd (a i:Int) |wr (a b:Int) |ask (b:Int) |cl (f:Str) (is:List Int) (i:Int)
def yk(H:Hp)(u:V):Wh->Prop
 | .rd a i=>∃p,u= .ref p/\H p=some (.tup [.str "read",.int a,.int i])
 | .wr a b=>∃p,u= .ref p/\H p=some (.tup [.str "write",.int a,.int b])
 | .ask b=>∃p,u= .ref p/\H p=some (.tup [.str "ask",.int b])
 | .cl f I i=>∃p c g e,u= .ref p/\H p=some (.tup [.str "call",.ref c])/\H c=some (.tup [.str f,.ref g,e,.int i])/\H g=some (.tup (I.map V.int))
theorem yk.mono{H d:Hp}(k:ai H d){u:V}{w:Wh}(h:yk H u w):yk d u w:=by
 cases w with
 |rd a i |wr a b |ask b=>obtain⟨p,e,h⟩:=h;exact#[p,e,k _ _ h]
 |cl f I i=>obtain⟨p,c,g,e,E,j,l,m⟩:=h;exact#[p,c,g,e,E,k _ _ j,k _ _ l,k _ _ m]
inductive DD where
 |st (p:Addr) (l:Lf) |ask (t:Addr) (T:Tm)
noncomputable def DD.dd:DD->Dd
 | .st p _=>.st p
 | .ask t _=>.ask t
def uo(H:Hp)(y:List Str):DD->Prop
 | .st p l=>∃v,H p=some (.tup v)/\uy H l v/\l.Ok y/\l.isCut=true
 | .ask t T=>TV H y t T
theorem uo.mono(k:ai H a)(h:uo H y d):uo a y d:=by
 cases d with
 |st p l=>obtain⟨v,b,c,e⟩:=h;exact#[v,k _ _ b,c.mono k,e]
 |ask t T=>exact TV.mono k h
def DD.Cs(F:gU):DD->Prop
 | .st _ l=>l.Cs F
 | .ask _ _=>True
theorem BZ{F:gU}(h:EF F H y d):∃e:DD,e.dd=d/\uo H y e/\e.Cs F:=by
 cases d with
 |st p=>obtain⟨l,v,a,b,c,f,g⟩:=h;exact#[.st p l,Z,#[v,a,b,c,f],g]
 |ask t=>obtain⟨T,h⟩:=h;exact#[.ask t T,Z,h,Gg]
def BF:DD->Wh->Prop
 | .st _ (.rd _ _ _),.rd _ i=>eQ i
 | .st _ (.wr _ _ _ _),.wr _ _=>True
 | .st _ (.cl _ _ _ _),.cl _ _ i=>eQ i
 | .ask _ _,.ask b=>b=0∨b=1
 |_,_=>False
noncomputable def n8(d:DD)(w:Wh)(k:aL):aL:=match d,w with
 | .st _ (.rd x _ _),.rd _ i=>aM k (.inr x) (.int i)
 | .st _ (.cl x _ _ _),.cl _ _ i=>aM k (.inr x) (.int i)
 |_,_=>k
noncomputable def Wh.side:Wh->Nat
 | .ask b=>if b=0 then 1 else 0
 |_=>0
def pi(Q:VK)(H:Hp):Wh->Prop
 | .rd _ i=>Q (.int i) H
 | .cl _ _ i=>Q (.int i) H
 |_=>False
def f8:Sp:=λv H Q _=>∃(u:V) (w:Wh),v=[u]/\yk H u w/\pi Q H w
def nS(n:Addr):Sp:=λa H Q _=>∃(v W:V) (D:Addr) (d:Df) (y:List Str) (w:WD) (k:aL),a=[v,W,.ref D]/\lv H n d y v/\aS H (gI (w.wy n)) W []/\ug H y d.b.cuts d.b.size w/\H D=some (.dK k)/\GT k/\k.length<=200/\
 ∀(u:V) (h:Hp),aS h (pG (dH n d) (cp w.sets k) w.goal) u []->au D H h->Q u h
inductive EI(dd:Addr)(σ0:L2.St)(ss:List (Str×Addr×Tm))(k:aL)(H:Hp)(i:Nat)(σ:L2.St)(H':Hp):Prop
 |mk (o3 o4:Option V) (e0:σ=σ0++[o3,o4,none,none]) (e1:H' dd=some (.dK (cp (ss.take i) k))) (e2:au dd H H'):EI dd σ0 ss k H i σ H'
theorem JW{H:Hp}:∀{is:List Int},aS H (aJ (is.map aB)) .non (is.map V.int)
 | []=>rfl
 |i::is=>ji Z jS (JW (is:=is))
theorem on:al ["what"] ["what"] (aa gX):=bP
theorem pT(F:aU K "found_in" "found_in" gX f n):ah P w K mg base aE 1 f n ["what"] f8:=by
 refine F.ok on ?_ λC A o s H v Q E t h=>?_
 ·rintro _ _ _ _ ⟨u,W,rfl,_⟩
  rfl
 refine aZ λG k=>?_
 obtain⟨u,W,rfl,d,q⟩:=h
 refine k ?_
 clear k
 refine#[_,(jg (jo (zb (jZ (jy (pv 0))) (jy (jv j5 (pv 0) jf (λ_ _=>Z))) (jv j5 (pv 0) (xM tQ jf) (λ_ _=>Z))))),?_]
 cases W with
 |rd a i=>
  obtain⟨p,rfl,l⟩:=d
  exact(jq l gE #[Z,_,Z,aO MS #[_,Z,_,Z,p,_,_,_,Z,Z,aA.of l,Z,q]])
 |cl f I i=>
  obtain⟨p,c,g,e,rfl,m,r,_⟩:=d
  exact(jq m gE #[Z,_,Z,cq MS (jq m lB #[c,_,_,_,Z,Z,aA.of r,jN (j:=3) Z,q])])
 |wr a b |ask b=>exact q.elim
theorem fu:al ["part","way","numbers","name","term","goal","held"] ["part","way","numbers"] (aa iQ):=bP
noncomputable def Yy:Scope:=#[.function,[(".0",.local),("name",.local),("numbers",.free)],false,false,[]]
theorem vf:(["name","numbers"]:List Str).Nodup:=by decide+kernel
theorem uI:bM ["part","way","numbers","name","term","goal","held"] (aa iQ) Yy ["name","numbers"] 1 [2]:=ui
theorem pS(F:aU K "end_of" "end_of" iQ f fd)(cC:Cl P w K mg base 1 fC f2 ["part","n"] (iG U) "cut_at")(cW:Cl P w K mg base 7 fW f3 ["term","held"] (c7 K 6) "worth")(m0:mg "tuple"=none)(no:ma K U):ah P w K mg base aE 8 f fd ["part","way","numbers"] (nS U):=by
 refine F.ok fu ?_ λc0 A o1 s H vs Q E Y h=>?_
 ·rintro _ _ _ _ ⟨v,w1,D,d,ys,O,k,rfl,_⟩
  rfl
 refine aZ λGq kq=>?_
 obtain⟨v,w1,D,d,ys,O,k,rfl,hp,hw,wv,hd,gk,hk,q⟩:=h
 refine kq ?_
 clear kq
 refine#[_,(jd (j9 Gv Z (zT (jy (pv 1))) (ze (n:=2) Z (jz (jw (i:=3) fu.nd Z (Or.inl Z)) (jz (jw (i:=4) fu.nd Z (Or.inl Z)) j6))) (jg (zH (kU Y) (pv 2) (pv 3) (cW.e Y.m (ja (pv 4) (ja (pv 2) jb))) Z))) (jd (jA 5 fu.nd (jy (pv 1))) (jd (jx (jZ (jy (pv 5))) (jg (jo (jh (ja jl (ja (cW.e Y.m (ja (jy (pv 5)) (ja (pv 2) jb))) jb))))) jp) (jd (@YS _ _ _ _ _ _ _ _ _ _ (6) (["name","numbers"]) (1) ([2]) _ _ _ _ fu.nd Z (Or.inl Z) Z (zT (jv j5 (cC.e Y.m (ja (pv 0) (ja (jy (pv 5)) jb))) jf (λ_ _=>Z))) uI (λ_ _ _ _ _=>(jw (i:=0) vf Z (Or.inl Z))) (λ_ _ _ _ _=>(@zU _)) (λ_ _ _ _ _=>(@qm _ _ _ _ _ _ _ _ _ (kU Y) (pv 1) (pv 0) jf #[MT,MT,MT,MT])) MT (by first |exact .inl Z |exact .inr Z) (by intro _;rfl)) (jg (jo (jh (ja jl (ja (jy (pv 5)) (ja (jE jH Z m0 Ig (ja (pv 6) jb)) jb)))))))))),?_]
 have b0:=aN
 obtain⟨wa,sa,ga,ss,wd,u,rfl,W⟩:=wS hw
 have R:∀g,au D H g->ai H g:=λg k b xs e=>k b _ (jO e hd (by intro z;cases z)) e
 have h2:=hp.sz
 have h3:=wv.len
 refine aj λF1 C=>eB λJ j=>(jq W.at' gE #[sa,Z,#[_,aA.of W.sat],j _ _ ?_])
 clear j
 refine qZ (K:=K) (xs:=ss) (EI D [some v,some (.ref wa),some (.ref D)] O.sets k H) #[_,_,Z,hd,au.refl] (λi σ g _ h=>?_) ?_ (λσ g h=>C _ _ ?_)
 ·obtain⟨_,_,_,_,I⟩:=h
  exact aA.of (R _ I _ _ W.sat)
 ·intro E _ i x σ H1 hx f0 Gq kq h
  obtain⟨o3,o4,rfl,L,I⟩:=h
  clear C
  obtain⟨s,p,hs,rfl,h0⟩:=W.sets i x hx
  have S:=R _ I
  have tv:=(wv.sets s (F' hs)).mono S
  have g1:GT (cp (O.sets.take i) k):=zV (H:=H) (ys:=ys) (λs hs=>wv.sets s (GU hs)) gk
  have l1:=Xp (ss:=O.sets.take i) (k:=k)
  rw[Gf]at l1
  refine kq ?_
  clear kq
  refine#[p,_,Z,aA.of (S _ _ h0),Z,_,_,Z,_,_,Z,Z,?_]
  refine#[_,Z,_,Z,s.2.1,D,s.2.2,ys,_,Z,.inl tv.1,tv.2.2,tv.2.1,L,g1,_,Z,_,Z,D,_,Z,.inl #[_,.inr s.1,L,Z,MP,Z],f0 _ _ #[_,_,Z,?_,λc o X e=>by rw[jk X];exact I c o X e]]
  rw[Z0 hs]
  exact jc
 ·obtain⟨o3,o4,rfl,L,I⟩:=h
  rw[W.len,Gz]at L
  have S:=R _ I
  have g1:GT (cp O.sets k):=zV (H:=H) (ys:=ys) wv.sets gk
  have B:=wv.goal
  have a:=W.goal
  generalize cp O.sets k=N at L g1 q
  refine aj λF1 C=>(jq (S _ _ W.at') lB (C _ _ ?_))
  clear C
  have G:=S _ _ W.gat
  refine aj λF1 C=>u6 λG1 k3 k0=>(jq G gE #[Z,_,Z,?_])
  have give:∀(t:Addr) (T:Tm),wd="give"->u= .ref t->EN K g T t->di ys T->(∀(u':V) (H9:Hp),aS H9 (aQ [a9 "give",aB (T.ev N)]) u' []->au D H H9->Q u' H9)->G1 (decide (V.str wd=V.str "give")) g:=by
   intro t T e1 e2 x1 x2 x3
   subst e1
   subst e2
   rw[Gn Z]
   refine k3 _ (jq G lB #[_,Z,t,D,T,ys,N,Z,x1,x2.2,x2.1,L,g1,bX,λr nr=>?_])
   exact x3 _ _ (jD jc (ji Z jM (ji Z jS jC))) λc o X e=>je nr _ _ (I c o X e)
  cases hg:O.goal with
  |give t T=>
   rw[hg]at B a q
   exact give t T a.1 a.2 (.inl (B.1.mono S)) B.2 q
  |nought=>
   rw[hg]at a q
   exact give U (.num 0) a.1 a.2 (.inr #[Z,no _]) #[#[MO,MO],MO] q
  |go n=>
   rw[hg]at B a q
   clear give k3
   obtain⟨e1,e2⟩:=a
   subst e1
   subst e2
   have hn:n < (bG U d).length:=by rw[Y8];exact B
   obtain⟨c,hc⟩:∃c,(bG U d)[n]?=some c:=#[_,Fu hn]
   have e0:decide (V.str "go"=V.str "give")=false:=by decide+kernel
   rw[e0]
   refine k0 _ (C _ _ ?_)
   clear k0 C
   refine aj λF1 C=>#[_,Z,jq G lB #[v,n,d,ys,c,Z,hp.mono S,hc,λka na w2 dv w3 ca=>#[ka,_,_,_,Z,Z,aA.of ca.at',gE,na,Z,#[_,aA.of ca.nms],?_]]]
   have cl:=FL (QB ca.v.mem) hp.y20
   have q:∀(u:V) (g:Hp),aS g (aQ [a9 "go",aB (n:Int),aQ ((dH U d n).map λx=>aB (look N (.inr x) 0))]) u []->au D H g->Q u g:=q
   rw[pK hc]at q
   refine qw (K:=K) (xs:=(canon c.M).map V.str) (by rw[Fy];omega) (λi zs Hx=>zs=((canon c.M).take i).map (λx=>V.int (look N (.inr x) 0))/\Hx=g) #[Z,Z] (λi zs Hx h=>?_) (λi x zs Hx hx h=>?_) (λzs Hx h l nl=>C _ _ ?_)
   ·obtain⟨rfl,rfl⟩:=h
    exact#[aA.of ca.nms,by rw[Fy,Gf];omega]
   ·obtain⟨rfl,rfl⟩:=h
    rw[FT]at hx
    obtain⟨y,hy,rfl⟩:=Option.map_eq_some_iff.mp hx
    refine#[_,Z,D,Z,.inl #[N,.inl L],_,Z,_,dD.k (k:=Sum.inr y) L,?_,Z]
    rw[Kq g1,GP,hy,Gm]
    rfl
   ·obtain⟨rfl,rfl⟩:=h
    rw[Fy,Gz]
    refine(jq (je nl _ _ G) lB #[_,Z,l,_,Z,.inl #[aP.of jc,λtl n0=>#[gm,λr nr=>?_]]])
    refine q _ _ (jD jc (ji Z jM (ji Z jS (ji Z (jD (ao jc nr) ?_) jC)))) λc' o X e=>je nr _ _ (je n0 _ _ (je nl _ _ (I c' o X e)))
    have:=JW (H:=af (af (af Hx l (.lst ((canon c.M).map (λx=>V.int (look N (.inr x) 0))))) tl (.tup ((canon c.M).map (λx=>V.int (look N (.inr x) 0))))) r (.tup [.str "go",.int (n:Int),.ref tl])) (is:=(canon c.M).map λx=>look N (.inr x) 0)
    rw[Ix,Ix]at this
    exact this
structure iA(H:Hp)(nA:Addr)(d:Df)(ys:List Str)(v:V)(sa:Addr)(n:Nat)(hv:Addr)(uw:V)(c:Ct)(is:List Int)(wh:Wh)(e:DD)(wd:WD):Prop where
 prt:lv H nA d ys v
 at':H sa=some (.tup [.int (n:Int),.ref hv,uw])
 cut:(bG nA d)[n]?=some c
 hat:H hv=some (.tup (is.map V.int))
 hl:is.length=(canon c.M).length
 hin:∀i∈is,eQ i
 whv:yk H uw wh
 ed:e.dd=c.d
 dv:uo H ys e
 fit:BF e wh
 way:c.ws[wh.side]?=some (wd.wy nA)
 wdv:ug H ys d.b.cuts d.b.size wd
theorem iA.mono(k:ai H a)(h:iA H N d y v s n b u c i f e g):iA a N d y v s n b u c i f e g:=
 #[h.prt.mono k,k _ _ h.at',h.cut,k _ _ h.hat,h.hl,h.hin,h.whv.mono k,h.ed,h.dv.mono k,h.fit,h.way,h.wdv.mono k]
noncomputable def Eb(n:Addr)(d:Df)(c:Ct)(i:List Int)(a:Wh)(e:DD)(W:WD):Tr:=pG (dH n d) (cp W.sets (n8 e a (aR (canon c.M) i))) W.goal
def eh(n:Addr):Sp:=λc H Q _=>∃(v:V) (a:Addr) (d:Df) (y p:List Str) (I:List Int) (w:WD),c=[v,.ref a]/\lv H n d y v/\H d.pa=some (.tup (p.map V.str))/\p.length<=100/\H a=some (.tup (I.map V.int))/\I.length=p.length/\(∀i∈I,eQ i)/\w.wy n=(gG n d).1.w/\ug H y d.b.cuts d.b.size w/\
 ∀(u:V) (h:Hp),aS h (pG (dH n d) (cp w.sets (aR p I)) w.goal) u []->ae H h->Q u h
def oq(N:Addr):Sp:=λb H Q _=>∃(v U:V) (s f:Addr) (n:Nat) (d:Df) (y:List Str) (c:Ct) (i:List Int) (W:Wh) (e:DD) (a:WD),b=[v,.ref s]/\iA H N d y v s n f U c i W e a/\∀(u:V) (h:Hp),aS h (Eb N d c i W e a) u []->ae H h->Q u h
theorem XZ(h:BF e a)(g:GT k):GT (n8 e a k):=by
 unfold n8
 split
 ·exact g.put _ h
 ·exact g.put _ h
 ·exact g
theorem uE{e:DD}{wh:Wh}{k:aL}:(n8 e wh k).length<=k.length+1:=by
 unfold n8
 split
 ·exact zC
 ·exact zC
 ·exact Hs _
theorem om:al ["part","args"] ["part","args"] (aa gW):=bP
theorem Yz(F:aU K "first_of" "first_of" gW f I)(J:Cl P w K mg base 8 fE L ["part","way","numbers"] (nS T) "end_of")(M:mg "dict"=none)(b:mg "zip"=none):ah P w K mg base aE 9 f I ["part","args"] (eh T):=by
 refine F.ok om ?_ λR A O s H vs Q E U h=>?_
 ·rintro _ _ _ _ ⟨v,x,d,y,p,is,z,rfl,_⟩
  rfl
 refine aZ λGq B=>?_
 obtain⟨v,x,d,y,p,is,z,rfl,C,g,V,i,n,r,t,W,q⟩:=h
 refine B ?_
 clear B
 refine#[_,(jg (jo (J.e U.m (ja (pv 0) (ja (jy (pv 0)) (ja (@Y0 _ _ _ _ _ _ _ _ Z M Z b Z (ja (jy (pv 0)) (ja (pv 1) jb)) MT MT MT MT) jb)))))),?_]
 obtain⟨a,ca,X,cs,rfl,D,G,Y,h0⟩:=C.parts
 rw[<- t]at G
 refine#[_,Z,_,Z,a,_,_,_,Z,Z,aA.of D,jN (j:=2) Z,jq D lB #[_,Z,d.pa,x,p.map Sum.inr,_,Z,by rw[Zb];exact aA.of g,aA.of i,by rw[Fy,Fy,n],λl N=>?_]]
 have S:ae H (af H l (.dK (aR p is))):=je N
 have zl:=Y9 (ns:=p) (is:=is)
 exact#[.ref a,X,l,d,y,z,aR p is,Z,C.mono (ae.tm S),G.mono (ae.tm S),W.mono (ae.tm S),jc,qk r,MP,λu H' tu k=>q u H' tu λc o e=>k c o (jm e N) (S _ _ e)]
theorem dY:al ["part","step","cut","numbers","what","way"] ["part","step"] (aa iV):=bP
theorem Z2{f:Addr}{fd:FuncData}{nA fC fD fF fE:Addr}{f0 f3 f4 f5:FuncData}(F:aU K "onward" "onward" iV f fd)(cC:Cl P w K mg base 1 fC f0 ["part","n"] (iG nA) "cut_at")(cD:Cl P w K mg base 2 fD f3 ["part","n","held"] (i8 nA) "held_at")(cF:Cl P w K mg base 1 fF f4 ["what"] f8 "found_in")(cE:Cl P w K mg base 8 fE f5 ["part","way","numbers"] (nS nA) "end_of"):ah P w K mg base aE 9 f fd ["part","step"] (oq nA):=by
 refine F.ok dY ?_ λc0 A o2 s H vs Q E hr h=>?_
 ·rintro _ _ _ _ ⟨v,L,Y,hv,n,d,ys,c,is,wh,e,wd,rfl,_⟩
  rfl
 refine aZ λGq kq=>?_
 obtain⟨v,L,Y,hv,n,d,ys,c,is,wh,e,wd,rfl,C,q⟩:=h
 refine kq ?_
 clear kq
 refine#[_,(jd (jA 2 dY.nd (cC.e hr.m (ja (pv 0) (ja (jy (pv 1)) jb)))) (jd (jA 3 dY.nd (cD.e hr.m (ja (pv 0) (ja (jy (pv 1)) (ja (jy (pv 1)) jb))))) (jd (jA 4 dY.nd (jy (pv 1))) (jd (jx (jB zk (jy (pv 4)) (jh (ja jl (ja jl jb))) Z) (jg (zH (kU hr) (pv 3) (jy (jv j5 (pv 2) jf (λ_ _=>Z))) (cF.e hr.m (ja (pv 4) jb)) Z)) jp) (jd (jA 5 dY.nd (zb (jB (Ax (kU hr)) (pv 4) (jh (ja jl (ja jf jb))) (aK _)) (jy (jv j5 (pv 2) jf (λ_ _=>Z))) (jy (jv j5 (pv 2) jf (λ_ _=>Z))))) (jg (jo (cE.e hr.m (ja (pv 0) (ja (pv 5) (ja (pv 3) jb))))))))))),?_]
 have b0:=aN
 obtain⟨a,ca,wv,cs,rfl,ha,hw,a0,a1⟩:=C.prt.parts
 have h0:=C.at'
 refine aj λF1 J=>#[_,Z,jq h0 gE #[_,n,d,ys,c,Z,C.prt,C.cut,λka na wa dv w0 cu=>J _ _ ?_]]
 clear J
 refine aj λF1 J=>#[_,Z,jq h0 gE (jq h0 lB #[_,n,hv,d,ys,c,is,Z,C.prt,C.cut,C.hat,C.hl,λD n0=>J _ _ ?_])]
 clear J
 have s1:ae H (af H D (.dK (aR (canon c.M) is))):=je n0
 have d1:af H D (.dK (aR (canon c.M) is)) D=some (.dK (aR (canon c.M) is)):=jc
 generalize af H D (.dK (aR (canon c.M) is))=H1 at s1 d1
 have O:=C.mono (ae.tm s1)
 have g0:GT (aR (canon c.M) is):=qk C.hin
 have z0:=Y9 (ns:=canon c.M) (is:=is)
 have z1:=QB cu.v.mem
 have z2:=C.prt.y20
 generalize h7:aR (canon c.M) is=k0 at d1 g0 z0
 refine aj λF1 J=>#[_,Z,Y,_,_,_,Z,Z,aA.of O.at',jN (j:=2) Z,J _ _ ?_]
 clear J
 have o1:Eb nA d c is wh e wd=pG (dH nA d) (cp wd.sets (n8 e wh k0)) wd.goal:=by unfold Eb;rw[h7]
 rw[o1]at q
 have h1:=kY cu.ways
 rw[Fy]at h1
 have G:∃x,w0[wh.side]?=some x/\aS H (gI (wd.wy nA)) x []:=by
  have hj:wh.side < w0.length:=by rw[h1];exact(List.getElem?_eq_some_iff.mp C.way).1
  obtain⟨tr,ht,tx⟩:=qJ cu.ways wh.side _ (Fu hj)
  rw[FT,C.way]at ht
  cases ht
  exact#[_,Fu hj,tx]
 obtain⟨wx,G,t0⟩:=G
 have h4:=cu.at'
 have h8:=cu.wat
 refine aj λF1 J=>?_
 have r0:∀(H3:Hp),H3 D=some (.dK (n8 e wh k0))->au D H1 H3->F1 [some (.ref a),some (.ref Y),some (.ref ka),some (.ref D),some L,none] H3:=by
  intro H3 h3 k3
  refine J _ _ ?_
  clear J
  have s3:ae H H3:=λc o x=>k3 c o (jm x n0) (s1 _ _ x)
  have l3:=uE (e:=e) (wh:=wh) (k:=k0)
  refine aj λF2 f2=>?_
  have f6:∀H4,ae H3 H4->F2 [some (.ref a),some (.ref Y),some (.ref ka),some (.ref D),some L,some wx] H4:=λH4 s4=>f2 _ _ (by
   have S:=s3.trans s4
   exact#[_,Z,_,Z,_,Z,.ref a,wx,D,d,ys,wd,_,Z,C.prt.mono (ae.tm S),t0.mono (ae.tm S),C.wdv.mono (ae.tm S),s4 _ _ h3,XZ C.fit g0,MP,λu R tu k=>q u R tu λc o x=>k c o (jm x n0) (S _ _ x)])
  clear f2
  have wk:=C.whv.mono (ae.tm s3)
  have dU:∀(H4:Hp) (j:Nat),ae H3 H4->w0[j]?=some wx->dJ (gr K) (dJ (gr K) (be 2) (tC (.int 2))) (tC (.int (j:Int))) [some (.ref a),some (.ref Y),some (.ref ka),some (.ref D),some L,none] H4 λx H5=>F2 ([some (.ref a),some (.ref Y),some (.ref ka),some (.ref D),some L,none].set 5 (some x)) H5:=λH4 j s4 hj=>
   #[_,Z,ka,_,_,_,Z,Z,aA.of ((s3.trans s4) _ _ h4),jN (j:=2) Z,wa,_,_,_,Z,Z,aA.of ((s3.trans s4) _ _ h8),jN hj,f6 H4 s4]
  cases wh with
  |rd a' i |wr a' b=>
   obtain⟨p,rfl,B⟩:=wk
   exact#[_,Z,bX,λt N=>#[p,t,_,_,Z,Z,aA.of (je N _ _ B),aA.of jc,.inl #[Z,Z,_,Z,aO (by unfold oY;exact LK _) (dU _ 0 (je N) G)]]]
  |ask b=>
   obtain⟨p,rfl,B⟩:=wk
   have hb:b=0∨b=1:=by
    have:=C.fit
    cases e with
    |st p l=>cases l<;>exact this.elim
    |ask t T=>exact this
   rcases hb with rfl |rfl
   ·exact#[_,Z,bX,λt N=>#[p,t,_,_,Z,Z,aA.of (je N _ _ B),aA.of jc,.inl #[Z,Z,_,Z,cq MS (dU _ 1 (je N) G)]]]
   ·exact#[_,Z,bX,λt N=>#[p,t,_,_,Z,Z,aA.of (je N _ _ B),aA.of jc,.inl #[Z,Z,_,Z,aO MS (dU _ 0 (je N) G)]]]
  |cl f' i0 i=>
   obtain⟨p,c',g,e',rfl,B,h',_⟩:=wk
   exact#[_,Z,bX,λt N=>#[p,t,_,_,Z,Z,aA.of (je N _ _ B),aA.of jc,.inr #[_,c',_,_,_,Z,aA.of (je N _ _ h'),Z,_,Z,aO Z (dU _ 0 (je N) G)]]]
 have wk:=O.whv
 have dk:=O.dv
 have fk:=O.fit
 have h5:=s1 _ _ h4
 have d0:=cu.deed
 rw[<- C.ed]at d0
 have skip:∀(p:Addr) (W:Str) (r:List V),L= .ref p->H1 p=some (.tup (.str W::r))->nq (.str W) [.str "read",.str "call"]=false->n8 e wh k0=k0->io (iI (dJ (DK K false) (dJ (gr K) (be 4) (tC (.int 0))) (b6 (am (tC (.str "read")) (am (tC (.str "call")) aT))))) (rP (be 3) (dJ (gr K) (dJ (gr K) (be 2) (tC (.int 1))) (tC (.int 1))) (dI f8 [] E0 (am (be 4) aT))) tH { nx:=F1,rt:=Q } [some (.ref a),some (.ref Y),some (.ref ka),some (.ref D),some L,none] H1:=by
  intro p W r I B e2 e3
  subst I
  refine u6 λG1 k1 k2=>(jq B gE #[bX,λt N=>#[t,_,Z,.inr (aA.of jc),Z,Z,_,Z,?_]])
  show G1 (nq (.str W) [.str "read",.str "call"]) _
  rw[e2]
  exact k2 _ (r0 _ (by rw[e3];exact ao d1 N) λc o _ x=>je N _ _ x)
 have p0:∀(p p':Addr) (W:Str) (r:List V) (i:Int) (x:Str) (y:V) (r':List V),L= .ref p->H1 p=some (.tup (.str W::r))->nq (.str W) [.str "read",.str "call"]=true->dv= .ref p'->H1 p'=some (.tup (y:: .str x::r'))->(∀R:Hp,ae H1 R->yk R L wh)->(∀(Q':VK) (R:Hp),Q' (.int i) R->pi Q' R wh)->n8 e wh k0=aM k0 (.inr x) (.int i)->io (iI (dJ (DK K false) (dJ (gr K) (be 4) (tC (.int 0))) (b6 (am (tC (.str "read")) (am (tC (.str "call")) aT))))) (rP (be 3) (dJ (gr K) (dJ (gr K) (be 2) (tC (.int 1))) (tC (.int 1))) (dI f8 [] E0 (am (be 4) aT))) tH { nx:=F1,rt:=Q } [some (.ref a),some (.ref Y),some (.ref ka),some (.ref D),some L,none] H1:=by
  intro p p' W r i x y r' I B e2 e4 X e5 e6 e3
  subst I
  subst e4
  refine u6 λG1 k1 k2=>(jq B gE #[bX,λt N=>#[t,_,Z,.inr (aA.of jc),Z,Z,_,Z,?_]])
  show G1 (nq (.str W) [.str "read",.str "call"]) _
  rw[e2]
  refine k1 _ #[_,Z,.ref p,wh,Z,e5 _ (je N),e6 _ _ ?_]
  exact#[_,Z,jq (je N _ _ h5) lB #[p',_,_,_,Z,Z,aA.of (je N _ _ X),lB,D,_,Z,.inl #[k0,.inr x,ao d1 N,Z,MP,Z],r0 _ (by rw[e3];exact jc) λc o nc z=>by rw[jk nc];exact je N _ _ z]]
 cases e with
 |ask t T=>
  cases wh with
  |ask b=>obtain⟨p,I,B⟩:=wk;exact skip p _ _ I B MS Z
  |_=>exact fk.elim
 |st p' l=>
  obtain⟨vs,X,h6,_⟩:=dk
  have ed:dv= .ref p':=d0.1
  cases l with
  |rd x t T=>
   cases wh with
   |rd b i=>obtain⟨p,I,B⟩:=wk;obtain⟨rfl,_⟩:=h6;exact p0 p p' _ _ i x _ _ I B MS ed X (λR s'=>#[p,I,s' _ _ B]) (λ_ _ h=>h) Z
   |_=>exact fk.elim
  |wr t u T U=>
   cases wh with
   |wr b i=>obtain⟨p,I,B⟩:=wk;exact skip p _ _ I B MS Z
   |_=>exact fk.elim
  |cl x f' q' ts=>
   cases wh with
   |cl f2 i1 i=>obtain⟨p,c2,g2,e2,I,B,h2,h3⟩:=wk;obtain⟨rfl,_⟩:=h6;exact p0 p p' _ _ i x _ _ I B MS ed X (λR s'=>#[p,c2,g2,e2,I,s' _ _ B,s' _ _ h2,s' _ _ h3]) (λ_ _ h=>h) Z
   |_=>exact fk.elim
  |st x t T |gv t T=>cases wh<;>exact fk.elim
noncomputable abbrev gM:Stmt:=bQ 25
noncomputable abbrev iO:Stmt:=bQ 26
noncomputable def DI(k:aL):DD->Tr
 | .st _ (.rd _ _ T)=>aQ [a9 "read",aB (T.ev k)]
 | .st _ (.wr _ _ T U)=>aQ [a9 "write",aB (T.ev k),aB (U.ev k)]
 | .st _ (.cl _ f _ t)=>aQ [a9 "call",a9 f,aQ (t.map λc=>aB (c.2.ev k))]
 | .ask _ T=>aQ [a9 "ask",aB (if T.ev k=0 then 0 else 1)]
 |_=>.nil
def d9(N:Addr):Sp:=λb H Q _=>∃(v:V) (n:Nat) (a:Addr) (d:Df) (y:List Str) (c:Ct) (I:List Int) (e:DD),b=[v,.int (n:Int),.ref a]/\lv H N d y v/\(bG N d)[n]?=some c/\H a=some (.tup (I.map V.int))/\I.length=(canon c.M).length/\(∀i∈I,eQ i)/\e.dd=c.d/\uo H y e/\
 ∀(u:V) (h:Hp),aS h (DI (aR (canon c.M) I) e) u []->ae H h->Q u h
def ik:Sp:=λv H Q _=>∃(a d:Addr) (t:List (Addr×Tm)) (y:List Str) (k:aL),v=[.ref a,.ref d]/\H a=some (.tup (t.map λc=>V.ref c.1))/\t.length<=6/\(∀c∈t,bj H c.2 c.1/\di y c.2)/\H d=some (.dK k)/\GT k/\
 ∀(r:Addr) (h:Hp),h r=some (.tup (t.map λc=>V.int (c.2.ev k)))->ae H h->Q (.ref r) h
theorem sG:al ["terms","numbers"] ["terms","numbers"] (aa gM):=bP
noncomputable def YA:Scope:=#[.function,[(".0",.local),("term",.local),("worth",.globalImplicit),("numbers",.free)],false,false,[]]
theorem vg:(["term","numbers"]:List Str).Nodup:=by decide+kernel
theorem uJ:bM ["terms","numbers"] (aa gM) YA ["term","numbers"] 1 [1]:=ui
theorem Z3(F:aU K "worths" "worths" gM f v)(C:Cl P w K mg base 7 U B ["term","held"] (c7 K 6) "worth")(M:mg "tuple"=none):ah P w K mg base aE 8 f v ["terms","numbers"] ik:=by
 refine F.ok sG ?_ λG A o s H R Q E I h=>?_
 ·rintro _ _ _ _ ⟨a,D,t,g,k,rfl,_⟩
  rfl
 refine aZ λS j=>?_
 obtain⟨a,D,t,g,k,rfl,p,W,b,J,L,q⟩:=h
 refine j ?_
 clear j
 refine#[_,(jg (jo (jE jH Z M Ig (ja (@zG _ _ _ _ _ _ _ (["term","numbers"]) (1) ([1]) _ _ _ _ Z (zT (pv 0)) uJ (λ_ _ _ _ _=>(jw (i:=0) vg Z (Or.inl Z))) (λ_ _ _ _ _=>(@zU _)) (λ_ _ _ _ _=>(C.e I.m (ja (pv 0) (ja (pv 1) jb)))) (by intro _;rfl)) jb)))),?_]
 have N:=aN
 refine#[_,Z,a,Z,#[_,aA.of p],?_]
 refine qw (K:=K) (xs:=t.map λc=>V.ref c.1) (by rw[Fy];omega) (λi z d=>z=(t.take i).map (λc=>V.int (c.2.ev k))/\d=H) #[Z,Z] (λi z d h=>?_) (λi x z d r h=>?_) (λz d h l O=>?_)
 ·obtain⟨rfl,rfl⟩:=h
  exact#[aA.of p,by rw[Fy,Gf];omega]
 ·obtain⟨rfl,rfl⟩:=h
  rw[FT]at r
  obtain⟨y,u,rfl⟩:=Option.map_eq_some_iff.mp r
  have Y:=F' u
  refine#[_,Z,_,Z,y.1,D,y.2,g,k,Z,.inl (b y Y).1,(b y Y).2.2,(b y Y).2.1,J,L,?_,Z]
  rw[GP,u,Gm]
  rfl
 ·obtain⟨rfl,rfl⟩:=h
  rw[Fy,Gz]
  exact#[l,_,Z,.inl #[aP.of jc,λT n=>q T _ jc ((je O).trans (je n))]]
theorem fq:al ["part","n","held","numbers","deed","word"] ["part","n","held"] (aa iO):=bP
theorem Z4(F:aU K "deed_at" "deed_at" iO f fd)(cH:Cl P w K mg base 2 fH f0 ["part","n","held"] (i8 nA) "held_at")(cC:Cl P w K mg base 1 fC f2 ["part","n"] (iG nA) "cut_at")(cW:Cl P w K mg base 7 fW f3 ["term","held"] (c7 K 6) "worth")(cS:Cl P w K mg base 8 fS f4 ["terms","numbers"] ik "worths"):ah P w K mg base aE 9 f fd ["part","n","held"] (d9 nA):=by
 refine F.ok fq ?_ λc0 A o1 s H vs Q E L h=>?_
 ·rintro _ _ _ _ ⟨v,n,hv,d,Y,c,is,e,rfl,_⟩
  rfl
 refine aZ λGq kq=>?_
 obtain⟨v,n,hv,d,Y,c,is,e,rfl,hp,hc,hh,hl,h0,h1,h2,q⟩:=h
 refine kq ?_
 clear kq
 refine#[_,(jd (jA 3 fq.nd (cH.e L.m (ja (pv 0) (ja (pv 1) (ja (pv 2) jb))))) (jd (jA 4 fq.nd (jv j5 (cC.e L.m (ja (pv 0) (ja (pv 1) jb))) jf (λ_ _=>Z))) (jd (jA 5 fq.nd (jy (pv 4))) (jd (jx (jZ (pv 5)) (jg (jo (jh (ja (pv 5) (ja (zb (jB qO (cW.e L.m (ja (jy (pv 4)) (ja (pv 3) jb))) jf (aK _)) jf jf) jb))))) jp) (jd (jx (jZ (pv 5)) (jg (jo (jh (ja (pv 5) (ja (jy (pv 4)) (ja (cS.e L.m (ja (jy (pv 4)) (ja (pv 3) jb))) jb)))))) jp) (jd (jx (jZ (pv 5)) (jg (jo (jh (ja (pv 5) (ja (cW.e L.m (ja (jy (pv 4)) (ja (pv 3) jb))) jb))))) jp) (jg (jo (ju j8 (jh (ja (pv 5) jb)) (cS.e L.m (ja (jJ zh (pv 4) (jG jf) j7) (ja (pv 3) jb)))))))))))),?_]
 have b0:=aN
 obtain⟨a,ca,p0,cs,rfl,ha,_,h7,h8⟩:=hp.parts
 refine aj λi b=>#[_,Z,_,Z,_,Z,.ref a,n,hv,d,Y,c,is,Z,hp,hc,hh,hl,λC n0=>b _ _ ?_]
 clear b
 have S:ae H (af H C (.dK (aR (canon c.M) is))):=je n0
 have O:af H C (.dK (aR (canon c.M) is)) C=some (.dK (aR (canon c.M) is)):=jc
 show dO _ _ _ _ (af H C (.dK (aR (canon c.M) is)))
 generalize af H C (.dK (aR (canon c.M) is))=H1 at S O
 have V:GT (aR (canon c.M) is):=qk h0
 generalize aR (canon c.M) is=k at O V q
 have dk:=h2.mono (ae.tm S)
 refine aj λi b=>#[_,Z,_,Z,.ref a,n,d,Y,c,Z,hp.mono (ae.tm S),hc,λka na wa dv w0 cu=>#[ka,_,_,_,Z,Z,aA.of cu.at',lB,b _ _ ?_]]
 clear b
 have D:=cu.deed
 rw[<- h1]at D
 cases e with
 |ask t T=>
  obtain⟨_,p,xs,rfl,g,_,_,y0,z0,rfl,⟨rfl,_⟩,_,_,y1,z1,rfl,⟨rfl,_⟩,e⟩:=D
  have e:z1=[]:=e
  subst e
  refine aj λi b=>(jq g gE (b _ _ ?_))
  clear b
  refine aj λi b=>#[_,Z,Z,_,Z,cq MS #[_,Z,jq g lB #[_,Z,t,C,T,Y,k,Z,.inl dk.1,dk.2.2,dk.2.1,O,V,Z,_,Z,?_]]]
  by_cases z:T.ev k=0
  ·refine cq (by rw[z];decide+kernel) #[bX,λr G=>q _ _ (jD jc (ji Z jM (ji Z #[?_,Z] jC))) (S.trans (je G))]
   rw[FQ z]
  ·refine aO (by rw[FY];intro e;injection e with e;exact z e) #[bX,λr G=>q _ _ (jD jc (ji Z jM (ji Z #[?_,Z] jC))) (S.trans (je G))]
   rw[FV z]
 |st p l=>
  have ed:dv= .ref p:=D.1
  subst ed
  obtain⟨vs,g,I,B,h3⟩:=dk
  cases l with
  |rd x t T=>
   obtain⟨rfl,ht⟩:=I
   refine aj λi b=>(jq g gE (b _ _ ?_))
   clear b
   refine aj λi b=>#[_,Z,Z,_,Z,aO MS (b _ _ ?_)]
   clear b
   refine aj λi b=>#[_,Z,Z,_,Z,aO MS (b _ _ ?_)]
   clear b
   refine aj λi b=>#[_,Z,Z,_,Z,cq MS #[_,Z,_,Z,p,_,_,_,Z,Z,aA.of g,jN (j:=2) Z,_,Z,t,C,T,Y,k,Z,.inl ht,B.2.2,B.2.1,O,V,bX,λr G=>?_]]
   exact q _ _ (jD jc (ji Z jM (ji Z jS jC))) (S.trans (je G))
  |wr t u T U=>
   obtain⟨rfl,ht,hu⟩:=I
   refine aj λi b=>(jq g gE (b _ _ ?_))
   clear b
   refine aj λi b=>#[_,Z,Z,_,Z,aO MS (b _ _ ?_)]
   clear b
   refine aj λi b=>#[_,Z,Z,_,Z,aO MS (b _ _ ?_)]
   clear b
   refine aj λi b=>#[_,Z,Z,_,Z,aO MS (b _ _ ?_)]
   clear b
   refine#[_,Z,lO,λr1 N=>#[_,Z,1,Z,p,_,Z,je N _ _ g,λr2 H2 J R=>#[_,Z,r2,C,[(t,T),(u,U)],Y,k,Z,J,(by show 2<=6;decide),?_,R _ _ (je N _ _ O),V,λr3 H3 h4 s3=>#[r1,r3,_,_,Z,Z,s3 _ _ (R _ _ jc),h4,gm,λr4 H4 h5 s4=>?_]]]]
   ·intro y W
    have X:=(je (o:=.tup [.str "write"]) N).trans R
    simp only[Ib,Gh,I0]at W
    rcases W with rfl |rfl
    ·exact#[ht.same X,B.1]
    ·exact#[hu.same X,B.2]
   ·exact q _ _ (jD h5 (ji Z jM (ji Z jS (ji Z jS jC)))) (S.trans ((je N).trans (R.trans (s3.trans s4))))
  |cl x f' qa ts=>
   obtain⟨rfl,hq,h6⟩:=I
   refine aj λi b=>(jq g gE (b _ _ ?_))
   clear b
   refine aj λi b=>#[_,Z,Z,_,Z,aO MS (b _ _ ?_)]
   clear b
   have l6:ts.length<=6:=B.2.1
   refine aj λi b=>#[_,Z,Z,_,Z,cq MS #[_,Z,_,Z,p,_,_,_,Z,Z,aA.of g,jN (j:=2) Z,_,Z,p,_,_,_,Z,Z,aA.of g,jN (j:=3) Z,_,Z,qa,C,ts,Y,k,Z,hq,l6,λy W=>#[h6 y W,B.2.2 y W],O,V,λr2 H2 J R=>#[gm,λr G=>?_]]]
   refine q _ _ (jD jc (ji Z jM (ji Z jM (ji Z (jD (ao J G) ?_) jC)))) (S.trans (R.trans (je G)))
   have:=JW (H:=af H2 r (.tup [.str "call",.str f',.ref r2])) (is:=ts.map λc=>c.2.ev k)
   rw[Ix,Ix]at this
   exact this
  |st x t T |gv t T=>cases h3
noncomputable abbrev iT:Stmt:=bQ 17
noncomputable abbrev mq:Stmt:=bQ 18
noncomputable abbrev iP:Stmt:=bQ 19
noncomputable abbrev sd:Stmt:=cj (bQ 20) 0
noncomputable abbrev my:Stmt:=cj (bQ 20) 1
noncomputable abbrev se:Stmt:=cj (bQ 20) 2
noncomputable abbrev iW:Stmt:=bQ 22
def Bx(H:Hp)(x:V)(g:Str):Prop:=∃p r,x= .ref p/\H p=some (.tup (.str g::r))
def lM:Sp:=λb H Q _=>∃(a:Addr) (f:Str) (X:List V) (i:Nat) (v:V),b=[.ref a,.str f]/\H a=some (.tup X)/\X[i]?=some v/\Bx H v f/\(∀j x,j < i->X[j]?=some x->∃g,Bx H x g/\g≠f)/\Q v H
def fV:Sp:=λd H Q _=>∃(a g:Addr) (f:Str) (X y:List V) (i:Nat) (v:V) (p b:Addr) (r c:List V),d=[.ref a,.str f,.ref g]/\H a=some (.tup X)/\X[i]?=some v/\v= .ref p/\H p=some (.tup (.str f:: .ref b::r))/\H b=some (.tup c)/\H g=some (.tup y)/\y.length=c.length/\(∀j x,j < i->X[j]?=some x->∃g,Bx H x g/\g≠f)/\Q v H
noncomputable def gR(c l p:Addr)(m:Int)(t:Nat):List (Str×V):=[("cells",.ref c),("most",.int m),("left",.ref l),("turns",.int (t:Int)),("parts",.ref p)]
structure Rn(H:Hp)(C r dx cA lA pA:Addr)(m:Int)(t:Nat)(L Cs:aL):Prop where
 ins:H r=some (.ins C dx (gR cA lA pA m t))
 lf:H lA=some (.dK L)
 ce:H cA=some (.dK Cs)
 iL:GT L
 iC:GT Cs
 cl:cA≠lA
structure RK(K:Frag)(C:Addr):Prop where
 cl:ou K C
 n1:bN K C "cells"
 n2:bN K C "most"
 n3:bN K C "left"
 n4:bN K C "turns"
 n5:bN K C "parts"
def gO(C:Addr):Sp:=λv H Q _=>∃(r d b l p:Addr) (m c:Int) (t:Nat) (L a:aL),v=[.ref r,.int c]/\Rn H C r d b l p m t L a/\Q (.int (look L (.inl c) (look a (.inl c) 0))) H
def mX(C:Addr):Sp:=λv H Q _=>∃(r d c:Addr) (m:Int),v=[.ref r,.ref c,.int m]/\H r=some (.ins C d [])/\∀l,H l=none->Q .non (af (af H l (.dK [])) r (.ins C d [("cells",.ref c),("most",.int m),("left",.ref l),("turns",.int 0)]))
structure XM(K:Frag)(mg:Str->Option Value)(x:Str)(L:Addr):Prop where
 ex:excIn K L n9 "ValueError.__new__"=true
 kp:keepIn K (.ref L)=true
 xc:oG K L
 ty:typeIn K (.ref L)=some (.type "type")
 m:mg x=some (.ref L)
def NX(o:HO):Prop:=∀a,o≠ .ext a
def Kp(H h:Hp):Prop:=∀b o,NX o->H b=some o->h b=some o
theorem Kp.of_same(s:ae H h):Kp H h:=λb o _ e=>s _ _ e
theorem Kp.trans(a:Kp H h)(b:Kp h d):Kp H d:=λc o n e=>b c o n (a c o n e)
def ny(E:XK):XK:=λC d H=>∀x T t c,C= .ref c->H x=some (gB c d T x)->H T=some (fe T)->H t=none->E (.ref c) d (af (af H t (fe t)) x (gB c d t x))
theorem zQ{P:Program}{w:World}{K:Frag}{mg:Str->Option Value}{base:Heap}:dm (eO P w) (ff (eO P w) P w K mg base N q s f g A o a H E) (ny E):=
 vQ λx C d T t i b c e h=>h x T t C Z b c e
theorem JX{H h:Hp}(e:h b=some o)(n:NX o)(a:h x=some (gB C d T x))(c:h t=none):af (af h t (fe t)) x (gB C d t x) b=some o:=by
 have N:b≠x:=λz=>by
  rw[z,a]at e
  injection e with e
  exact n _ e.symm
 rw[jk N,jk (jm e c)]
 exact e
def Fl(E:XK)(L:Addr)(R:Hp->Prop):Prop:=∀(_:Unit) H,R H->E (.ref L) none H
def lg(C L:Addr):Sp:=λv H Q E=>∃(r d c l p:Addr) (m:Int) (t:Nat),v=[.ref r]/\H r=some (.ins C d (gR c l p m t))/\((t:Int) < m->Q .non (af H r (.ins C d (gR c l p m (t+1)))))/\(m<=(t:Int)->Fl E L (Kp H))
def fX(D:Addr):Sp:=λv H Q E=>∃d:Int,v=[.int d]/\(d < 15->Q (.int (d+1)) H)/\(15<=d->Fl E D (Kp H))
theorem Xr{H:Hp}(a:H x=none)(N:af H x (xf L none x) T=none):ae H (af (af (af H x (xf L none x)) T (fe T)) x (gB L d T x)):=by
 intro b o e
 have n:b≠x:=jm e a
 rw[jk n,jk (λz=>by rw[<- z,jk n,e]at N;cases N),jk n]
 exact e
theorem lK:al ["ones","f","one"] ["ones","f"] (aa iT):=bP
theorem Z5(F:aU K "named" "named" iT f D):ah P w K mg base aE 1 f D ["ones","f"] lM:=by
 refine F.ok lK ?_ λG A o s H W Q E X h=>?_
 ·rintro _ _ _ _ ⟨a,f,xs,i,v,rfl,_⟩
  rfl
 refine aZ λI b=>?_
 obtain⟨a,f,xs,i,v,rfl,t,u,L,d,q⟩:=h
 refine b ?_
 clear b
 refine#[_,(jd (j9 Gv Z (zT (pv 0)) (jw (i:=2) lK.nd Z (Or.inl Z)) (jg (jx (jB qO (jy (pv 2)) (pv 1) (aK _)) (jg (jo (pv 2))) jp))) (@rq _ _)),?_]
 have M:i < xs.length:=(List.getElem?_eq_some_iff.mp u).1
 refine aj λY f1=>eB λJ j=>#[_,Z,a,Z,#[_,aA.of t],j _ _ ?_]
 clear j
 refine qZ (K:=K) (xs:=xs) (λk c e=>(∃O,c=[some (.ref a),some (.str f),O])/\e=H/\k<=i) #[#[_,Z],Z,FN _] (λk c e _ h=>by rw[h.2.1];exact aA.of t) ?_ (λc e h=>?_)
 ·intro l R k x c H2 m N I b h
  obtain⟨⟨O,rfl⟩,rfl,y⟩:=h
  refine b ?_
  clear b
  by_cases S:k=i
  ·subst S
   rw[u]at m
   cases m
   obtain⟨p,r,rfl,n⟩:=id L
   show io _ _ _ l _ _
   refine u6 λT B C=>(jq n gE #[_,Z,Z,_,Z,?_])
   rw[Gn (Z:V.str f=V.str f)]
   refine B _ ?_
   show eF _ l _ _
   unfold eF
   rw[R]
   exact#[_,Z,q]
  ·obtain⟨g,⟨p,r,rfl,n⟩,U⟩:=d k x MP m
   show io _ _ _ l _ _
   refine u6 λT B C=>(jq n gE #[_,Z,Z,_,Z,?_])
   rw[FY (λz=>U (by injection z))]
   exact C _ (N _ _ #[#[_,Z],Z,MP])
 ·obtain⟨_,_,y⟩:=h
  exact absurd y MP
theorem sy:al ["parts","f"] ["parts","f"] (aa iW):=bP
theorem Z6(F:aU K "part_of" "part_of" iW f c)(C:Cl P w K mg base 1 r d ["ones","f"] lM "named"):ah P w K mg base aE 2 f c ["parts","f"] lM:=by
 refine F.ok sy ?_ λg A o s H V Q E j h=>?_
 ·rintro _ _ _ _ ⟨a,f,x,i,v,rfl,_⟩
  rfl
 refine aZ λG k=>?_
 obtain⟨a,f,x,i,v,rfl,l,n,p,b,q⟩:=h
 refine k ?_
 clear k
 refine#[_,(jg (jo (C.e j.m (ja (pv 0) (ja (pv 1) jb))))),?_]
 exact#[_,Z,_,Z,a,f,x,i,v,Z,l,n,p,b,q]
theorem nJ:al ["ones","f","args","one"] ["ones","f","args"] (aa mq):=bP
theorem pP(F:aU K "begun" "begun" mq f j)(C:Cl P w K mg base 1 N l ["ones","f"] lM "named")(M:mg "len"=none):ah P w K mg base aE 2 f j ["ones","f","args"] fV:=by
 refine F.ok nJ ?_ λn A o s H V Q E t h=>?_
 ·rintro _ _ _ _ ⟨a,g,f,x,y,i,v,p,c,r,u,rfl,_⟩
  rfl
 refine aZ λO k=>?_
 obtain⟨a,g,f,x,y,i,v,p,c,r,u,rfl,z,B,rfl,d,D,G,I,J,q⟩:=h
 refine k ?_
 clear k
 refine#[_,(jd (jA 3 nJ.nd (C.e t.m (ja (pv 0) (ja (pv 1) jb)))) (jd (jx (jB J4 (jP jK Z M Hi (ja (pv 2) jb)) (jP jK Z M Hi (ja (jy (pv 3)) jb)) (aK _)) (@rq _ _) jp) (jg (jo (pv 3))))),?_]
 refine aj λL b=>#[_,Z,_,Z,a,f,x,i,.ref p,Z,z,B,#[p,_,Z,d],J,b _ _ ?_]
 clear b
 refine aj λL b=>#[_,Z,g,_,Z,.inr (aA.of G),jq d lB #[c,_,Z,.inr (aA.of D),Z,_,Z,aO (by rw[I];simp) (b _ _ #[_,Z,q])]]
theorem sj:al ["deep"] ["deep"] (aa iP):=bP
theorem Z7(F:aU K "deeper" "deeper" iP f a)(M:mg "DEEPEST"=some (.int 15 t))(X:XM K mg "TooDeep" D):ah P w K mg base (eO P w) 1 f a ["deep"] (fX D):=by
 refine F.ok1 sj ?_ λC A o s H V Q E g h=>?_
 ·rintro _ _ _ _ ⟨d,rfl,_⟩
  rfl
 refine aZ λG k=>?_
 obtain⟨d,rfl,q,e⟩:=h
 refine k ?_
 clear k
 refine#[_,(jd (jx (jB Z8 (pv 0) (qR (v:=.int 15) Z M #[t,Z]) (aK _)) (jg (@Xd _ _ _ _ _ Z Qs (@Qp _ _ _ _ _ X.ex X.kp Z X.m MO))) jp) (jg (jo (ju jX (pv 0) jf)))),?_]
 refine aj λi b=>#[_,Z,_,_,Z,Z,_,Z,?_]
 by_cases c:(15:Int)<=d
 ·refine cq (Gn c) λx n=>?_
  exact#[x,D,none,Z,jc,X.xc,X.ty,λT N=>e c () _ (Kp.of_same (Xr n N))]
 ·exact aO (FY c) (b _ _ #[_,Z,_,_,Z,Z,q MP])
theorem A8:al ["self","cells","most"] ["self","cells","most"] (aa sd):=bP
theorem vL(F:aU K "__init__" "Turns.__init__" sd f v)(c:RK K C):ah P w K mg base aE 1 f v ["self","cells","most"] (mX C):=by
 refine F.ok A8 ?_ λx A o s H V Q E B h=>?_
 ·rintro _ _ _ _ ⟨r,D,y,m,rfl,_⟩
  rfl
 refine aZ λG k=>?_
 obtain⟨r,D,y,m,rfl,g,q⟩:=h
 refine k ?_
 clear k
 refine#[_,(jd (@qI _ _ _ _ _ _ _ _ (pv 0) (pv 1) Z) (jd (@qI _ _ _ _ _ _ _ _ (pv 0) (pv 2) Z) (jd (@qI _ _ _ _ _ _ _ _ (pv 0) Ko Z) (jg (@qI _ _ _ _ _ _ _ _ (pv 0) jf Z))))),?_]
 refine aj λj a=>#[_,Z,_,Z,r,C,D,_,Z,g,c.cl,c.n1,MO,a _ _ ?_]
 clear a
 refine aj λj a=>#[_,Z,_,Z,r,C,D,_,Z,jc,c.cl,c.n2,(by show 1 < 1000;decide),a _ _ ?_]
 clear a
 refine aj λj a=>λl n=>#[_,Z,r,C,D,_,Z,ao jc n,c.cl,c.n3,(by show 2 < 1000;decide),a _ _ ?_]
 clear a
 refine#[_,Z,r,C,D,_,Z,jc,c.cl,c.n4,(by show 3 < 1000;decide),?_]
 have N:l≠r:=λe=>by rw[e,jc]at n;cases n
 have z:H l=none:=by rw[jk N,jk N]at n;exact n
 have e:∀p t u O:HO,af (af (af (af (af H r p) r t) l (.dK [])) r u) r O=af (af H l (.dK [])) r O:=λp t u O=>by
  funext b
  by_cases d:b=r
  ·rw[d,jc,jc]
  ·rw[jk d,jk d,jk d]
   by_cases i:b=l
   ·rw[i,jc,jc]
   ·rw[jk i,jk d,jk d,jk i]
 rw[e]
 exact q l z
theorem wE:al ["self"] ["self"] (aa my):=bP
theorem pY(F:aU K "take_turn" "Turns.take_turn" my f g)(b:RK K C)(X:XM K mg "TooLong" L):ah P w K mg base (eO P w) 1 f g ["self"] (lg C L):=by
 refine F.ok1 wE ?_ λi A o s H v Q E y h=>?_
 ·rintro _ _ _ _ ⟨r,d,j,l,p,m,t,rfl,_⟩
  rfl
 refine aZ λG k=>?_
 obtain⟨r,d,j,l,p,m,t,rfl,a,q,e⟩:=h
 refine k ?_
 clear k
 refine#[_,(jd (jx (jB Z8 (zo (pv 0) Z) (zo (pv 0) Z) (aK _)) (jg (@Xd _ _ _ _ _ Z Qs (@Qp _ _ _ _ _ X.ex X.kp Z X.m MO))) jp) (jg (@Zv _ _ _ _ _ _ _ _ _ _ (pv 0) jf yI))),?_]
 refine aj λz n=>#[_,Z,r,C,d,_,_,Z,a,b.cl,b.n4,Z,_,Z,r,C,d,_,_,Z,a,b.cl,b.n2,Z,_,_,Z,Z,_,Z,?_]
 by_cases c:m<=(t:Int)
 ·refine cq (Gn c) λx N=>?_
  exact#[x,L,none,Z,jc,X.xc,X.ty,λT u=>e c () _ (Kp.of_same (Xr N u))]
 ·exact aO (FY c) (n _ _ #[_,Z,r,C,d,_,_,Z,a,b.cl,b.n4,Z,_,_,Z,Z,d,_,a,(by show 5 < 1000;decide),q MP])
theorem A9:al ["self","cell"] ["self","cell"] (aa se):=bP
theorem vM(F:aU K "number_in" "Turns.number_in" se f p)(b:RK K C):ah P w K mg base aE 1 f p ["self","cell"] (gO C):=by
 refine F.ok A9 ?_ λu A o s H V Q E g h=>?_
 ·rintro _ _ _ _ ⟨r,d,i,l,x,m,c,t,L,j,rfl,_⟩
  rfl
 refine aZ λG n=>?_
 obtain⟨r,d,i,l,x,m,c,t,L,j,rfl,a,q⟩:=h
 refine n ?_
 clear n
 refine#[_,(jg (jo (zb (Jj (@AC _ _ _ _ _ (kU g) (pv 1) (zo (pv 0) Z))) (vU (kU g) (zo (pv 0) Z) (pv 1) (λ_ _=>Z)) (@qm _ _ _ _ _ _ _ _ _ (kU g) (zo (pv 0) Z) (pv 1) jf #[MT,MT,MT,MT])))),?_]
 refine#[_,Z,_,Z,r,C,d,_,_,Z,a.ins,b.cl,b.n3,Z,l,_,Z,dD.k (k:=.inl c) a.lf,_,Z,?_]
 cases e:bh L (.inl c) with
 |some v=>
  refine cq Z #[_,Z,r,C,d,_,_,Z,a.ins,b.cl,b.n3,Z,_,Z,l,v,Z,by rw[<- e];exact dD.k (k:=.inl c) a.lf,?_]
  rw[ZY a.iL e (look j (.inl c) 0)]
  exact q
 |none=>
  refine aO Z #[_,Z,r,C,d,_,_,Z,a.ins,b.cl,b.n1,Z,i,Z,.inl #[_,.inl a.ce],_,Z,_,dD.k (k:=.inl c) a.ce,?_]
  rw[Kq a.iC]
  rw[Jv e]at q
  exact q
noncomputable abbrev rM:Stmt:=cj (bQ 54) 0
noncomputable abbrev wf:Stmt:=cj (bQ 54) 1
noncomputable abbrev wg:Stmt:=cj (bQ 54) 2
noncomputable abbrev A2:Stmt:=bQ 55
inductive Sk where
 |nil |st (n:Int) (hs:List Int) (w r:Sk) |ask (b:Int) |rd (c i:Int) |wr (c i:Int) |cl (f:Str) (is:List Int) (s:Sk) (a:Int)
noncomputable def Sk.dep:Sk->Nat
 | .st _ _ w r=>max w.dep r.dep
 | .cl _ _ s _=>s.dep+1
 |_=>0
noncomputable def Sk.size:Sk->Nat
 | .st _ _ w r=>w.size+r.size+1
 | .cl _ _ s _=>s.size
 |_=>0
def Sk.ok:Bool->Sk->Prop
 |true,.nil=>True
 |true,.st _ _ w r=>w.ok false/\r.ok true
 |false,.cl _ _ s _=>s.ok true
 |false,.ask _=>True
 |false,.rd _ _=>True
 |false,.wr _ _=>True
 |_,_=>False
def gq(H:Hp):Sk->V->List V->Prop
 | .nil,_,x=>x=[]
 | .st n d w r,_,x=>∃p h u y,x= .ref p::y/\H p=some (.tup [.int n,.ref h,u])/\H h=some (.tup (d.map V.int))/\gq H w u []/\gq H r .non y
 | .ask b,u,_=>∃p,u= .ref p/\H p=some (.tup [.str "ask",.int b])
 | .rd c i,u,_=>∃p,u= .ref p/\H p=some (.tup [.str "read",.int c,.int i])
 | .wr c i,u,_=>∃p,u= .ref p/\H p=some (.tup [.str "write",.int c,.int i])
 | .cl f I s a,u,_=>∃p c g e S,u= .ref p/\H p=some (.tup [.str "call",.ref c])/\H c=some (.tup [.str f,.ref g,.ref e,.int a])/\H g=some (.tup (I.map V.int))/\H e=some (.tup S)/\gq H s .non S
theorem gq.mono(k:ai H i):∀{s:Sk} {u:V} {x:List V},gq H s u x->gq i s u x
 | .nil,_,_,h=>h
 | .st _ _ _ _,_,_,z=>by obtain⟨p,h,u,y,e,a,b,d,f⟩:=z;exact #[p,h,u,y,e,k _ _ a,k _ _ b,gq.mono k d,gq.mono k f]
 | .ask _,_,_,z=>by obtain⟨p,e,h⟩:=z;exact #[p,e,k _ _ h]
 | .rd _ _,_,_,z=>by obtain⟨p,e,h⟩:=z;exact #[p,e,k _ _ h]
 | .wr _ _,_,_,z=>by obtain⟨p,e,h⟩:=z;exact #[p,e,k _ _ h]
 | .cl _ _ _ _,_,_,z=>by obtain⟨p,c,g,e,S,E,a,b,d,f,j⟩:=z;exact #[p,c,g,e,S,E,k _ _ a,k _ _ b,k _ _ d,k _ _ f,gq.mono k j]
noncomputable def Sk.put(n:Int)(h:List Int)(W:Sk):Sk->Sk
 | .st a b c r=>.st a b c (Sk.put n h W r)
 |_=>.st n h W .nil
theorem xN{H:Hp}{n:Int}{a:List Int}{w:Sk}{p h:Addr}{u:V}(b:H p=some (.tup [.int n,.ref h,u]))(c:H h=some (.tup (a.map V.int)))(d:gq H w u []):∀{s:Sk} {x:List V},s.ok true->gq H s .non x->gq H (Sk.put n a w s) .non (x++[.ref p])
 | .nil,_,_,e=>by have e:_=[]:=e;rw[e];exact#[p,h,u,[],Z,b,c,d,Z]
 | .st _ _ _ r,_,o,z=>by obtain⟨f,g,U,y,e,i,j,k,l⟩:=z;rw[e];exact#[f,g,U,y++[.ref p],Z,i,j,k,xN b c d o.2 l]
theorem Zc{w:Sk}(h:w.ok false):∀{s:Sk},s.ok true->(Sk.put n H w s).ok true
 | .nil,_=>#[h,Gg]
 | .st _ _ _ _,o=>#[o.1,Zc h o.2]
theorem Xt{n:Int}{hs:List Int}{w:Sk}:∀{s:Sk},s.ok true->(Sk.put n hs w s).size=s.size+(w.size+1)
 | .nil,_=>by show w.size+0+1=0+(w.size+1);omega
 | .st _ _ c r,o=>by have:=Xt (n:=n) (hs:=hs) (w:=w) (s:=r) o.2;show c.size+(Sk.put n hs w r).size+1=c.size+r.size+1+(w.size+1);omega
theorem Zd{n:Int}{hs:List Int}{w:Sk}{j:Nat}(H:w.dep<=j):∀{s:Sk},s.ok true->s.dep<=j->(Sk.put n hs w s).dep<=j
 | .nil,_,_=>by show max w.dep 0<=j;omega
 | .st _ _ c r,o,h=>by have h:max c.dep r.dep<=j:=h;have:=Zd (n:=n) (hs:=hs) H (s:=r) o.2 MP;show max c.dep (Sk.put n hs w r).dep<=j;omega
theorem sO:∀{s:Sk} {x:List V},s.ok true->gq H s .non x->x.length<=s.size
 | .nil,_,_,e=>by have e:_=[]:=e;rw[e];exact Fz 0
 | .st _ _ w r,_,o,z=>by obtain⟨_,_,_,y,e,_,_,_,h⟩:=z;have:=sO o.2 h;rw[e];show y.length+1<=w.size+r.size+1;omega
def ni(H:Hp)(f:Str)(i:List Int)(s:Sk)(a:Int)(u:V):Prop:=∃c g e S,u= .ref c/\H c=some (.tup [.str f,.ref g,.ref e,.int a])/\H g=some (.tup (i.map V.int))/\H e=some (.tup S)/\gq H s .non S
noncomputable def Sk.wh:Sk->Wh
 | .ask b=>.ask b
 | .rd c i=>.rd c i
 | .wr c i=>.wr c i
 | .cl f I _ a=>.cl f I a
 |_=>.ask 0
theorem Du{s:Sk}(o:s.ok false)(h:gq H s u []):yk H u s.wh:=by
 cases s with
 |nil |st=>exact o.elim
 |ask b |rd c i |wr c i=>exact h
 |cl f I s a=>obtain⟨p,c,g,e,S,E,d,j,k,_⟩:=h;exact#[p,c,g,.ref e,E,d,j,k]
inductive Gd where
 |give (a:Int) |go (n:Nat) (hs:List Int)
noncomputable def fh(N:Nat->List Str)(k:aL):Gl->Gd
 | .give _ T=>.give (T.ev k)
 | .nought=>.give 0
 | .go n=>.go n ((N n).map λx=>look k (.inr x) 0)
structure ye where
 nm:List Str
 e:DD
 ws:List WD
structure dy where
 f:Str
 ps:List Str
 way:WD
 cs:List ye
structure Bv(H:Hp)(ys:List Str)(nA:Addr)(d:Df)(c:Ct)(cd:ye):Prop where
 nm:cd.nm=canon c.M
 ed:cd.e.dd=c.d
 dv:uo H ys cd.e
 cs:cd.e.Cs d.b.calls
 len:cd.ws.length=c.ws.length
 ws:∀(j:Nat) (w:Wy) (wd:WD),c.ws[j]?=some w->cd.ws[j]?=some wd->wd.wy nA=w/\ug H ys d.b.cuts d.b.size wd
structure uB(H:Hp)(nA:Addr)(d:Df)(ys:List Str)(pd:dy):Prop where
 f:pd.f=d.f
 ps:H d.pa=some (.tup (pd.ps.map V.str))
 wy:pd.way.wy nA=(gG nA d).1.w
 wv:ug H ys d.b.cuts d.b.size pd.way
 len:pd.cs.length=(bG nA d).length
 cs:∀(n:Nat) (c:Ct) (cd:ye),(bG nA d)[n]?=some c->pd.cs[n]?=some cd->Bv H ys nA d c cd
theorem Bv.mono(k:ai H f)(h:Bv H y n d c C):Bv f y n d c C:=#[h.nm,h.ed,h.dv.mono k,h.cs,h.len,λj w W a b=>let #[e,v]:=h.ws j w W a b;#[e,v.mono k]]
theorem uB.mono(k:ai H e)(h:uB H N d y p):uB e N d y p:=#[h.f,k _ _ h.ps,h.wy,h.wv.mono k,h.len,λn c C a b=>(h.cs n c C a b).mono k]
theorem uF{c d:Type}{R:c->d->Prop}:∀(l:List c),(∀a∈l,∃b,R a b)->∃m:List d,m.length=l.length/\∀(i:Nat) (a:c) (b:d),l[i]?=some a->m[i]?=some b->R a b
 | [],_=>#[[],Z,λi a b h=>by simp at h]
 |a::l,h=>by
  obtain⟨b,g⟩:=h a FX
  obtain⟨m,e,j⟩:=uF l λx k=>h x (Ge _ k)
  refine#[b::m,by rw[Gi,Gi,e],λi x y H f=>?_]
  cases i with
  |zero=>cases H;cases f;exact g
  |succ i=>exact j i x y (by simpa using H) (by simpa using f)
noncomputable def mn(p:dy)(n:Nat):List Str:=match p.cs[n]? with
 |some c=>c.nm
 |none=>[]
theorem uB.nms(h:uB H N d y p):dH N d=mn p:=by
 funext n
 unfold dH mn
 by_cases a:n < p.cs.length
 ·have b:n < (bG N d).length:=by rw[<- h.len];exact a
  rw[Fu a,Fu b]
  exact(h.cs n _ _ (Fu b) (Fu a)).nm.symm
 ·rw[Hc (Li a),Hc (by rw[<- h.len];exact Li a)]
inductive OW where
 |ok (w:Sk) (L:aL) (t:Nat) |long |deep
inductive OC where
 |ok (s:Sk) (a:Int) (L:aL) (t:Nat) |long |deep
noncomputable def OC.cons(n:Int)(h:List Int)(w:Sk):OC->OC
 | .ok s a L t=>.ok (.st n h w s) a L t
 | .long=>.long
 | .deep=>.deep
noncomputable def Sk.app:Sk->Sk->Sk
 | .st n h w r,s=>.st n h w (r.app s)
 |_,s=>s
noncomputable def OC.pre(S:Sk):OC->OC
 | .ok s a L t=>.ok (S.app s) a L t
 | .long=>.long
 | .deep=>.deep
theorem Xu:∀{s:Sk},s.ok true->s.app .nil=s
 | .nil,_=>rfl
 | .st n h w r,o=>by show Sk.st n h w (r.app .nil)=_;rw[Xu o.2]
theorem Ze{w:Sk}:∀{s:Sk},s.ok true->(Sk.put n h w s).app q=s.app (.st n h w q)
 | .nil,_=>rfl
 | .st a b c r,o=>by show Sk.st a b c ((Sk.put n h w r).app q)=Sk.st a b c (r.app (.st n h w q));rw[Ze o.2]
theorem rn{w s:Sk}(o:OC)(h:s.ok true):(o.cons n H w).pre s=o.pre (Sk.put n H w s):=by
 cases o with
 |ok q a L t=>show OC.ok (s.app (.st n H w q)) a L t= .ok ((Sk.put n H w s).app q) a L t;rw[Ze h]
 |long |deep=>rfl
abbrev ip:=Str->List Int->aL->Nat->OC
noncomputable def OC.cl(f:Str)(i:List Int):OC->OW
 | .ok s a L t=>.ok (.cl f i s a) L t
 | .long=>.long
 | .deep=>.deep
noncomputable def eK(call:ip)(C:aL)(k L:aL)(t:Nat)(e:DD):OW:=if t < 60 then match e with
 | .ask _ T=>.ok (.ask (if T.ev k=0 then 0 else 1)) L (t+1)
 | .st _ (.rd _ _ T)=>.ok (.rd (T.ev k) (look L (.inl (T.ev k)) (look C (.inl (T.ev k)) 0))) L (t+1)
 | .st _ (.wr _ _ T U)=>.ok (.wr (T.ev k) (U.ev k)) (aM L (.inl (T.ev k)) (.int (U.ev k))) (t+1)
 | .st _ (.cl _ f _ a)=>(call f (a.map λc=>c.2.ev k) L (t+1)).cl f (a.map λc=>c.2.ev k)
 |_=>.long
 else .long
theorem Zf{call:ip}(h:¬t < 60):eK call C k L t e= .long:=by unfold eK;rw[FV h]
theorem Kj{call:ip}(h:t < 60):eK call C k L t (.ask p T)= .ok (.ask (if T.ev k=0 then 0 else 1)) L (t+1):=by unfold eK;rw[FQ h]
theorem Q7{call:ip}(h:t < 60):eK call C k L t (.st p (.rd x a T))= .ok (.rd (T.ev k) (look L (.inl (T.ev k)) (look C (.inl (T.ev k)) 0))) L (t+1):=by unfold eK;rw[FQ h]
theorem Q8{call:ip}(h:t < 60):eK call C k L t (.st p (.wr a b T U))= .ok (.wr (T.ev k) (U.ev k)) (aM L (.inl (T.ev k)) (.int (U.ev k))) (t+1):=by unfold eK;rw[FQ h]
theorem JC{call:ip}(h:t < 60):eK call C k L t (.st p (.cl x f q T))=(call f (T.map λc=>c.2.ev k) L (t+1)).cl f (T.map λc=>c.2.ev k):=by unfold eK;rw[FQ h]
noncomputable def oA(p:dy)(c:ye)(h:List Int)(w:Wh):Gd:=match c.ws[w.side]? with
 |some W=>fh (mn p) (cp W.sets (n8 c.e w (aR c.nm h))) W.goal
 |none=>.give 0
noncomputable def eU(call:ip)(C:aL)(p:dy):Nat->Gd->aL->Nat->OC
 |0,_,_,_=>.long
 |_+1,.give a,L,t=>.ok .nil a L t
 |m+1,.go n h,L,t=>match p.cs[n]? with
  |none=>.long
  |some c=>match eK call C (aR c.nm h) L t c.e with
   | .ok w l T=>(eU call C p m (oA p c h w.wh) l T).cons (n:Int) h w
   | .long=>.long
   | .deep=>.deep
noncomputable def dU:List dy->Str->Option dy
 | [],_=>none
 |p::r,f=>if p.f=f then some p else dU r f
theorem Zg:∀{b:List dy} {i:Nat} {a:dy},b[i]?=some a->(∀(j:Nat) (p:dy),j < i->b[j]?=some p->p.f≠a.f)->dU b a.f=some a
 | [],i,a,h,_=>by simp at h
 |p::r,0,a,h,_=>by cases h;show(if p.f=p.f then some p else _)=_;rw[FQ Z]
 |p::r,i+1,a,h,k=>by
  show(if p.f=a.f then some p else dU r a.f)=_
  rw[FV (k 0 p (Nat.succ_pos _) Z)]
  exact Zg (i:=i) (by simpa using h) λj q H c=>k (j+1) q (Nat.succ_lt_succ H) (by simpa using c)
noncomputable def a5(p:List dy)(C:aL):Nat->ip
 |0=>λ_ _ _ _=>.deep
 |j+1=>λf i L t=>match dU p f with
  |none=>.long
  |some a=>eU (a5 p C j) C a 62 (fh (mn a) (cp a.way.sets (aR a.ps i)) a.way.goal) L t
structure Ps(H:Hp)(nA pA:Addr)(ds:List Df)(ns:List Nat)(xs:List V)(pds:List dy):Prop where
 at':H pA=some (.tup xs)
 tr:aS H (aJ (ds.map (eM nA))) .non xs
 dv:∃zs,cw H ds zs
 ok:oB ds ns
 pa:lD H ds ns
 dl:pds.length=ds.length
 pr:∀(i:Nat) (d:Df) (pd:dy),ds[i]?=some d->pds[i]?=some pd->∃ys,(d.b.Ok ys/\ys.length<=20)/\uB H nA d ys pd
theorem Ps.mono(h:Ps H n c D N x p)(k:ai H e):Ps e n c D N x p:=#[k _ _ h.at',h.tr.mono k,let #[f,z]:=h.dv;#[f,z.mono k],h.ok,h.pa.mono k,h.dl,λi d g a b=>let #[Y,y,r]:=h.pr i d g a b;#[Y,y,r.mono k]]
theorem Zh(h:aS H (eM n d) v []):Bx H v d.f:=by
 obtain⟨_,a,x,rfl,b,_,_,Y,y,rfl,⟨rfl,_⟩,_⟩:=h
 exact#[a,_,Z,b]
theorem oW:∀{D:List Df} {z:List V},cw H D z->∀{i:Nat} {d:Df},D[i]?=some d->∃B,dw H d.b B
 |_::_,_,#[u,r,e,#[B,_,_,_,h],c],0,d,a=>by cases a;exact#[B,h]
 |_::_,_,#[u,r,e,_,c],i+1,d,a=>oW c (by simpa using a)
section
variable {H:Hp}{nA pA:Addr}{ds:List Df}{ns:List Nat}{xs:List V}{pds:List dy}
theorem Ps.part(h:Ps H nA pA ds ns xs pds){i:Nat}{d:Df}{v:V}(b:ds[i]?=some d)(q:xs[i]?=some v):∃y c,lv H nA d y v/\pds[i]?=some c/\uB H nA d y c/\dU pds d.f=some c:=by
 obtain⟨T,n,t⟩:=qJ h.tr i v q
 rw[FT,b]at n
 cases n
 obtain⟨z,r⟩:=h.dv
 obtain⟨_,_,s⟩:=(h.ok.1 d (F' b)).1
 have u:i < ds.length:=(List.getElem?_eq_some_iff.mp b).1
 have g:pds[i]?=some (pds[i]'(by rw[h.dl];exact u)):=Fu _
 obtain⟨y,⟨O,Y⟩,k⟩:=h.pr i d _ b g
 refine#[y,_,#[t,oW r b,O,Y,s],g,k,?_]
 rw[<- k.f]
 refine Zg g λj p A l e=>?_
 have a:j < ds.length:=by omega
 obtain⟨_,_,m⟩:=h.pr j _ p (Fu a) l
 rw[m.f,k.f]at e
 have x:(ds.map Df.f)[j]?=some (ds[j]).f:=by rw[FT,Fu a];rfl
 have o:(ds.map Df.f)[i]?=some d.f:=by rw[FT,b];rfl
 rw[<- e]at o
 have:=(List.getElem?_inj (by rw[Fy];exact a) h.ok.2.1).mp (x.trans o.symm)
 omega
theorem Ps.cs(h:Ps H nA pA ds ns xs pds){i:Nat}{d:Df}(a:ds[i]?=some d):∀f∈d.b.calls,f∈(ds.map Df.f).zip ns:=zB (h.ok.1 d (F' a)).2
theorem Ps.at(h:Ps H nA pA ds ns xs pds){i:Nat}{d:Df}(b:ds[i]?=some d):∃v,xs[i]?=some v/\aS H (eM nA d) v []/\Bx H v d.f/\∀j x,j < i->xs[j]?=some x->∃g,Bx H x g/\g≠d.f:=by
 have L:=kY h.tr
 rw[Fy]at L
 have r:i < ds.length:=(List.getElem?_eq_some_iff.mp b).1
 have t:∀(j:Nat) (x:V),xs[j]?=some x->∃c,ds[j]?=some c/\aS H (eM nA c) x []:=λj x k=>by
  obtain⟨s,m,t⟩:=qJ h.tr j x k
  rw[FT]at m
  obtain⟨c,a,rfl⟩:=Option.map_eq_some_iff.mp m
  exact#[c,a,t]
 have n:xs[i]?=some (xs[i]'MP):=Fu MP
 obtain⟨c,a,T⟩:=t _ _ n
 rw[b]at a
 cases a
 refine#[_,n,T,Zh T,λj x u k=>?_]
 obtain⟨c,a,q⟩:=t j x k
 refine#[c.f,Zh q,λe=>?_]
 have o:(ds.map Df.f)[j]?=some c.f:=by rw[FT,a];rfl
 have p:(ds.map Df.f)[i]?=some d.f:=by rw[FT,b];rfl
 rw[<- e]at p
 have l:j < (ds.map Df.f).length:=(List.getElem?_eq_some_iff.mp o).1
 have:=(List.getElem?_inj l h.ok.2.1).mp (o.trans p.symm)
 omega
theorem Ps.find(h:Ps H nA pA ds ns xs pds)(a:(f,n)∈(ds.map Df.f).zip ns):∃(i:Nat) (d:Df),ds[i]?=some d/\ns[i]?=some n/\d.f=f:=by
 obtain⟨i,b,e⟩:=List.mem_iff_getElem.mp a
 have E:((ds.map Df.f).zip ns)[i]?=some (f,n):=by rw[<- e];exact Fu b
 rw[Mz]at E
 rw[FT]at E
 obtain⟨d,c,g⟩:=Option.map_eq_some_iff.mp E.1
 exact#[i,d,c,E.2,g]
end
theorem Rn.tm(h:Rn H C r d c l p m t L f)(k:a7 r l H a):ai H a:=λb x e=>k b _ (jO e h.ins (by intro z;cases z)) (jO e h.lf (by intro z;cases z)) e
theorem Rn.same(h:Rn H C r d c l p m t L a)(s:ae H b):Rn b C r d c l p m t L a:=#[s _ _ h.ins,s _ _ h.lf,s _ _ h.ce,h.iL,h.iC,h.cl]
theorem Rn.rl(h:Rn H C r d c l p m t L a):r≠l/\r≠c:=#[jO h.ins h.lf (by intro z;cases z),jO h.ins h.ce (by intro z;cases z)]
def Bw(r l:Addr)(H h:Hp):Prop:=∀b o,b≠r->b≠l->NX o->H b=some o->h b=some o
theorem Fl.next(h:Fl E L (Bw r l H)):Fl (ny E) L (Bw r l H):=λd i k x T t c e a j f=>by
 cases e
 exact h d _ λb o N g n e=>JX (H:=H) (k b o N g n e) n a f
theorem Fl.nextK(h:Fl E L (Kp H)):Fl (ny E) L (Kp H):=λd g k x T t c e a i f=>by
 cases e
 exact h d _ λb o n e=>JX (H:=H) (k b o n e) n a f
theorem Fl.mono{R S:Hp->Prop}(h:Fl E L R)(k:∀H,S H->R H):Fl E L S:=λd H s=>h d H (k H s)
def mV(C:Addr):Sp:=λv H Q _=>∃(r d p c:Addr) (m:Int),v=[.ref r,.ref p,.ref c,.int m]/\H r=some (.ins C d [])/\∀l,H l=none->Q .non (af (af H l (.dK [])) r (.ins C d (gR c l p m 0)))
def mf(A B:Prop)(E:XK)(T t:Addr)(R:Hp->Prop):Prop:=(A->Fl E T R)/\(B->Fl E t R)
theorem mf.mono{R S:Hp->Prop}(h:mf A B E T t R)(k:∀H,S H->R H):mf A B E T t S:=#[λa=>(h.1 a).mono k,λb=>(h.2 b).mono k]
theorem mf.next(h:mf A B E T t (Bw r l H)):mf A B (ny E) T t (Bw r l H):=#[λa=>(h.1 a).next,λb=>(h.2 b).next]
theorem mf.imp{R:Hp->Prop}(h:mf A B E T t R)(a:c->A)(b:d->B):mf c d E T t R:=#[λx=>h.1 (a x),λx=>h.2 (b x)]
def dZ(C T o N:Addr)(j:Nat):Sp:=λq H Q E=>∃(r g k l b A:Addr) (D t i:Nat) (L c:aL) (v:V) (d:Df) (m:List Df) (n:List Nat) (x:List V) (p:List dy) (I:List Int),q=[.ref r,v,.ref A,.int (D:Int)]/\D+j=16/\1<=j/\Rn H C r g k l b 60 t L c/\L.length<=t/\t<=60/\Ps H N b m n x p/\m[i]?=some d/\n[i]?=some I.length/\x[i]?=some v/\H A=some (.tup (I.map V.int))/\(∀z∈I,eQ z)/\
 (∀(u:V) (s:Sk) (a:Int) (e:aL) (h:Hp),a5 p c j d.f I L t= .ok s a e (t+s.size)->ni h d.f I s a u->s.ok true->s.dep+1<=j->eQ a->Rn h C r g k l b 60 (t+s.size) e c->e.length<=t+s.size->t+s.size<=60->a7 r l H h->Q u h)/\mf (a5 p c j d.f I L t= .long) (a5 p c j d.f I L t= .deep) E T o (Bw r l H)
def sY(C T m N:Addr)(j:Nat):Sp:=λo H Q E=>∃(r D g l a:Addr) (d t:Nat) (L c k:aL) (u:V) (e:DD) (y:List Str) (i:List Df) (n:List Nat) (x:List V) (p:List dy),o=[.ref r,u,.int (d:Int)]/\d+j=15/\Rn H C r D g l a 60 t L c/\L.length<=t/\t<=60/\Ps H N a i n x p/\aS H (DI k e) u []/\uo H y e/\GT k/\e.Cs ((i.map Df.f).zip n)/\
 (∀(w:Sk) (v:V) (b:aL) (h:Hp),eK (a5 p c j) c k L t e= .ok w b (t+1+w.size)->gq h w v []->w.ok false->BF e w.wh->w.dep<=j->Rn h C r D g l a 60 (t+1+w.size) b c->b.length<=t+1+w.size->t+1+w.size<=60->a7 r l H h->Q v h)/\mf (eK (a5 p c j) c k L t e= .long) (eK (a5 p c j) c k L t e= .deep) E T m (Bw r l H)
theorem A7:al ["self","parts","cells","most"] ["self","parts","cells","most"] (aa rM):=bP
theorem vG{cf:FuncData}(F:aU K "__init__" "BookRun.__init__" rM f p)(i:RK K C)(GT:ah P w K mg base aE 1 t cf ["self","cells","most"] (mX C))(B:ay K cf ["self","cells","most"] [])(M:mg "Turns"=some (.ref T))(u:yd K T "__init__" t):ah P w K mg base aE 2 f p ["self","parts","cells","most"] (mV C):=by
 refine F.ok A7 ?_ λv A o s H V Q E x h=>?_
 ·rintro _ _ _ _ ⟨r,d,y,j,m,rfl,_⟩
  rfl
 refine aZ λG k=>?_
 obtain⟨r,d,y,j,m,rfl,c,q⟩:=h
 refine k ?_
 clear k
 refine#[_,(jd (jT (@vS _ _ _ _ _ _ _ _ _ _ _ _ _ _ _ _ _ _ _ _ Z M u GT x.m B .nil bL (ja (pv 0) (ja (pv 2) (ja (pv 3) jb))) MO MT MT MT)) (jg (@qI _ _ _ _ _ _ _ _ (pv 0) (pv 1) Z))),?_]
 refine aj λz l=>#[_,Z,_,Z,_,Z,r,d,j,m,Z,c,λL N=>l _ _ ?_]
 clear l
 refine#[_,Z,_,Z,r,C,d,_,Z,jc,i.cl,i.n5,(by show 4 < 1000;decide),?_]
 have e:∀(g:Hp) (n O:HO),af (af g r n) r O=af g r O:=λg n O=>by
  funext b
  by_cases a:b=r
  ·rw[a,jc,jc]
  ·rw[jk a,jk a,jk a]
 rw[e]
 exact q L N
theorem JY(h:aS H (aQ t) u []):∃a x,u= .ref a/\H a=some (.tup x)/\aS H (aJ t) .non x:=let #[_,a,x,e,b,c]:=h;#[a,x,e,b,c]
theorem zW(h:aS H (aJ (t::T)) .non x):∃y Y,x=y::Y/\aS H t y []/\aS H (aJ T) .non Y:=let #[_,_,y,Y,e,a,b]:=h;#[y,Y,e,a,b]
theorem Zi(h:aS H (a9 x) y []):y= .str x:=h.1
theorem JZ(h:aS H (aB n) y []):y= .int n:=h.1
theorem Kr:∀{I:List Int} {v:List V},aS H (aJ (I.map aB)) .non v->v=I.map V.int
 | [],v,h=>h
 |i::I,v,h=>by obtain⟨y,Y,rfl,a,b⟩:=zW h;rw[JZ a,Kr b];rfl
theorem QR{H:Hp}{w:Str}{t:List Tr}{u:V}(h:aS H (aQ (a9 w::t)) u []):∃a x,u= .ref a/\H a=some (.tup (.str w::x))/\aS H (aJ t) .non x:=by
 obtain⟨a,x,rfl,b,h⟩:=JY h
 obtain⟨y,Y,rfl,c,d⟩:=zW h
 rw[Zi c]at b
 exact#[a,Y,Z,b,d]
theorem QH{H:Hp}{w:Str}{i:Int}{u:V}(h:aS H (aQ [a9 w,aB i]) u []):∃a,u= .ref a/\H a=some (.tup [.str w,.int i]):=by
 obtain⟨a,x,rfl,b,h⟩:=QR h
 obtain⟨y,Y,rfl,c,d⟩:=zW h
 have e:Y=[]:=d
 rw[JZ c,e]at b
 exact#[a,Z,b]
theorem tU{H:Hp}{w:Str}{i:Int}{t:Tr}{u:V}(h:aS H (aQ [a9 w,aB i,t]) u []):∃a y,u= .ref a/\H a=some (.tup [.str w,.int i,y])/\aS H t y []:=by
 obtain⟨a,x,rfl,b,h⟩:=QR h
 obtain⟨y,Y,rfl,c,d⟩:=zW h
 obtain⟨z,f,rfl,g,j⟩:=zW d
 have e:f=[]:=j
 rw[JZ c,e]at b
 exact#[a,z,Z,b,g]
theorem C0:al ["self","deed","deep"] ["self","deed","deep"] (aa wg):=bP
theorem Ac{cf:FuncData}(F:aU K "what_of" "BookRun.what_of" wg f fd)(ck:RK K C)(GT:ah P w K mg base (eO P w) 1 fT cf ["self"] (lg C TL))(bT:ay K cf ["self"] [])(m0:ci K C "take_turn" fT)(GI:ah P w K mg base aE 1 fI f0 ["self","cell"] (gO C))(bI:ay K f0 ["self","cell"] [])(m1:ci K C "number_in" fI)(GD:ah P w K mg base (eO P w) 1 fD f2 ["deep"] (fX TD))(bD:ay K f2 ["deep"] [])(kD:keepIn K (.ref fD)=true)(mD:mg "deeper"=some (.ref fD))(cP:Cl P w K mg base 2 fP f5 ["parts","f"] lM "part_of")(GC:ah P w K mg base (eO P w) (2*j+12) fC f3 ["self","part","args","deep"] (dZ C TL TD nA j))(bC:ay K f3 ["self","part","args","deep"] [])(m2:ci K C "chain_of" fC):ah P w K mg base (eO P w) (2*j+13) f fd ["self","deed","deep"] (sY C TL TD nA j):=by
 refine F.ok1 C0 ?_ λc5 A o2 s H vs Q E hr h=>?_
 ·rintro _ _ _ _ ⟨r,D,W,I,O,M,t,L,Cs,k,u,e,ys,ds,ns,X,p1,rfl,_⟩
  rfl
 refine aZ λGq kq=>?_
 obtain⟨r,D,W,I,O,M,t,L,Cs,k,u,e,ys,ds,ns,X,p1,rfl,h4,J,h5,ht,hP,B,h0,hk,h1,q,t0⟩:=h
 refine kq ?_
 clear kq
 refine#[_,(jd (jT (rf (pv 0) ck.cl m0 GT hr.m bT .nil zQ)) (jd (jx (jZ (jy (pv 1))) (jg (jo (jh (ja jl (ja (jy (pv 1)) (ja (kQ (pv 0) ck.cl m1 GI hr.m bI .nil bL (ja (jy (pv 1)) jb)) jb)))))) jp) (jd (jx (jZ (jy (pv 1))) (jg (jo (jh (ja jl (ja (kQ (pv 0) ck.cl m2 GC hr.m bC .nil zQ (ja (cP.e hr.m (ja (zo (pv 0) Z) (ja (jy (pv 1)) jb))) (ja (jy (pv 1)) (ja (kA GD hr.m Z mD kD bD .nil zQ (ja (pv 2) jb)) jb)))) jb))))) jp) (jd (jx (jZ (jy (pv 1))) (jg (zH (kU hr) (zo (pv 0) Z) (jy (pv 1)) (jy (pv 1)) Z)) jp) (jg (jo (pv 1))))))),?_]
 have b0:=aN
 refine aj λY n=>#[_,Z,r,D,_,Z,J.ins,Z,r,D,W,I,O,60,t,Z,J.ins,λlt=>n _ _ ?_,λge=>((t0.1 (Zf MP)).mono λH' kk=>λb o _ _ nx e=>kk b o nx e).nextK]
 clear n
 have t1:ai H (af H r (.ins C D (gR W I O 60 (t+1)))):=λb X e=>by rw[jk (jO e J.ins (by intro z;cases z))];exact e
 have R:Rn (af H r (.ins C D (gR W I O 60 (t+1)))) C r D W I O 60 (t+1) L Cs:=#[jc,by rw[jk J.rl.1.symm];exact J.lf,by rw[jk J.rl.2.symm];exact J.ce,J.iL,J.iC,J.cl]
 have k1:a7 r I H (af H r (.ins C D (gR W I O 60 (t+1)))):=λb o n1 n2 e=>by rw[jk n1];exact e
 generalize af H r (.ins C D (gR W I O 60 (t+1)))=H1 at t1 R k1
 have B:=B.mono t1
 have lt':t+1<=60:=by omega
 have f4:∀(w:Sk) (X:List V) (S:Hp) (v:Addr),S v=none->gq (af S v (.tup X)) w (.ref v) []->w.ok false->eK (a5 p1 Cs j) Cs k L t e= .ok w L (t+1)->BF e w.wh->w.size=0->w.dep<=j->H1=S->Q (.ref v) (af S v (.tup X)):=λw X S v nv hw ok eq ft sz dp e2=>by
  subst e2
  exact q w _ L _ (by rw[sz];exact eq) hw ok ft dp (by rw[sz];exact R.same (je nv)) MP MP (k1.trans (a7.of_same (je nv)))
 cases e with
 |ask ta T=>
  obtain⟨p,rfl,G⟩:=QH B
  refine aj λY n=>(jq G Z #[Z,_,Z,aO MS (n _ _ ?_)])
  clear n
  refine aj λY n=>(jq G Z #[Z,_,Z,aO MS (n _ _ ?_)])
  clear n
  refine aj λY n=>(jq G Z #[Z,_,Z,aO MS (n _ _ ?_)])
  clear n
  refine#[_,Z,q (.ask (if T.ev k=0 then 0 else 1)) _ L _ (Kj MP) #[p,Z,G] Gg ?_ (FN _) R (by show L.length<=t+1+0;omega) lt' k1]
  show(if T.ev k=0 then (0:Int) else 1)=0∨(if T.ev k=0 then (0:Int) else 1)=1
  split
  ·exact .inl Z
  ·exact .inr Z
 |st p0 l=>
  obtain⟨vs,_,h6,o1,c0⟩:=h0
  cases l with
  |gv ta T |st x ta T=>cases c0
  |rd x ta T=>
   obtain⟨p,rfl,G⟩:=QH B
   refine aj λY n=>(jq G Z #[Z,_,Z,cq MS (jq G Z #[_,Z,r,D,_,Z,R.ins,Z,jq G Z #[r,D,W,I,O,60,_,_,_,_,Z,R,gm,λv nv=>?_]])])
   exact f4 (.rd (T.ev k) (look L (.inl (T.ev k)) (look Cs (.inl (T.ev k)) 0))) _ _ v nv #[v,Z,jc] Gg (Q7 MP) (qv R.iL (qv R.iC qW)) Z (FN _) Z
  |wr ta ub T U=>
   obtain⟨p,y,rfl,G,hy⟩:=tU B
   rw[JZ hy]at G
   refine aj λY n=>(jq G Z #[Z,_,Z,aO MS (n _ _ ?_)])
   clear n
   refine aj λY n=>(jq G Z #[Z,_,Z,aO MS (n _ _ ?_)])
   clear n
   refine aj λY n=>(jq G Z #[Z,_,Z,cq MS (jq G Z #[_,Z,r,C,D,_,_,Z,R.ins,ck.cl,ck.n3,Z,jq G Z #[I,_,Z,iw.k (k:=.inl (T.ev k)) R.lf MP,n _ _ ?_]])])
   clear n
   have pl:=zC (kvs:=L) (k:=.inl (T.ev k)) (v:=.int (U.ev k))
   have t3:ai H1 (af H1 I (.dK (aM L (.inl (T.ev k)) (.int (U.ev k))))):=λb X e=>by rw[jk (jO e R.lf (by intro z;cases z))];exact e
   refine#[_,Z,q (.wr (T.ev k) (U.ev k)) _ (aM L (.inl (T.ev k)) (.int (U.ev k))) _ (Q8 MP) #[p,Z,t3 _ _ G] Gg Gg (FN _) #[by rw[jk J.rl.1];exact R.ins,jc,by rw[jk J.cl];exact R.ce,R.iL.put _ (qy hk o1.2.1),R.iC,R.cl] (by show _<=t+1+0;omega) lt' λb o n1 n2 e=>?_]
   rw[jk n2]
   exact k1 b o n1 n2 e
  |cl x f q' ts=>
   obtain⟨p,y3,rfl,G,hy⟩:=QR B
   obtain⟨y1,y4,rfl,e1,hy⟩:=zW hy
   obtain⟨y2,y0,rfl,e2,hy⟩:=zW hy
   have e3:y0=[]:=hy
   subst e3
   rw[Zi e1]at G
   obtain⟨ag,a0,rfl,ha,N⟩:=JY e2
   have N:aS H1 (aJ ((ts.map λc=>c.2.ev k).map aB)) .non a0:=by rw[Ix];exact N
   rw[Kr N]at ha
   obtain⟨i,d,hd,hn,rfl⟩:=hP.find h1
   have P1:=hP.mono t1
   obtain⟨v,hv,_,h2,h3⟩:=P1.at hd
   refine aj λY n=>(jq G Z #[Z,_,Z,aO MS (n _ _ ?_)])
   clear n
   refine aj λY n=>(jq G Z #[Z,_,Z,cq MS ?_])
   clear n
   refine#[_,Z,r,D,_,Z,R.ins,Z,_,Z,r,C,D,_,_,Z,R.ins,ck.cl,ck.n5,Z,jq G Z #[O,d.f,X,i,v,Z,P1.at',hv,h2,h3,jq G Z #[_,Z,(M:Int),Z,λdl=>?_,λdg=>((t0.2 (by have z:j=0:=MP;rw[JC MP,z];rfl)).mono λS kk=>λb o n1 n2 nx e=>kk b o nx (k1 b o n1 n2 e)).nextK]]]
   refine#[r,D,W,I,O,ag,M+1,t+1,i,L,Cs,v,d,ds,ns,X,p1,ts.map λc=>c.2.ev k,Z,MP,MP,R,MP,lt',P1,hd,by rw[Fy];exact hn,hv,ha,λz hz=>?_,λu sk a L' S eq hc ok dp ia R2 l2 t2 k2=>?_,mf.next ((t0.imp (λz=>by rw[JC MP,z];rfl) (λz=>by rw[JC MP,z];rfl)).mono λS kk=>λb o n1 n2 nx e=>kk b o n1 n2 nx (k1 b o n1 n2 e))]
   ·obtain⟨c,hc,rfl⟩:=List.mem_map.mp hz
    exact qy hk (o1.2.2 c hc).1
   ·obtain⟨c,g,ee,ss,rfl,c1,c2,c3,c4⟩:=hc
    refine#[bX,λv2 nv=>?_]
    have s2:ae S (af S v2 (.tup [.str "call",.ref c])):=je nv
    refine q (.cl d.f (ts.map λc=>c.2.ev k) sk a) _ L' _ (by rw[JC MP,eq];rfl) #[v2,c,g,ee,ss,Z,jc,s2 _ _ c1,s2 _ _ c2,s2 _ _ c3,c4.mono (ae.tm s2)] ok ia (by show sk.dep+1<=j;omega) (R2.same s2) l2 t2 ((k1.trans k2).trans (a7.of_same s2))
theorem yo:dF (s++[x]) (-1)=some x:=by
 have l:(s++[x]).length=s.length+1:=by rw[FD];rfl
 unfold dF mj
 rw[l,FV MP,FQ MP]
 have e:(-1+((s.length+1:Nat):Int)).toNat=s.length:=by omega
 show(s++[x])[(-1+((s.length+1:Nat):Int)).toNat]?=_
 rw[e]
 simp
inductive xh(H:Hp)(nA:Addr)(d:Df)(u:V):Gd->Prop
 |give (p:Addr) (a:Int) (e:u= .ref p) (h:H p=some (.tup [.str "give",.int a])) (i:eQ a):xh H nA d u (.give a)
 |go (p hv:Addr) (n:Nat) (c:Ct) (is:List Int) (e:u= .ref p) (h:H p=some (.tup [.str "go",.int (n:Int),.ref hv])) (h2:H hv=some (.tup (is.map V.int))) (hc:(bG nA d)[n]?=some c) (hl:is.length=(canon c.M).length) (hi:∀i∈is,eQ i):xh H nA d u (.go n is)
theorem xh.mono(k:ai H b)(h:xh H N d u g):xh b N d u g:=by
 cases h with
 |give p a e h i=>exact .give p a e (k _ _ h) i
 |go p f n c I e h j l m o=>exact .go p f n c I e (k _ _ h) (k _ _ j) l m o
theorem QI{H:Hp}(h:aS f (pG (dH N d) k g) u [])(j:GT k)(l:BG H Y d.b.cuts g):xh f N d u (fh (dH N d) k g):=by
 cases g with
 |give t T=>obtain⟨p,e,h⟩:=QH h;exact .give p _ e h (qy j l.2.1)
 |nought=>obtain⟨p,e,h⟩:=QH h;exact .give p 0 e h qW
 |go n=>
  obtain⟨p,y,e,h,q⟩:=tU h
  obtain⟨a,X,rfl,m,c⟩:=JY q
  have r:n < (bG N d).length:=by rw[Y8];exact l
  have o:(bG N d)[n]?=some (bG N d)[n]:=Fu r
  have c:aS f (aJ (((dH N d n).map λx=>look k (.inr x) 0).map aB)) .non X:=by rw[Ix];exact c
  rw[Kr c]at m
  refine .go p a n _ _ e h m o (by rw[Fy,pK o]) λi s=>?_
  obtain⟨x,_,rfl⟩:=List.mem_map.mp s
  exact qv j qW
inductive CI(call:ip)(pd:dy)(tot:OC)(C r dx cA lA pA ag sl nA:Addr)(deep t j:Nat)(Cs:aL)(v:V)(d:Df)(H:Hp)(kk:Nat)(σ:L2.St)(H':Hp):Prop
 |mk (o6:Option V) (u:V) (g:Gd) (m:Nat) (sk:Sk) (ss:List V) (L:aL) (e0:σ=[some (.ref r),some v,some (.ref ag),some (.int (deep:Int)),some (.ref sl),some u,o6]) (e1:H' sl=some (.lst ss)) (e2:gq H' sk .non ss) (e3:sk.ok true) (e4:sk.dep+1<=j) (e5:xh H' nA d u g) (e6:Rn H' C r dx cA lA pA 60 (t+sk.size) L Cs) (e7:L.length<=t+sk.size) (e8:t+sk.size<=60) (e9:a7 r lA H H') (e10:kk+t+sk.size=61) (e11:(eU call Cs pd m g L (t+sk.size)).pre sk=tot) (e12:62<=m+(t+sk.size)):CI call pd tot C r dx cA lA pA ag sl nA deep t j Cs v d H kk σ H'
theorem lH:al ["self","part","args","deep","steps","goal","what"] ["self","part","args","deep"] (aa wf):=bP
theorem y9(F:aU K "chain_of" "BookRun.chain_of" wf f fd)(ck:RK K C)(cF:Cl P w K mg base 9 fF f2 ["part","args"] (eh nA) "first_of")(cD:Cl P w K mg base 9 fD f3 ["part","n","held"] (d9 nA) "deed_at")(cO:Cl P w K mg base 9 fO f4 ["part","step"] (oq nA) "onward")(GW:ah P w K mg base (eO P w) (2*j+13) fW f0 ["self","deed","deep"] (sY C TL TD nA j))(bW:ay K f0 ["self","deed","deep"] [])(m0:ci K C "what_of" fW)(m1:mg "tuple"=none):ah P w K mg base (eO P w) (2*j+14) f fd ["self","part","args","deep"] (dZ C TL TD nA (j+1)):=by
 refine F.ok1 lH ?_ λc3 A o2 s H vs Q E hr h=>?_
 ·rintro _ _ _ _ ⟨r,dx,cA,lA,pA,ag,U,t,i,L,y,v,d,ds,ns,xs,x,is,rfl,_⟩
  rfl
 refine aZ λGq kq=>?_
 obtain⟨r,dx,cA,lA,pA,ag,U,t,i,L,y,v,d,ds,ns,xs,x,is,rfl,b5,_,hR,a0,ht,hP,hd,hn,hv,ha,h3,q,t4⟩:=h
 refine kq ?_
 clear kq
 refine#[_,(jd (jA 4 lH.nd (jF jb)) (jd (jA 5 lH.nd (cF.e hr.m (ja (pv 1) (ja (pv 2) jb)))) (jd (Xa PassesOwn.leaving (jZ (jy (pv 5))) (jd (jA 6 lH.nd (kQ (pv 0) ck.cl m0 GW hr.m bW .nil zQ (ja (cD.e hr.m (ja (pv 1) (ja (jy (pv 5)) (ja (jy (pv 5)) jb)))) (ja (pv 3) jb)))) (jd (jT (kN PySem.F.plainAttrs_list PySem.F.slot_list_append PySem.F.type_list_append jR (pv 4) (ja (jh (ja (jy (pv 5)) (ja (jy (pv 5)) (ja (pv 6) jb)))) jb))) (jg (jA 5 lH.nd (cO.e hr.m (ja (pv 1) (ja (jv jr (pv 4) (xM tQ jf) (λ_ _=>Z)) jb)))))))) (jg (jo (jh (ja (jy (pv 1)) (ja (pv 2) (ja (jE jH Z m1 boot_tuple (ja (pv 4) jb)) (ja (jy (pv 5)) jb)))))))))),?_]
 have b9:=aN
 obtain⟨ys,g,h1,b',pr,a1⟩:=hP.part hd hv
 obtain⟨ps,h4,a2,a3⟩:=hP.pa.2 i d _ hd hn
 have e3:ps=g.ps:=by
  have z:=h4.symm.trans pr.ps
  injection z with z
  injection z with z
  exact(List.map_inj_right λa b e=>by injection e).mp z
 subst e3
 have e0:a5 x y (j+1) d.f is L t=eU (a5 x y j) y g 62 (fh (mn g) (cp g.way.sets (aR g.ps is)) g.way.goal) L t:=by
  show(match dU x d.f with |none=>OC.long |some g=>eU (a5 x y j) y g 62 (fh (mn g) (cp g.way.sets (aR g.ps is)) g.way.goal) L t)=_
  rw[a1]
 generalize a5 x y (j+1) d.f is L t=X at q t4 e0
 refine aj λF1 J=>#[lW,λS Y=>J _ _ ?_]
 clear J
 have s1:ae H (af H S (.lst [])):=je Y
 have l1:af H S (.lst []) S=some (.lst []):=jc
 generalize af H S (.lst [])=H1 at s1 l1 ⊢
 have e4:=pr.wy
 have h2:=pr.wv
 refine aj λF1 J=>#[_,Z,_,Z,v,ag,d,ys,g.ps,is,g.way,Z,h1.mono (ae.tm s1),s1 _ _ h4,MP,s1 _ _ ha,a2.symm,h3,e4,h2.mono (ae.tm s1),λu H2 hu s2=>J _ _ ?_]
 clear J
 have S2:=s1.trans s2
 have gz:GT (aR g.ps is):=qk h3
 have g0:=QI (H:=H) hu (zV h2.sets gz) h2.goal
 rw[pr.nms]at g0
 have s0:S≠r:=Ne.symm (jm hR.ins Y)
 have s3:S≠lA:=Ne.symm (jm hR.lf Y)
 have s9:cA≠S:=jm hR.ce Y
 refine aj λF1 J=>?_
 refine tY (CI (a5 x y j) g X C r dx cA lA pA ag S nA U t (j+1) y v d H) (61 - t) #[none,u,_,62,.nil,[],L,Z,s2 _ _ l1,Z,trivial,by show 0+1<=j+1;omega,g0,hR.same S2,a0,ht,a7.of_same S2,by show 61 - t+t+0=61;omega,by rw[e0];show OC.pre .nil (eU (a5 x y j) y g 62 _ L t)=_;cases eU (a5 x y j) y g 62 (fh (mn g) (cp g.way.sets (aR g.ps is)) g.way.goal) L t<;>rfl,by show 62<=62+(t+0);omega] ?_
 intro kk σ H3 E' rt fE F kT cF.k Gq kq hW
 obtain⟨o6,u,gd,m,N,R,L1,rfl,w1,w2,w3,w4,w5,w6,w7,w8,w9,c4,W,c5⟩:=hW
 obtain⟨m,rfl⟩:∃m',m=m'+1:=#[m - 1,MP]
 have t0:=hR.tm w9
 have P3:=hP.mono t0
 cases w5 with
 |give p a e h5 ia=>
  subst e
  refine kq (jq h5 Z #[Z,_,Z,?_])
  rw[show decide (V.str (Str.ofString "give")=V.str (Str.ofString "go"))=false by decide+kernel]
  refine cF.k _ (J _ _ ?_)
  obtain⟨pa,ca,wv,cs,e,h7,_⟩:=(h1.mono t0).parts
  subst e
  refine(jq h7 Z #[_,Z,_,Z,S,R,Z,.inl #[aP.of w1,λl2 n0=>?_]])
  have s4:ae H3 (af H3 l2 (.tup R)):=je n0
  refine(jq (s4 _ _ h5) Z #[tE,λv2 nv=>?_])
  have s5:=s4.trans (je (o:=.tup [.str d.f,.ref ag,.ref l2,.int a]) nv)
  have S5:a7 r lA H (af (af H3 l2 (.tup R)) v2 (.tup [.str d.f,.ref ag,.ref l2,.int a])):=w9.trans (a7.of_same s5)
  have W:OC.ok (N.app .nil) a L1 (t+N.size)=X:=W
  rw[Xu w3]at W
  exact q _ N a L1 _ W.symm #[v2,ag,l2,R,Z,jc,hR.tm S5 _ _ ha,ao jc nv,w2.mono (ae.tm s5)] w3 w4 ia (w6.same s5) w7 w8 S5
 |go p D n c hs e h5 h6 hc hl hi=>
  subst e
  refine kq (jq h5 Z #[Z,_,Z,?_])
  rw[show decide (V.str (Str.ofString "go")=V.str (Str.ofString "go"))=true by decide+kernel]
  refine kT _ ?_
  clear kT cF.k J
  have P0:=h1.mono t0
  obtain⟨pa,ca,wv,cs,e9,h7,_,_,a4⟩:=P0.parts
  obtain⟨ka,na,wa,dv,c6,_,c1⟩:=P0.cut a4 hc
  have a':n < g.cs.length:=by rw[pr.len];exact(List.getElem?_eq_some_iff.mp hc).1
  obtain⟨cd,h8⟩:∃cd,g.cs[n]?=some cd:=#[_,List.getElem?_eq_getElem a']
  have cr:=(pr.cs n c cd hc h8).mono t0
  obtain⟨c2,e,c0⟩:=cd
  obtain⟨e1,ed,d0,e5,l0,b0⟩:=cr
  have e1:c2=canon c.M:=e1
  subst e1
  have W:OC.pre N (match g.cs[n]? with
   |none=>OC.long
   |some c=>match eK (a5 x y j) y (aR c.nm hs) L1 (t+N.size) c.e with
    | .ok w L1 t1=>(eU (a5 x y j) y g m (oA g c hs w.wh) L1 t1).cons (n:Int) hs w
    | .long=>.long
    | .deep=>.deep)=X:=W
  rw[h8]at W
  have W:OC.pre N (match eK (a5 x y j) y (aR (canon c.M) hs) L1 (t+N.size) e with
    | .ok w L1 t1=>(eU (a5 x y j) y g m (oA g #[canon c.M,e,c0] hs w.wh) L1 t1).cons (n:Int) hs w
    | .long=>.long
    | .deep=>.deep)=X:=W
  have gk:GT (aR (canon c.M) hs):=qk hi
  refine aj λF1 J=>#[_,Z,r,dx,_,Z,w6.ins,Z,_,Z,jq h5 Z (jq h5 Z #[v,n,D,d,ys,c,hs,e,Z,P0,hc,h6,hl,hi,ed,d0,λud H4 b1 s4=>?_])]
  have t':=t0.trans (ae.tm s4)
  refine#[_,Z,r,dx,cA,lA,pA,U,t+N.size,L1,y,aR (canon c.M) hs,ud,e,ys,ds,ns,xs,x,Z,MP,w6.same s4,w7,w8,hP.mono t',b1,d0.mono (ae.tm s4),gk,?_,λw uw L' H5 e7 hw o1 ft d1 R5 l5 t5 k5=>J _ _ ?_,?_]
  ·cases e with
   |ask=>trivial
   |st p0 l=>cases l<;>first |trivial |exact hP.cs hd _ e5
  ·clear J
   have K5:a7 r lA H3 H5:=(a7.of_same s4).trans k5
   have t7:ai H3 H5:=w6.tm K5
   have g5:=t7 _ _ h5
   have w0:H5 S=some (.lst R):=K5 _ _ s0 s3 w1
   have l3:=sO w3 w2
   refine aj λF1 J=>#[_,Z,.inl #[Z,_,aP.of w0],jq g5 Z (jq g5 Z #[_,Z,gm,λO n3=>?_])]
   have s6:ae H5 (af H5 O (.tup [.int (n:Int),.ref D,uw])):=je n3
   have e6:af H5 O (.tup [.int (n:Int),.ref D,uw]) O=some (.tup [.int (n:Int),.ref D,uw]):=jc
   refine#[S,_,_,Z,Z,s6 _ _ w0,MP,J _ _ ?_]
   clear J
   generalize af H5 O (.tup [.int (n:Int),.ref D,uw])=H6 at s6 e6
   have b7:au S H6 (af H6 S (.lst (R++[.ref O]))):=λb o nb e=>by rw[jk nb];exact e
   have t3:ai H6 (af H6 S (.lst (R++[.ref O]))):=λb xs e=>b7 _ _ (jO e (s6 _ _ w0) (by intro z;cases z)) e
   have w':af H6 S (.lst (R++[.ref O])) S=some (.lst (R++[.ref O])):=jc
   generalize af H6 S (.lst (R++[.ref O]))=H7 at b7 t3 w'
   have t2:ai H5 H7:=λb xs e=>t3 _ _ (s6 _ _ e)
   have B:ai H3 H7:=t7.trans t2
   have G:w.wh.side < c.ws.length:=by
    rw[c1.v.len,<- ed]
    cases e with
    |ask ta T=>show _ < 2;unfold Wh.side;split<;>(try split)<;>omega
    |st p0 l=>
     show _ < 1
     cases w<;>first |exact Nat.one_pos |exact o1.elim | (cases l<;>exact ft.elim)
   obtain⟨I,h0⟩:∃I,c0[w.wh.side]?=some I:=#[_,List.getElem?_eq_getElem (by rw[l0];exact G)]
   obtain⟨e2,h'⟩:=b0 _ _ I (List.getElem?_eq_getElem G) h0
   have sv:iA H7 nA d ys v O n D uw c hs w.wh e I:=#[P0.mono B,t3 _ _ e6,hc,B _ _ h6,hl,hi,(Du o1 hw).mono t2,ed,d0.mono B,ft,by rw[e2];exact List.getElem?_eq_getElem G,h'.mono B]
   have b2:dF (R++[V.ref O]) (-1)=some (.ref O):=yo
   refine#[_,Z,_,Z,_,Z,S,_,_,_,Z,Z,aP.of w',b2,v,uw,O,D,n,d,ys,c,hs,w.wh,e,I,Z,sv,λu2 H8 b3 s8=>?_]
   have t8:=ae.tm s8
   have b4:=B.trans t8
   have g1:=QI (H:=H7) b3 (zV sv.wdv.sets (XZ ft gk)) sv.wdv.goal
   have e8:oA g #[canon c.M,e,c0] hs w.wh=fh (mn g) (cp I.sets (n8 e w.wh (aR (canon c.M) hs))) I.goal:=by
    show(match c0[w.wh.side]? with |some wd=>fh (mn g) (cp wd.sets (n8 e w.wh (aR (canon c.M) hs))) wd.goal |none=>Gd.give 0)=_
    rw[h0]
   rw[pr.nms,<- e8]at g1
   rw[e7]at W
   have W:OC.pre N ((eU (a5 x y j) y g m (oA g #[canon c.M,e,c0] hs w.wh) L' (t+N.size+1+w.size)).cons (n:Int) hs w)=X:=W
   rw[rn _ w3]at W
   have s7:=Xt (n:=(n:Int)) (hs:=hs) (w:=w) w3
   have R7:Rn H7 C r dx cA lA pA 60 (t+N.size+1+w.size) L' y:=#[b7 _ _ (Ne.symm s0) (s6 _ _ R5.ins),b7 _ _ (Ne.symm s3) (s6 _ _ R5.lf),b7 _ _ s9 (s6 _ _ R5.ce),R5.iL,R5.iC,R5.cl]
   have ez:t+N.size+1+w.size=t+(Sk.put (n:Int) hs w N).size:=by rw[s7];omega
   rw[ez]at R7 l5 t5 W
   refine fE (kk - (w.size+1)) _ _ MP #[_,u2,_,m,Sk.put (n:Int) hs w N,R++[.ref O],L',Z,s8 _ _ w',(xN (t3 _ _ e6) (B _ _ h6) (hw.mono t2) w3 (w2.mono B)).mono t8,Zc o1 w3,?_,g1,R7.same s8,l5,t5,?_,by rw[s7];omega,W,MP]
   ·have:=Zd (n:=(n:Int)) (hs:=hs) (w:=w) (j:=j) d1 w3 MP
    omega
   ·intro b o n1 n2 e
    exact s8 _ _ (b7 _ _ (jm e Y) (s6 _ _ (K5 _ _ n1 n2 (w9 _ _ n1 n2 e))))
  ·exact mf.next ((t4.imp (λz=>by rw[z]at W;exact W.symm) (λz=>by rw[z]at W;exact W.symm)).mono λH5 kk=>λb o n1 n2 nx e=>kk b o n1 n2 nx (s4 _ _ (w9 _ _ n1 n2 e)))
def sX(T t N:Addr):Sp:=λv H Q E=>∃(b A c:Addr) (i:Nat) (C:aL) (d:Df) (D:List Df) (n:List Nat) (x:List V) (p:List dy) (I:List Int),v=[.ref b,.str d.f,.ref A,.ref c,.int 60]/\Ps H N b D n x p/\D[i]?=some d/\n[i]?=some I.length/\H A=some (.tup (I.map V.int))/\(∀z∈I,eQ z)/\H c=some (.dK C)/\GT C/\
 (∀(u:V) (s:Sk) (a:Int) (L:aL) (h:Hp),a5 p C 16 d.f I [] 0= .ok s a L s.size->ni h d.f I s a u->s.ok true->s.dep<=15->s.size<=60->ae H h->Q u h)/\mf (a5 p C 16 d.f I [] 0= .long) (a5 p C 16 d.f I [] 0= .deep) E T t (Kp H)
theorem Zj(h:aS H (eM n d) v []):∃p r,v= .ref p/\H p=some (.tup (.str d.f:: .ref d.pa::r)):=by
 obtain⟨_,a,x,rfl,b,_,_,c,y,rfl,⟨rfl,_⟩,_,_,e,Y,rfl,⟨rfl,_⟩,_⟩:=h
 exact#[a,_,Z,b]
theorem yW:ah P w K mg base (eO P w) k f c ["self","part","args","deep"] (dZ C T b N 0):=by
 have n:∀{V H Q E},¬dZ C T b N 0 V H Q E:=by
  rintro V H Q E ⟨r,e,g,l,j,m,D,t,i,L,q,v,d,u,x,X,p,I,_,_,z,_⟩
  omega
 exact#[λV H Q E h=>(n h).elim,λA o s H a U V Q E y B F G h=>(n h).elim]
theorem BR{cf:FuncData}(d:RK K C)(F:aU K "chain_of" "BookRun.chain_of" wf i f)(B:ay K f ["self","part","args","deep"] [])(m:ci K C "chain_of" i)(k:aU K "what_of" "BookRun.what_of" wg A e)(l:ay K e ["self","deed","deep"] [])(M:ci K C "what_of" A)(o:Cl P w K mg base 9 O D ["part","args"] (eh n) "first_of")(p:Cl P w K mg base 9 Q E ["part","n","held"] (d9 n) "deed_at")(q:Cl P w K mg base 9 U H ["part","step"] (oq n) "onward")(GT:ah P w K mg base (eO P w) 1 I cf ["self"] (lg C T))(r:ay K cf ["self"] [])(a:ci K C "take_turn" I)(G:ah P w K mg base aE 1 J g ["self","cell"] (gO C))(s:ay K g ["self","cell"] [])(b:ci K C "number_in" J)(t:ah P w K mg base (eO P w) 1 u h ["deep"] (fX L))(v:ay K h ["deep"] [])(x:keepIn K (.ref u)=true)(y:mg "deeper"=some (.ref u))(z:Cl P w K mg base 2 Y N ["parts","f"] lM "part_of")(c:mg "tuple"=none):∀j,ah P w K mg base (eO P w) (2*j+12) i f ["self","part","args","deep"] (dZ C T L n j)
 |0=>yW
 |j+1=>y9 F d o p q (Ac k d GT r a G s b t v x y z (BR d F B m k l M o p q GT r a G s b t v x y z c j) B m) l M c
theorem xT:al ["parts","f","args","cells","most","part"] ["parts","f","args","cells","most"] (aa A2):=bP
theorem An(F:aU K "run" "run" A2 f fd)(ck:RK K C)(mk:Mk K C fI)(GI:ah P w K mg base aE 2 fI y ["self","parts","cells","most"] (mV C))(bI:ay K y ["self","parts","cells","most"] [])(mC:mg "BookRun"=some (.ref C))(cB:Cl P w K mg base 2 fB f0 ["ones","f","args"] fV "begun")(GA:ah P w K mg base (eO P w) 44 fA B ["self","part","args","deep"] (dZ C TL TD nA 16))(bA:ay K B ["self","part","args","deep"] [])(M:ci K C "chain_of" fA):ah P w K mg base (eO P w) 45 f fd ["parts","f","args","cells","most"] (sX TL TD nA):=by
 refine F.ok1 xT ?_ λc0 A O s H vs Q E G h=>?_
 ·rintro _ _ _ _ ⟨g,I,j,i,J,d,ds,ns,X,k,is,rfl,_⟩
  rfl
 refine aZ λGq kq=>?_
 obtain⟨g,I,j,i,J,d,ds,ns,X,k,is,rfl,x,L,hn,ha,R,t,T,q,U⟩:=h
 refine kq ?_
 clear kq
 refine#[_,(jd (jA 5 xT.nd (cB.e G.m (ja (pv 0) (ja (pv 1) (ja (pv 2) jb))))) (jg (jo (kQ (YO mk GI G.m Z mC bI .nil bL (ja (pv 0) (ja (pv 3) (ja (pv 4) jb)))) ck.cl M GA G.m bA .nil zQ (ja (pv 5) (ja (pv 2) (ja jf jb))))))),?_]
 obtain⟨v,hv,tv,h0,V⟩:=x.at L
 obtain⟨p,pr,rfl,hp⟩:=Zj tv
 obtain⟨ps,W,h1,_⟩:=x.pa.2 i d _ L hn
 refine aj λF1 f1=>#[_,Z,_,Z,_,Z,g,I,d.f,X,_,i,.ref p,p,d.pa,pr,_,Z,x.at',hv,Z,hp,W,ha,by rw[Fy,Fy];omega,V,f1 _ _ ?_]
 clear f1
 refine#[_,Z,_,Z,_,Z,λr D N nd ne=>?_]
 have s0:ae H (af (af H D (.own r)) r (.ins C D [])):=λc o e=>by rw[jk (jm e N),jk (jm e nd)];exact e
 refine#[r,D,g,j,60,Z,jc,λl Y=>#[Z,?_]]
 have n0:l≠r:=λe=>by rw[e,jc]at Y;cases Y
 have n:H l=none:=by
  cases z:H l with
  |none=>rfl
  |some o=>have:=s0 _ _ z;rw[Y]at this;cases this
 have S:ae H (af (af (af (af H D (.own r)) r (.ins C D [])) l (.dK [])) r (.ins C D (gR j l g 60 0))):=λc o e=>by rw[jk (jm e N),jk (jm e n)];exact s0 _ _ e
 have R1:Rn (af (af (af (af H D (.own r)) r (.ins C D [])) l (.dK [])) r (.ins C D (gR j l g 60 0))) C r D j l g 60 0 [] J:=#[jc,by rw[jk n0];exact jc,S _ _ t,GT.nil,T,jm t n]
 generalize af (af (af (af H D (.own r)) r (.ins C D [])) l (.dK [])) r (.ins C D (gR j l g 60 0))=H1 at S R1
 have t0:=ae.tm S
 refine#[r,D,_,Z,R1.ins,Z,_,Z,_,Z,r,D,j,l,g,I,0,0,i,[],J,.ref p,d,ds,ns,X,k,is,Z,Z,MO,R1,Fz _,MO,x.mono t0,L,hn,hv,S _ _ ha,R,λu sk a L' H2 eq hc ok dp ia R2 l2 t2 k2=>?_,mf.next (U.mono λH' kk=>λb o nx e=>kk b o (jm e N) (jm e n) nx (S _ _ e))]
 exact q u sk a L' H2 (by rw[Nat.zero_add]at eq;exact eq) hc ok MP MP λc o e=>k2 c o (jm e N) (jm e n) (S _ _ e)
noncomputable def gi:Sk->Tr
 | .nil=>.nil
 | .st n h w r=>.cons (aQ [aB n,aQ (h.map aB),gi w]) (gi r)
 | .ask b=>aQ [a9 "ask",aB b]
 | .rd c i=>aQ [a9 "read",aB c,aB i]
 | .wr c i=>aQ [a9 "write",aB c,aB i]
 | .cl f I s a=>aQ [a9 "call",aQ [a9 f,aQ (I.map aB),.tp (gi s),aB a]]
theorem YF:∀{b:Bool} {s:Sk},s.ok b->(gi s).isL=b
 |true,.nil,_=>rfl
 |true,.st _ _ _ _,_=>rfl
 |false,.cl _ _ _ _,_=>rfl
 |false,.ask _,_=>rfl
 |false,.rd _ _,_=>rfl
 |false,.wr _ _,_=>rfl
theorem Jr{H:Hp}{a:List Int}(e:H h=some (.tup (a.map V.int))):aS H (aQ (a.map aB)) (.ref h) []:=jD e JW
theorem YG:∀{b:Bool} {s:Sk} {u:V} {X:List V},s.ok b->gq H s u X->(b=false->X=[])->(b=true->u= .non)->aS H (gi s) u X
 |true,.nil,_,_,_,h,_,_=>h
 |true,.st n q w r,_,_,o,#[p,h,u,y,e,d,j,k,l],_,z=>by
  rw[e,z Z]
  exact#[Z,YF o.2,_,_,Z,jD d (ji Z jS (ji Z (Jr j) (ji (YF o.1) (YG o.1 k (λ_=>Z) (λx=>nomatch x)) jC))),YG o.2 l (λx=>nomatch x) (λ_=>Z)]
 |false,.ask b,_,_,_,#[p,e,h],z,_=>by rw[e,z Z];exact jD h (ji Z jM (ji Z jS jC))
 |false,.rd c i,_,_,_,#[p,e,h],z,_=>by rw[e,z Z];exact jD h (ji Z jM (ji Z jS (ji Z jS jC)))
 |false,.wr c i,_,_,_,#[p,e,h],z,_=>by rw[e,z Z];exact jD h (ji Z jM (ji Z jS (ji Z jS jC)))
 |false,.cl f I s a,_,_,o,#[p,c,g,e,S,E,d,j,k,l,m],z,_=>by
  rw[E,z Z]
  exact jD d (ji Z jM (ji Z (jD j (ji Z jM (ji Z (Jr k) (ji Z #[YF o,e,S,Z,l,YG (b:=true) o m (λx=>nomatch x) (λ_=>Z)] (ji Z jS jC))))) jC))
theorem zO:∀i:List Int,(aJ (i.map aB)).dep=0
 | []=>rfl
 |_::i=>by show max 0 (aJ (i.map aB)).dep=0;rw[zO i];rfl
theorem QJ:∀{b:Bool} {s:Sk},s.ok b->(gi s).dep<=4*s.dep+(if b=true then 2 else 1)
 |true,.nil,_=>FN _
 |true,.st n H w r,o=>by
  have h:=QJ (b:=false) (s:=w) o.1
  have c:=QJ (b:=true) (s:=r) o.2
  have d:=zO H
  have h:(gi w).dep<=4*w.dep+1:=h
  have c:(gi r).dep<=4*r.dep+2:=c
  show max (max 0 (max ((aJ (H.map aB)).dep+1) (max (gi w).dep 0))+1) (gi r).dep<=4*max w.dep r.dep+2
  omega
 |false,.ask _,_=>Fz 1
 |false,.rd _ _,_=>Fz 1
 |false,.wr _ _,_=>Fz 1
 |false,.cl f i s a,o=>by
  have h:=QJ (b:=true) (s:=s) o
  have d:=zO i
  have h:(gi s).dep<=4*s.dep+2:=h
  show max 0 (max (max 0 (max ((aJ (i.map aB)).dep+1) (max ((gi s).dep+1) (max 0 0)))+1) 0)+1<=4*(s.dep+1)+1
  omega
noncomputable def uH(f:Str)(i:List Int)(s:Sk)(a:Int):Tr:=aJ [a9 f,aQ (i.map aB),.tp (gi s),aB a]
theorem xq(h:ni H f i s a u)(o:s.ok true):aS H (.tp (uH f i s a)) u []:=by
 obtain⟨c,g,e,S,rfl,d,j,k,l⟩:=h
 exact jD d (ji Z jM (ji Z (Jr j) (ji Z #[YF o,e,S,Z,k,YG (b:=true) o l (λx=>nomatch x) (λ_=>Z)] (ji Z jS jC))))
theorem yt{s:Sk}(o:s.ok true)(d:s.dep<=15):(uH f i s a).dep < 100:=by
 have h:=QJ (b:=true) (s:=s) o
 have H:=zO i
 have h:(gi s).dep<=4*s.dep+2:=h
 show max 0 (max ((aJ (i.map aB)).dep+1) (max ((gi s).dep+1) (max 0 0))) < 100
 omega
theorem AD{p:List Str}{v:V}(h:lv H N d y v)(g:H d.pa=some (.tup (p.map V.str))):∃q,uB H N d y q:=by
 obtain⟨W,E,i⟩:=h.way
 obtain⟨a,J,L,O,rfl,Q,m,r,j⟩:=h.parts
 obtain⟨C,s,t⟩:=uF (R:=λc u=>Bv H y N d c u) (bG N d) λc k=>by
  obtain⟨n,x,z⟩:=List.mem_iff_getElem.mp k
  obtain⟨S,T,U,X,A,_,o⟩:=h.cut j (n:=n) (c:=c) (by rw[<- z];exact Fu x)
  obtain⟨e,B,D,F⟩:=BZ o.v.deed
  obtain⟨G,I,l⟩:=uF (R:=λ(w:Wy) (W:WD)=>W.wy N=w/\ug H y d.b.cuts d.b.size W) c.ws λw m=>o.v.ways w m
  exact#[#[canon c.M,e,G],Z,B,D,F,I,l]
 exact#[#[d.f,p,W,C],Z,g,E,i,s,t]
theorem CT{H:Hp}{D:List Df}(a:H l=some (.tup x))(T:aS H (aJ (D.map (eM n))) .non x)(g:∃z,cw H D z)(o:oB D N)(j:lD H D N):∃p,Ps H n l D N x p:=by
 have L:=kY T
 rw[Fy]at L
 obtain⟨p,m,q⟩:=uF (R:=λd c=>∃y,(d.b.Ok y/\y.length<=20)/\uB H n d y c) D λd e=>by
  obtain⟨i,r,E⟩:=List.mem_iff_getElem.mp e
  have h:D[i]?=some d:=by rw[<- E];exact Fu r
  have s:x[i]?=some (x[i]'MP):=Fu _
  obtain⟨t,k,u⟩:=qJ T i _ s
  rw[FT,h]at k
  cases k
  obtain⟨z,A⟩:=g
  obtain⟨⟨y,Y,o⟩,_,S⟩:=(o.1 d e).1
  obtain⟨C,f,_⟩:=j.v d e
  obtain⟨c,B⟩:=AD (v:=x[i]'MP) #[u,oW A h,o,Y,S] f
  exact#[c,y,#[o,Y],B]
 exact#[p,a,T,g,o,j,m,q]
theorem Xv{call:ip}(h:eU call C p m (.give b) L t= .ok r a l T):r= .nil/\a=b/\l=L:=by
 cases m with
 |zero=>cases h
 |succ m=>cases h;exact#[Z,Z,Z]
theorem pq{call:ip}(h:eU call C p m (.go n H) L t= .ok d a g i):∃c w l T r M,p.cs[n]?=some c/\eK call C (aR c.nm H) L t c.e= .ok w l T/\d= .st (n:Int) H w r/\eU call C p M (oA p c H w.wh) l T= .ok r a g i:=by
 cases m with
 |zero=>cases h
 |succ m=>
  unfold eU at h
  cases e:p.cs[n]? with
  |none=>rw[e]at h;cases h
  |some c=>
   rw[e]at h
   dsimp only at h
   cases E:eK call C (aR c.nm H) L t c.e with
   |long |deep=>rw[E]at h;cases h
   |ok w l T=>
    rw[E]at h
    dsimp only at h
    cases f:eU call C p m (oA p c H w.wh) l T with
    |long |deep=>rw[f]at h;cases h
    |ok r b L2 j=>rw[f]at h;cases h;exact#[c,w,l,T,r,m,Z,E,Z,f]
theorem YH{call:ip}{w:Sk}(h:eK call C k L t e= .ok w l T):t < 60:=by
 by_cases z:t < 60
 ·exact z
 ·rw[Zf z]at h;cases h
noncomputable abbrev wA:Stmt:=bQ 7
noncomputable abbrev wB:Stmt:=bQ 8
noncomputable abbrev A3:Stmt:=bQ 9
theorem QS(a:aL)(k:bE)(v:V):(aM a k v).length<=a.length+1:=zC
noncomputable def Sk.flat:Sk->List Sk
 | .st _ _ w r=>w::(w.flat++r.flat)
 | .cl _ _ s _=>s.flat
 |_=>[]
noncomputable def Sk.tops:Sk->List Sk
 | .st _ _ w r=>w::r.tops
 |_=>[]
noncomputable def dP(W:List Sk):List Sk:=(W.map λw=>w::w.flat).flatten
theorem qx:∀{s:Sk},s.ok true->s.flat=dP s.tops
 | .nil,_=>rfl
 | .st _ _ w r,o=>by show w::(w.flat++r.flat)=w::w.flat++dP r.tops;rw[qx o.2];rfl
theorem zc:∀{b:Bool} {s:Sk},s.ok b->s.flat.length=s.size
 |true,.nil,_=>rfl
 |true,.st _ _ w r,o=>by
  have h:=zc (b:=false) (s:=w) o.1
  have H:=zc (b:=true) (s:=r) o.2
  show(w.flat++r.flat).length+1=w.size+r.size+1
  rw[FD,h,H]
 |false,.cl _ _ s _,o=>zc (b:=true) (s:=s) o
 |false,.ask _,_=>rfl
 |false,.rd _ _,_=>rfl
 |false,.wr _ _,_=>rfl
theorem zX(a b:List Sk):dP (a++b)=dP a++dP b:=by unfold dP;rw[Gm,List.flatten_append]
theorem oH(W:List Sk)(i:Nat):(dP (W.take i)).length<=(dP W).length:=by
 have:=Hf List.length (zX (W.take i) (W.drop i))
 rw[IS,FD]at this
 omega
theorem sN:∀{s:Sk} {S:List V},s.ok true->gq H s .non S->∀{i:Nat} {x:V},S[i]?=some x->∃w p h n u,s.tops[i]?=some w/\w.ok false/\w.dep<=s.dep/\w.size+1<=s.size/\x= .ref p/\H p=some (.tup [.int n,.ref h,u])/\gq H w u []
 | .nil,_,_,e,i,x,a=>by have e:_=[]:=e;rw[e]at a;simp at a
 | .st n f w r,_,o,#[p,h,u,y,e,b,g,c,d],0,x,a=>by
  rw[e]at a
  cases a
  exact#[w,p,h,n,u,Z,o.1,Lw _ _,by show w.size+1<=w.size+r.size+1;omega,Z,b,c]
 | .st n f w r,_,o,#[p,h,u,y,e,b,g,c,d],i+1,x,a=>by
  rw[e]at a
  obtain⟨W,j,k,N,U,t,T,l,q,m⟩:=sN o.2 d (i:=i) (x:=x) (by simpa using a)
  exact#[W,j,k,N,U,t,T,FL l (Lj _ _),by show W.size+1<=w.size+r.size+1;omega,m]
theorem Ks:∀{s:Sk} {S:List V},s.ok true->gq H s .non S->S.length=s.tops.length
 | .nil,_,_,e=>by have e:_=[]:=e;rw[e];rfl
 | .st n b w r,_,o,z=>by obtain⟨p,h,u,y,e,c,d,f,a⟩:=z;rw[e];exact Hf (·+1) (Ks o.2 a)
abbrev RT:=Hp->V->Sk->Prop
def iy(R:RT)(H:Hp):List Sk->List V->Prop
 | [],v=>v=[]
 |w::W,v=>∃x r,v=x::r/\R H x w/\iy R H W r
def BP(R:RT):Prop:=∀(H h:Hp) (x:V) (w:Sk),ai H h->R H x w->R h x w
theorem iy.mono{R:RT}(a:BP R)(k:ai H b):∀{W:List Sk} {v:List V},iy R H W v->iy R b W v
 | [],_,h=>h
 |_::_,_,z=>by obtain⟨x,r,e,c,d⟩:=z;exact #[x,r,e,a _ _ _ _ k c,iy.mono a k d]
theorem iy.app{R:RT}(a:iy R H b y):∀{W:List Sk} {v:List V},iy R H W v->iy R H (W++b) (v++y)
 | [],_,h=>by have e:_=[]:=h;rw[e];exact a
 |_::_,_,z=>by obtain⟨x,r,e,c,d⟩:=z;exact #[x,r++y,by rw[e];rfl,c,iy.app a d]
theorem iy.len{R:RT}:∀{W:List Sk} {v:List V},iy R H W v->v.length=W.length
 | [],_,h=>by have e:_=[]:=h;rw[e];rfl
 |_::_,_,z=>by obtain⟨x,r,e,b,a⟩:=z;rw[e];exact Hf (·+1) (iy.len a)
theorem iy.at{R:RT}:∀{W:List Sk} {v:List V},iy R H W v->∀{i:Nat} {x:V},v[i]?=some x->∃w,W[i]?=some w/\R H x w
 | [],_,h,i,x,a=>by have e:_=[]:=h;rw[e]at a;simp at a
 |w::_,_,#[y,r,e,b,c],0,x,a=>by rw[e]at a;cases a;exact#[w,Z,b]
 |w::W,_,#[y,r,e,b,c],i+1,x,a=>by rw[e]at a;exact iy.at c (i:=i) (by simpa using a)
def RW:RT:=λH x w=>∃q p u,x= .ref q/\H q=some (.tup [p,u])/\gq H w u []
theorem pI:BP RW:=λ_ _ _ _ k #[q,p,u,e,h,H]=>#[q,p,u,e,k _ _ h,H.mono k]
def xX(n:Nat):Sp:=λv H Q _=>∃(p:Addr) (a:List V) (w:Sk) (u:V),v=[.ref p,u]/\H p=some (.tup a)/\a.length+n<=100/\gq H w u []/\w.ok false/\w.dep < n/\w.size<=1000/\
 ∀(r:Addr) (x:List V) (h:Hp),H r=none->h r=some (.lst x)->iy RW h (w::w.flat) x->ae H h->Q (.ref r) h
def ij(n:Nat):Sp:=λv H Q _=>∃(p:Addr) (b:List V) (f:Str) (i:List Int) (s:Sk) (a:Int) (u:V),v=[.ref p,u]/\H p=some (.tup b)/\b.length+n+1<=100/\ni H f i s a u/\s.ok true/\s.dep < n/\s.size<=1000/\
 ∀(r:Addr) (x:List V) (h:Hp),H r=none->h r=some (.lst x)->iy RW h s.flat x->ae H h->Q (.ref r) h
noncomputable def gp:List Sk->aL->aL
 | [],k=>k
 | .wr c i::r,k=>gp r (aM k (.inl c) (.int i))
 |_::r,k=>gp r k
theorem QT:∀(a b:List Sk) (k:aL),gp (a++b) k=gp b (gp a k)
 | [],_,_=>rfl
 |w::a,b,k=>by cases w<;>exact QT a b _
theorem QU:∀(a:List Sk) (k:aL),(gp a k).length<=k.length+a.length
 | [],_=>Fz _
 |w::a,k=>by
  have h:=QU a k
  cases w with
  |wr c i=>have H:=QU a (aM k (.inl c) (.int i));have b:=QS k (.inl c) (.int i);show(gp a (aM k (.inl c) (.int i))).length<=k.length+(a.length+1);omega
  |_=>show(gp a k).length<=k.length+(a.length+1);omega
def sZ:Sp:=λv H Q _=>∃(f:Str) (i:List Int) (s:Sk) (a:Int) (u:V),v=[u]/\ni H f i s a u/\s.ok true/\s.dep<=15/\s.size<=60/\
 ∀(r:Addr) (x:List V) (h:Hp),h r=some (.lst x)->iy RW h s.flat x->ae H h->Q (.ref r) h
inductive EO(pa tl:Addr)(u:V)(s:Sk)(H:Hp)(i:Nat)(σ:L2.St)(H':Hp):Prop
 |mk (o3 o4:Option V) (xs:List V) (e0:σ=[some (.ref pa),some u,some (.ref tl),o3,o4]) (e1:H' tl=some (.lst xs)) (e2:iy RW H' (dP (s.tops.take i)) xs) (e3:ae H H'):EO pa tl u s H i σ H'
theorem xV:al ["path","what","within"] ["path","what"] (aa wA):=bP
theorem Aq(F:aU K "whats_at" "whats_at" wA f Y)(cI:Cl P w K mg base (2*n+2) fI f0 ["path","chain"] (ij n) "whats_in"):ah P w K mg base aE (2*n+3) f Y ["path","what"] (xX (n+1)):=by
 refine F.ok xV ?_ λc0 A O s H vs Q E hr h=>?_
 ·rintro _ _ _ _ ⟨j,R,w,u,rfl,_⟩
  rfl
 refine aZ λGq T=>?_
 obtain⟨j,R,w,u,rfl,hp,h0,B,k,U,hz,q⟩:=h
 refine T ?_
 clear T
 refine#[_,(jd (jA 2 xV.nd (zb (jZ (jy (pv 1))) (cI.e hr.m (ja (pv 0) (ja (jy (pv 1)) jb))) (jF jb))) (jg (jo (ju qi (jF (ja (jh (ja (pv 0) (ja (pv 1) jb))) jb)) (pv 2))))),?_]
 have b0:=aN
 have fl:=zc k
 refine aj λF1 C=>?_
 suffices W:∀(l:Addr) (x:List V) (d:Hp),d l=some (.lst x)->iy RW d w.flat x->ae H d->F1 [some (.ref j),some u,some (.ref l)] d by
  clear C
  cases w with
  |nil |st=>exact k.elim
  |ask b |rd c i |wr c i=>obtain⟨p,rfl,v⟩:=B;exact(jq v Z #[Z,_,Z,aO MS #[lW,λl X=>W l [] _ jc Z (je X)]])
  |cl f is s a=>
   obtain⟨p,c,g,e,ss,rfl,v,h2,h3,h4,h5⟩:=B
   have U:s.dep+1 < n+1:=U
   exact(jq v Z #[Z,_,Z,cq MS #[_,Z,jq v Z #[j,R,f,is,s,a,.ref c,Z,hp,MP,#[c,g,e,ss,Z,h2,h3,h4,h5],k,MP,hz,λl x d X D y S=>W l x d D y S]]])
 intro l x d D y S
 refine C _ _ ?_
 clear C
 have lx:=y.len
 refine#[_,Z,_,Z,bX,λt G=>#[lO,λL N=>#[_,Z,L,l,_,_,Z,Z,jc,ao (ao D G) N,by show 1+x.length<=_;omega,λr I=>?_]]]
 have J:ae d (af (af (af d t (.tup [.ref j,u])) L (.lst [.ref t])) r (.lst ([.ref t]++x))):=((je G).trans (je N)).trans (je I)
 have ht:af (af (af d t (.tup [.ref j,u])) L (.lst [.ref t])) r (.lst ([.ref t]++x)) t=some (.tup [.ref j,u]):=ao (ao jc N) I
 have M:H r=none:=by
  cases z:H r with
  |none=>rfl
  |some o=>have:=((je (o:=.lst [.ref t]) N) _ _ ((je (o:=.tup [.ref j,u]) G) _ _ (S _ _ z)));rw[I]at this;cases this
 exact q r _ _ M jc #[.ref t,x,Z,#[t,.ref j,u,Z,ht,B.mono (ae.tm (S.trans J))],y.mono pI (ae.tm J)] (S.trans J)
theorem J1:∀{b:Bool} {s:Sk},s.ok b->∀w∈s.flat,w.ok false
 |true,.nil,_,w,h=>nomatch h
 |true,.st _ _ v r,o,w,h=>(List.mem_cons.mp h).elim (λe=>by rw[e];exact o.1) λh=>(List.mem_append.mp h).elim (J1 (b:=false) o.1 w) (J1 (b:=true) o.2 w)
 |false,.cl _ _ s _,o,w,h=>J1 (b:=true) (s:=s) o w h
 |false,.ask _,_,w,h=>nomatch h
 |false,.rd _ _,_,w,h=>nomatch h
 |false,.wr _ _,_,w,h=>nomatch h
theorem nP:al ["path","chain","told","number","step"] ["path","chain"] (aa wB):=bP
theorem Ar(F:aU K "whats_in" "whats_in" wB f fd)(cA:Cl P w K mg base (2*n+1) fA f2 ["path","what"] (xX n) "whats_at")(O:mg "enumerate"=none):ah P w K mg base aE (2*n+2) f fd ["path","chain"] (ij n):=by
 refine F.ok nP ?_ λc0 A R s H vs Q E U h=>?_
 ·rintro _ _ _ _ ⟨V,ps,f,is,s,a,u,rfl,_⟩
  rfl
 refine aZ λGq k=>?_
 obtain⟨V,ps,f,is,s,a,u,rfl,hp,h5,hc,d,hd,hz,q⟩:=h
 refine k ?_
 clear k
 refine#[_,(jd (jA 2 nP.nd (jF jb)) (jd (j9 Gv Z (Xi Z O (ja (jy (pv 1)) jb)) (ze (n:=2) Z (jz (jw (i:=3) nP.nd Z (Or.inl Z)) (jz (jw (i:=4) nP.nd Z (Or.inl Z)) j6))) (jg (jT (kN F8 Lb La Qk (pv 2) (ja (cA.e U.m (ja (ju j8 (pv 0) (jh (ja (pv 3) jb))) (ja (jy (pv 4)) jb))) jb))))) (jg (jo (pv 2))))),?_]
 have b0:=aN
 obtain⟨c,g,e,ss,rfl,h1,h2,h3,h4⟩:=hc
 have fl:=zc d
 have lt:=Ks d h4
 refine aj λF1 l=>#[lW,λT N=>l _ _ ?_]
 clear l
 have Y:ae H (af H T (.lst [])):=je N
 refine aj λF1 l=>eB λJ j=>(jq (Y _ _ h1) Z #[e,Z,#[_,aA.of (Y _ _ h3)],j _ _ ?_])
 clear j
 refine KE (K:=K) (xs:=ss) (EO V T (.ref c) s H) #[none,none,[],Z,jc,Z,Y] (λi σ Hx _ h=>?_) ?_ (λσ Hx h=>l _ _ ?_)
 ·obtain⟨_,_,_,_,_,_,v⟩:=h
  exact aA.of (v _ _ h3)
 ·intro E hE i x y σ L hx np f0 Gq k h
  clear l
  obtain⟨o3,o4,xs,rfl,M,W,v⟩:=h
  have B:ae L (af L y (.tup [.int i,x])):=je np
  have e8:af L y (.tup [.int i,x]) y=some (.tup [.int i,x]):=jc
  refine k ?_
  clear k
  generalize af L y (.tup [.int i,x])=H8 at B e8 ⊢
  have S8:=v.trans B
  obtain⟨w,p,hh,n1,u,ht,o1,d0,s2,rfl,h0,hw⟩:=sN d (h4.mono (ae.tm S8)) hx
  refine#[y,_,Z,aA.of e8,Z,_,_,Z,_,_,Z,Z,?_]
  refine#[_,Z,.inl #[Z,_,aP.of (B _ _ M)],_,Z,_,Z,lO,λt nt=>#[V,t,_,_,Z,Z,ao (S8 _ _ hp) nt,jc,by show _+1<=_;omega,λr9 H9 e9 s9=>?_]]
  have S9:=(je (o:=.tup [.int i]) nt).trans s9
  refine(jq (S9 _ _ h0) Z #[r9,_,w,u,Z,e9,by rw[FD];show _+1+_<=_;omega,hw.mono (ae.tm S9),o1,MP,MP,λr X C nr U D s0=>?_])
  have S:=S9.trans s0
  have G:=S _ _ (B _ _ M)
  have lx:=W.len
  have l0:=D.len
  have bl:=oH s.tops (i+1)
  have et:s.tops.take (i+1)=s.tops.take i++[w]:=by rw[GP,ht];rfl
  have eb:dP [w]=w::w.flat:=by show(w::w.flat)++[]=_;rw[IZ]
  rw[<- qx d,fl]at bl
  rw[et,zX,eb]at bl
  rw[FD]at bl
  have I:ai C (af C T (.lst (xs++X))):=λb ys e=>by rw[jk (jO e G (by intro z;cases z))];exact e
  refine#[T,r,_,_,Z,Z,G,U,MP,f0 _ _ #[_,_,xs++X,Z,jc,?_,λb o e=>?_]]
  ·rw[et,zX,eb]
   exact(D.mono pI I).app ((W.mono pI (ae.tm (B.trans S))).mono pI I)
  ·rw[jk (jm e N)]
   exact S _ _ (S8 _ _ e)
 ·obtain⟨o3,o4,xs,rfl,M,W,v⟩:=h
  rw[lt,Gz,<- qx d]at W
  exact#[_,Z,q T xs Hx N M W v]
theorem y6:ah P w K mg base aE k f c ["path","chain"] (ij 0):=by
 have n:∀v H Q E,¬ij 0 v H Q E:=λv H Q E h=>by
  obtain⟨p,d,f,i,s,a,u,_,_,_,_,_,z,_⟩:=h
  omega
 exact#[λv H Q E h=>absurd h (n v H Q E),λA o s H b U v Q E _ _ _ _ h=>absurd h (n v H Q E)]
theorem Dv(F:aU K "whats_at" "whats_at" wA e a)(b:ay K a ["path","what"] [])(M:mg "whats_at"=some (.ref e))(FI:aU K "whats_in" "whats_in" wB c f)(B:ay K f ["path","chain"] [])(d:mg "whats_in"=some (.ref c))(m:mg "enumerate"=none):∀n,ah P w K mg base aE (2*n+2) c f ["path","chain"] (ij n)
 |0=>y6
 |n+1=>by
  have h:=Dv F b M FI B d m n
  have H:=Aq F #[h,B,FI.kp,d]
  exact Ar FI #[H,b,F.kp,M] m
theorem C7:al ["chain"] ["chain"] (aa A3):=bP
theorem As(F:aU K "whats" "whats" A3 f j)(C:Cl P w K mg base 34 L l ["path","chain"] (ij 16) "whats_in"):ah P w K mg base aE 35 f j ["chain"] sZ:=by
 refine F.ok C7 ?_ λp A o s H V Q E b h=>?_
 ·rintro _ _ _ _ ⟨f,i,s,a,u,rfl,_⟩
  rfl
 refine aZ λM k=>?_
 obtain⟨f,i,s,a,u,rfl,v,d,N,O,q⟩:=h
 refine k ?_
 clear k
 refine#[_,(jg (jo (C.e b.m (ja (jh jb) (ja (pv 0) jb))))),?_]
 refine#[lW,λt n=>#[_,Z,t,[],f,i,s,a,u,Z,jc,by show 0+16+1<=100;decide,?_,d,MP,MP,λr x y R b z S=>q r x y b z ((je n).trans S)]]
 obtain⟨c,g,e,B,rfl,D,G,I,J⟩:=v
 exact#[c,g,e,B,Z,ao D n,ao G n,ao I n,J.mono (ae.tm (je n))]
noncomputable abbrev sg:Stmt:=bQ 36
def NT(k:aL):Prop:=∀p∈k,∃i,p.2= .int i
theorem NT.nil:NT []:=λ_ h=>nomatch h
theorem GT.nt(h:GT k):NT k:=λp H=>let #[i,e,_]:=h p H;#[i,e]
theorem NT.put(h:NT a)(k:bE)(i:Int):NT (aM a k (.int i)):=by
 intro p hp
 unfold aM at hp
 split at hp
 ·obtain⟨q,H,rfl⟩:=List.mem_map.mp hp
  by_cases e:q.1=k
  ·rw[FQ e];exact#[i,Z]
  ·rw[FV e];exact h q H
 ·rcases List.mem_append.mp hp with hp |hp
  ·exact h p hp
  ·rw[List.mem_singleton.mp hp];exact#[i,Z]
theorem NT.get(h:NT a)(k:bE)(z:Int):(bh a k).getD (.int z)= .int (look a k z):=by
 unfold look
 cases e:bh a k with
 |none=>rfl
 |some v=>
  unfold bh at e
  obtain⟨p,H,rfl⟩:=Option.map_eq_some_iff.mp e
  obtain⟨i,E⟩:=h p (My H)
  show p.2=_
  rw[E]
theorem Xw(a:aL)(k j:bE)(i z:Int):look (aM a k (.int i)) j z=if j=k then i else look a j z:=by
 unfold look
 rw[Kn]
 by_cases e:j=k
 ·rw[FQ e,FQ e]
 ·rw[FV e,FV e]
theorem ni.same(h:ni H f i s a u)(k:ai H b):ni b f i s a u:=by
 obtain⟨c,g,e,S,E,d,j,l,m⟩:=h
 exact#[c,g,e,S,E,k _ _ d,k _ _ j,k _ _ l,m.mono k]
noncomputable def gn:List Sk->aL->Bool
 | [],_=>true
 | .wr c i::r,k=>gn r (aM k (.inl c) (.int i))
 | .rd c i::r,k=>decide (i=look k (.inl c) 0)&&gn r k
 |_::r,k=>gn r k
noncomputable def gV(C:aL):List Sk->aL->Bool
 | [],_=>true
 | .wr c i::r,k=>gV C r (aM k (.inl c) (.int i))
 | .rd c i::r,k=>decide (look k (.inl c) (look C (.inl c) 0)=i)&&gV C r k
 |_::r,k=>gV C r k
theorem YI:∀(W:List Sk) (h k:aL),(∀c,look h (.inl c) 0=look k (.inl c) (look C (.inl c) 0))->gn W h=gV C W k
 | [],_,_,_=>rfl
 |w::W,h,k,e=>by
  cases w with
  |wr c i=>exact YI W _ _ λa=>by rw[Xw,Xw,e]
  |rd c i=>
   show(decide _&&_)=(decide _&&_)
   rw[YI W h k e,e]
   congr 1
   exact decide_eq_decide.mpr #[Eq.symm,Eq.symm]
  |_=>exact YI W h k e
theorem Kk:∀(a b:List Sk) (k:aL),gn (a++b) k=(gn a k&&gn b (gp a k))
 | [],_,_=>rfl
 |w::a,b,k=>by
  cases w with
  |rd c i=>show(decide _&&gn (a++b) k)=(decide _&&gn a k&&gn b (gp a k));rw[Kk a b k,Mw]
  |_=>exact Kk a b _
theorem QK:∀(a b:List Sk) (k:aL),gV C (a++b) k=(gV C a k&&gV C b (gp a k))
 | [],_,_=>rfl
 |w::a,b,k=>by
  cases w with
  |rd c i=>show(decide _&&gV C (a++b) k)=(decide _&&gV C a k&&gV C b (gp a k));rw[QK a b k,Mw]
  |_=>exact QK a b _
theorem X0:∀(W:List Sk) {k:aL},NT k->NT (gp W k)
 | [],_,h=>h
 |w::W,k,h=>by
  cases w with
  |wr c i=>exact X0 W (h.put _ i)
  |_=>exact X0 W h
theorem QV{a:Type}{W:List a}{w:a}(h:W[i]?=some w):W=W.take i++(w::W.drop (i+1)):=by
 obtain⟨H,e⟩:=List.getElem?_eq_some_iff.mp h
 rw[<- e,IN,IS]
theorem yq{w:Sk}(h:a[i]?=some w):(dP (a.take i)).length+(w::w.flat).length<=(dP a).length:=by
 conv=>rhs;rw[QV h]
 rw[zX,FD]
 show _<=_+((w::w.flat)++dP (a.drop (i+1))).length
 rw[FD]
 omega
def mY:Sp:=λv H Q _=>∃(c:Addr) (C:aL) (f:Str) (i:List Int) (s:Sk) (a:Int) (u:V),v=[u,.ref c]/\H c=some (.dK C)/\NT C/\C.length<=400/\ni H f i s a u/\s.ok true/\s.dep<=15/\s.size<=60/\
 ∀h,ae H h->Q (.bl (gn s.flat C)) h
theorem iZ:al ["chain","cells","held","path","what"] ["chain","cells"] (aa sg):=bP
theorem vN(F:aU K "true_of" "true_of" sg f fd)(cW:Cl P w K mg base 35 fW f0 ["chain"] sZ "whats")(m0:mg "dict"=none):ah P w K mg base aE 36 f fd ["chain","cells"] mY:=by
 refine F.ok iZ ?_ λc0 A o1 s H vs Q E hr h=>?_
 ·rintro _ _ _ _ ⟨I,C,f,is,s,a,u,rfl,_⟩
  rfl
 refine aZ λGq L=>?_
 obtain⟨I,C,f,is,s,a,u,rfl,h0,hN,hC,hc,t,hd,hz,q⟩:=h
 refine L ?_
 clear L
 refine#[_,(jd (jA 2 iZ.nd (jE Qo Z m0 boot_dict (ja (pv 1) jb))) (jd (j9 Gv Z (qt (cW.e hr.m (ja (pv 0) jb))) (ze (n:=2) Z (jz (jw (i:=3) iZ.nd Z (Or.inl Z)) (jz (jw (i:=4) iZ.nd Z (Or.inl Z)) j6))) (jg (jx (jZ (jy (pv 4))) (jg (zH (kU hr) (pv 2) (jy (pv 4)) (jy (pv 4)) Z)) (jg (jx (PW.pt (zS (jZ (jy (pv 4))) (zF (jB J4 (jy (pv 4)) (@qm _ _ _ _ _ _ _ _ _ (kU hr) (pv 2) (jy (pv 4)) jf #[MT,MT,MT,MT]) (aK _))))) (jg (jo (@zL _ _ _ _))) jp))))) (jg (jo (@zL _ _ _ _))))),?_]
 have b0:=aN
 refine aj λF1 M=>#[_,Z,I,C,Z,h0,λdl N=>M _ _ ?_]
 clear M
 have s1:ae H (af H dl (.dK C)):=je N
 have D:af H dl (.dK C) dl=some (.dK C):=jc
 generalize af H dl (.dK C)=H1 at s1 D ⊢
 have fl:=zc t
 have h2:=hc.same (ae.tm s1)
 refine aj λF1 M=>eB λJ j=>#[_,Z,f,is,s,a,u,Z,h2,t,hd,hz,λr xs H2 B hx U=>#[r,Z,#[_,aP.of B],j _ _ ?_]]
 clear j
 have r0:r≠dl:=jO B (U _ _ D) (by intro z;cases z)
 have lx:=hx.len
 have S2:=s1.trans U
 refine Ju (K:=K) (a:=r) (xs:=xs) (λi V O=>∃o3 o4,V=[some u,some (.ref I),some (.ref dl),o3,o4]/\O dl=some (.dK (gp (s.flat.take i) C))/\gn (s.flat.take i) C=true/\au dl H2 O) #[none,none,Z,U _ _ D,Z,au.refl] (λi V O _ h=>?_) ?_ (λV O h=>M _ _ ?_)
 ·obtain⟨_,_,_,_,_,b⟩:=h
  exact aP.of (b _ _ r0 B)
 ·intro E rt i x V X R fE Gq L h
  clear M
  obtain⟨o3,o4,rfl,W,S,G⟩:=h
  refine L ?_
  clear L
  have h3:=(List.getElem?_eq_some_iff.mp R).1
  obtain⟨w,l,hw⟩:=hx.at R
  have t0:ai H2 X:=λb ys e=>G _ _ (jO e (U _ _ D) (by intro z;cases z)) e
  have et:gp (s.flat.take (i+1)) C=gp [w] (gp (s.flat.take i) C):=by rw[GP,l,QT];rfl
  have eb:gn (s.flat.take (i+1)) C=gn [w] (gp (s.flat.take i) C):=by rw[GP,l,Kk,S];rfl
  have ef:gn [w] (gp (s.flat.take i) C)=false->gn s.flat C=false:=λz=>by
   rw[QV l,Kk,S,show(w::s.flat.drop (i+1))=[w]++s.flat.drop (i+1) from Z,Kk,z]
   rfl
  have lw:=QU (s.flat.take i) C
  rw[Gf]at lw
  have nt:=X0 (s.flat.take i) hN
  obtain⟨qa,pa,v,rfl,hq,Y⟩:=pI _ _ _ _ t0 hw
  refine#[qa,_,Z,aA.of hq,Z,_,_,Z,_,_,Z,Z,?_]
  show io _ _ _ E [some u,some (.ref I),some (.ref dl),some pa,some v] X
  have no:∀{y:Sk},gp [y] (gp (s.flat.take i) C)=gp (s.flat.take i) C->gn [y] (gp (s.flat.take i) C)=true->w=y->E.nx [some u,some (.ref I),some (.ref dl),some pa,some v] X:=λD e3 e2=>fE _ _ #[_,_,Z,by rw[et,e2,D];exact W,by rw[eb,e2];exact e3,G]
  cases w with
  |nil |st=>exact(J1 t _ (F' l)).elim
  |ask b=>obtain⟨p,rfl,d⟩:=Y;exact(jq d Z #[Z,_,Z,aO MS (jq d Z #[Z,_,Z,aO MS (aO Z (no Z Z Z))])])
  |cl f' i0 s' a'=>obtain⟨p,c,g,e,ss,rfl,d,_⟩:=Y;exact(jq d Z #[Z,_,Z,aO MS (jq d Z #[Z,_,Z,aO MS (aO Z (no Z Z Z))])])
  |rd c i'=>
   obtain⟨p,rfl,d⟩:=Y
   refine(jq d Z #[Z,_,Z,aO MS (jq d Z #[Z,_,Z,cq MS (jq d Z #[_,Z,dl,Z,.inl #[_,.inl W],jq d Z #[_,dD.k (k:=.inl c) W,?_]])])])
   rw[nt.get]
   refine#[Z,_,Z,?_]
   by_cases z:i'=look (gp (s.flat.take i) C) (.inl c) 0
   ·refine aO (by rw[z];simp) (no Z ?_ Z)
    show(decide _&&true)=true
    rw[Gn z]
    rfl
   ·refine cq (by rw[FY (λe=>z (by injection e))];rfl) ?_
    show eF _ E _ _
    unfold eF
    rw[rt]
    have zz:=ef (by show(decide _&&true)=false;rw[FY z];rfl)
    have T:=q X λb o e=>G _ _ (jm e N) (S2 _ _ e)
    rw[zz]at T
    exact T
  |wr c i'=>
   obtain⟨p,rfl,d⟩:=Y
   refine(jq d Z #[Z,_,Z,cq MS (jq d Z #[_,Z,jq d Z #[dl,_,Z,iw.k (k:=.inl c) W MP,fE _ _ #[_,_,Z,by rw[et,jc];rfl,by rw[eb];rfl,λb o nb e=>?_]]])])
   rw[jk nb]
   exact G _ _ nb e
 ·obtain⟨o3,o4,rfl,W,S,G⟩:=h
  rw[lx,Gz]at S
  have T:=q O λb o e=>G _ _ (jm e N) (S2 _ _ e)
  rw[S]at T
  exact T
end K30
namespace K30
open PySem PySem.Spec PyProof.Rows L2
variable {P:Program}{w:World}{K:Frag}{mg:Str->Option Value}{base:Heap}
noncomputable def yR:V->Bool
 | .int _=>true
 | .str _=>true
 |_=>false
noncomputable def _root_.L2.Tr.In:Tr->Prop
 | .lf v=>yR v=true
 | .tp l=>l.In
 | .nil=>True
 | .cons h t=>h.In/\t.In
noncomputable def _root_.L2.Tr.items:Tr->List Tr
 | .cons h t=>h::t.items
 |_=>[]
theorem QL{H:Hp}:∀{t u:Tr} {x:V} {xs:List V},aS H t x xs->aS H u x xs->t.isL=u.isL->t.In->u.In->t=u
 | .lf v,.lf w,_,_,h,k,_,_,_=>by rw[<- h.1,<- k.1]
 | .lf v,.tp m,_,_,h,k,_,i,_=>by
  obtain⟨_,a,_,e,_⟩:=k
  have e1:=h.1
  rw[e]at e1
  rw[<- e1]at i
  cases i
 | .tp l,.lf v,_,_,k,h,_,_,i=>by
  obtain⟨_,a,_,e,_⟩:=k
  have e1:=h.1
  rw[e]at e1
  rw[<- e1]at i
  cases i
 | .tp l,.tp m,_,_,h,k,_,i,j=>by
  obtain⟨hl,a,xs,e,h1,h2⟩:=h
  obtain⟨hm,b,ys,e',k1,k2⟩:=k
  rw[e]at e'
  cases e'
  rw[h1]at k1
  cases k1
  rw[QL h2 k2 (hl.trans hm.symm) i j]
 | .nil,.nil,_,_,_,_,_,_,_=>rfl
 | .nil,.cons _ _,_,_,h,k,_,_,_=>by
  obtain⟨_,_,_,_,e,_⟩:=k
  have h:_=[]:=h
  rw[e]at h
  cases h
 | .cons _ _,.nil,_,_,k,h,_,_,_=>by
  obtain⟨_,_,_,_,e,_⟩:=k
  have h:_=[]:=h
  rw[e]at h
  cases h
 | .cons h t,.cons h' t',_,_,k,k',_,i,j=>by
  obtain⟨a1,a2,y,ys,e,k1,k2⟩:=k
  obtain⟨b1,b2,y',ys',e',k1',k2'⟩:=k'
  rw[e]at e'
  cases e'
  rw[QL k1 k1' (a1.trans b1.symm) i.1 j.1,QL k2 k2' (a2.trans b2.symm) i.2 j.2]
 | .lf _,.nil,_,_,_,_,z,_,_=>nomatch z
 | .lf _,.cons _ _,_,_,_,_,z,_,_=>nomatch z
 | .tp _,.nil,_,_,_,_,z,_,_=>nomatch z
 | .tp _,.cons _ _,_,_,_,_,z,_,_=>nomatch z
 | .nil,.lf _,_,_,_,_,z,_,_=>nomatch z
 | .nil,.tp _,_,_,_,_,z,_,_=>nomatch z
 | .cons _ _,.lf _,_,_,_,_,z,_,_=>nomatch z
 | .cons _ _,.tp _,_,_,_,_,z,_,_=>nomatch z
theorem Kt{H:Hp}:∀{l:Tr} {xs:List V},l.isL=true->l.In->aS H l .non xs->xs.length=l.items.length/\∀(j:Nat) (x:V),xs[j]?=some x->∃t,l.items[j]?=some t/\t.isL=false/\t.In/\t.dep<=l.dep/\aS H t x []
 | .nil,xs,_,_,h=>by have h:xs=[]:=h;rw[h];exact#[rfl,λj x z=>by simp at z]
 | .cons a t,xs,_,i,h=>by
  obtain⟨a1,a2,y,ys,e,k1,k2⟩:=h
  subst e
  obtain⟨l1,l2⟩:=Kt a2 i.2 k2
  refine#[congrArg (·+1) l1,λj x hx=>?_]
  cases j with
  |zero=>cases hx;exact#[a,rfl,a1,i.1,Nat.le_max_left _ _,k1]
  |succ j=>
   obtain⟨u,h1,h2,h3,h4,h5⟩:=l2 j x (by simpa using hx)
   exact#[u,by simpa [L2.Tr.items] using h1,h2,h3,Nat.le_trans h4 (Nat.le_max_right _ _),h5]
 | .lf _,_,z,_,_=>nomatch z
 | .tp _,_,z,_,_=>nomatch z
theorem Xx{H:Hp}:∀{l m:Tr} {xs ys:List V},l.isL=true->m.isL=true->aS H l .non xs->aS H m .non ys->(l=m↔l.items=m.items)
 | .nil,.nil,_,_,_,_,_,_=>#[λ_=>rfl,λ_=>rfl]
 | .nil,.cons _ _,_,_,_,_,_,_=>#[λz=>(nomatch z),λz=>(nomatch z)]
 | .cons _ _,.nil,_,_,_,_,_,_=>#[λz=>(nomatch z),λz=>(nomatch z)]
 | .cons a t,.cons b u,_,_,_,_,h,k=>by
  obtain⟨_,a2,_,_,_,_,k2⟩:=h
  obtain⟨_,b2,_,_,_,_,k2'⟩:=k
  have ih:=Xx a2 b2 k2 k2'
  refine#[λz=>by cases z;rfl,λz=>?_]
  have z:a::t.items=b::u.items:=z
  injection z with z1 z2
  rw[z1,ih.mpr z2]
 | .lf _,_,_,_,z,_,_,_=>nomatch z
 | .tp _,_,_,_,z,_,_,_=>nomatch z
 | .nil,.lf _,_,_,_,z,_,_=>nomatch z
 | .nil,.tp _,_,_,_,z,_,_=>nomatch z
 | .cons _ _,.lf _,_,_,_,z,_,_=>nomatch z
 | .cons _ _,.tp _,_,_,_,z,_,_=>nomatch z
open Classical in
noncomputable def lX(t u:Tr):Bool:=decide (t=u)
open Classical in
theorem JD{t u:Tr}(h:t=u):lX t u=true:=by unfold lX;exact decide_eq_true h
open Classical in
theorem qh{t u:Tr}(h:t≠u):lX t u=false:=by unfold lX;exact decide_eq_false h
noncomputable def mZ(l m:Tr)(j:Nat):Bool:=match l.items[j]?,m.items[j]? with
 |some t,some u=>lX t u
 |_,_=>true
theorem tM{H:Hp}{l m:Tr}{xs ys:List V}(hl:l.isL=true)(hm:m.isL=true)(h:aS H l .non xs)(k:aS H m .non ys){n n':Nat}(en:n=l.items.length)(en':n'=m.items.length):((List.range (min n n')).all (mZ l m)&&n==n')=lX l m:=by
 by_cases e:l=m
 ·subst e
  rw[JD rfl,en,en',beq_self_eq_true,Bool.and_true,List.all_eq_true]
  intro j _
  unfold mZ
  cases l.items[j]? with
  |none=>rfl
  |some t=>exact JD rfl
 ·rw[qh e]
  have ne:l.items≠m.items:=λz=>e ((Xx hl hm h k).mpr z)
  by_cases el:n=n'
  ·have z:(List.range (min n n')).all (mZ l m)=false:=by
    rw[Bool.eq_false_iff]
    intro z
    rw[List.all_eq_true]at z
    refine ne (List.ext_getElem MP λj h1 h2=>?_)
    have:=z j (List.mem_range.mpr MP)
    unfold mZ at this
    rw[List.getElem?_eq_getElem h1,List.getElem?_eq_getElem h2]at this
    exact Classical.byContradiction λc=>by
     have c2:=qh c
     dsimp only at this
     rw[c2]at this
     cases this
   rw[z]
   rfl
  ·rw[show(n==n')=false from beq_eq_false_iff_ne.mpr el,Bool.and_false]
section
open PySem.SeqAt
variable {X:Cx}
theorem Cw{A:Around}{s:Shared}{v w:V}{a b:Value}(hv:yR v=true)(hw:yR w=true)(ra:ax v a)(rb:ax w b):EqAt A s a b (lX (.lf v) (.lf w)):=by
 cases v with
 |int i=>
  obtain⟨t1,rfl⟩:=ra
  cases w with
  |int j=>
   obtain⟨t2,rfl⟩:=rb
   have z:=EqAt.int_int (A:=A) (s:=s) i t1 j t2
   by_cases e:i=j
   ·subst e;rw[beq_self_eq_true]at z;rw[JD rfl];exact z
   ·rw[beq_eq_false_iff_ne.mpr e]at z;rw[qh (λc=>e (by injection c with c;injection c))];exact z
  |str y=>
   obtain⟨t2,rfl⟩:=rb
   rw[qh (λc=>by injection c with c;cases c)]
   exact EqAt.int_str _ _ _ _
  |_=>cases hw
 |str i=>
  obtain⟨t1,rfl⟩:=ra
  cases w with
  |str j=>
   obtain⟨t2,rfl⟩:=rb
   have z:=EqAt.str_str (A:=A) (s:=s) i t1 j t2
   by_cases e:i=j
   ·subst e;rw[beq_self_eq_true]at z;rw[JD rfl];exact z
   ·rw[beq_eq_false_iff_ne.mpr e]at z;rw[qh (λc=>e (by injection c with c;injection c))];exact z
  |int y=>
   obtain⟨t2,rfl⟩:=rb
   rw[qh (λc=>by injection c with c;cases c)]
   exact EqAt.str_int _ _ _ _
  |_=>cases hw
 |_=>cases hv
theorem CY{pins:List (Addr×Obj)}{σ:L2.St}{H:Hp}{s:Shared}(I:ap X pins σ H s)(n:Nat)(ih:∀(t:Tr) {A:Around},t.dep<=n->A.units+n < cLine->t.In->t.isL=false->∀{u:Tr} {x y:V},u.In->u.isL=false->aS H t x []->aS H u y []->∀a b,ax x a->ax y b->EqAt A s a b (lX t u)){A:Around}{l m:Tr}{a' b':Addr}{as bs:List V}(hn:l.dep<=n)(hu:A.units+n+1 < cLine)(it:l.In)(iu:m.In)(hl:l.isL=true)(hm:m.isL=true)(ha:H a'=some (.tup as))(hb:H b'=some (.tup bs))(ta:aS H l .non as)(tb:aS H m .non bs):RcAt A s (.ref a') (.ref b') (lX (.tp l) (.tp m)):=by
 obtain⟨ia,ra',pa,_⟩:=I.tuple (aA.of (K:=X.K) ha)
 obtain⟨ib,rb',pb,_⟩:=I.tuple (aA.of (K:=X.K) hb)
 obtain⟨l1,l2⟩:=Kt hl it ta
 obtain⟨m1,m2⟩:=Kt hm iu tb
 have z:=RcAt.tuples (A:=A) (e:=mZ l m) (show s.heap.IsTuple a' ia.toArray from pa) (show s.heap.IsTuple b' ib.toArray from pb) MP (λj h1 h2=>?_)
 ·rw[tM hl hm ta tb (by rw[List.size_toArray,<- ra'.length,l1]) (by rw[List.size_toArray,<- rb'.length,m1])]at z
  have e2:lX (.tp l) (.tp m)=lX l m:=by
   by_cases c:l=m
   ·rw[JD c,JD (by rw[c])]
   ·rw[qh c,qh (λk=>c (by injection k))]
  rw[e2]
  exact z
 ·have la:=ra'.length
  have lb:=rb'.length
  have hj:j < as.length:=by simp at h1;omega
  have hj':j < bs.length:=by simp at h2;omega
  obtain⟨u1,q1,r1⟩:=ra'.get (List.getElem?_eq_getElem hj)
  obtain⟨u2,q2,r2⟩:=rb'.get (List.getElem?_eq_getElem hj')
  have e1:ia.toArray[j]=u1:=by
   obtain⟨_,e⟩:=List.getElem?_eq_some_iff.mp q1
   simpa using e
  have e2:ib.toArray[j]=u2:=by
   obtain⟨_,e⟩:=List.getElem?_eq_some_iff.mp q2
   simpa using e
  rw[e1,e2]
  obtain⟨t',g1,g2,g3,g4,g5⟩:=l2 j _ (List.getElem?_eq_getElem hj)
  obtain⟨u',k1,k2,k3,k4,k5⟩:=m2 j _ (List.getElem?_eq_getElem hj')
  have et:mZ l m j=lX t' u':=by unfold mZ;rw[g1,k1]
  rw[et]
  exact ih t' (A:=A.in1) MP (by show A.units+1+n < cLine;omega) g3 g2 k3 k2 g5 k5 _ _ r1 r2
theorem Bm{pins:List (Addr×Obj)}{σ:L2.St}{H:Hp}{s:Shared}(I:ap X pins σ H s):∀(n:Nat) (t:Tr) {A:Around},t.dep<=n->A.units+n < cLine->t.In->t.isL=false->∀{u:Tr} {x y:V},u.In->u.isL=false->aS H t x []->aS H u y []->∀a b,ax x a->ax y b->EqAt A s a b (lX t u):=by
 intro n
 induction n with
 |zero=>
  intro t A hn hu it lt u x y iu lu ht hu' a b ra rb
  cases t with
  |tp l=>exact absurd hn (by show ¬l.dep+1<=0;omega)
  |nil |cons _ _=>cases lt
  |lf v=>
   obtain⟨rfl,_⟩:=ht
   cases u with
   |nil |cons _ _=>cases lu
   |lf w=>
    obtain⟨rfl,_⟩:=hu'
    exact Cw it iu ra rb
   |tp m=>
    obtain⟨_,b',bs,rfl,hb,_⟩:=hu'
    cases rb
    obtain⟨ib,rb',pb,_⟩:=I.tuple (aA.of (K:=X.K) hb)
    rw[qh (λc=>by cases c)]
    cases x<;>first |cases it |skip
    ·obtain⟨t1,rfl⟩:=ra
     exact EqAt.int_tuple _ _ pb MP
    ·obtain⟨t1,rfl⟩:=ra
     exact EqAt.str_tuple _ _ pb MP
 |succ n ih=>
  intro t A hn hu it lt u x y iu lu ht hu' a b ra rb
  cases t with
  |nil |cons _ _=>cases lt
  |lf v=>exact ih (.lf v) (Nat.zero_le _) MP it lt iu lu ht hu' a b ra rb
  |tp l=>
   obtain⟨hl,a',as,rfl,ha,ta⟩:=ht
   cases ra
   obtain⟨ia,ra',pa,_⟩:=I.tuple (aA.of (K:=X.K) ha)
   cases u with
   |nil |cons _ _=>cases lu
   |lf w=>
    obtain⟨rfl,_⟩:=hu'
    rw[qh (λc=>by cases c)]
    cases y<;>first |cases iu |skip
    ·obtain⟨t1,rfl⟩:=rb
     exact EqAt.tuple_int _ _ pa MP
    ·obtain⟨t1,rfl⟩:=rb
     exact EqAt.tuple_str _ _ pa MP
   |tp m=>
    have hu'':=id hu'
    obtain⟨hm,b',bs,rfl,hb,tb⟩:=hu'
    cases rb
    by_cases e:a'=b'
    ·subst e
     rw[JD (QL (H:=H) (t:=.tp l) (u:=.tp m) (x:=.ref a') (xs:=[]) #[hl,a',as,rfl,ha,ta] hu'' rfl it iu)]
     exact EqAt.same _
    ·exact EqAt.of_refs e (CY I n ih (by have:l.dep+1<=n+1:=hn;omega) MP it iu hl hm ha hb ta tb)
def Ee(d:Nat):R2:=λx y H Q=>∃l m:Tr,l.dep < d/\l.In/\m.In/\aS H (.tp l) x []/\aS H (.tp m) y []/\Q (.bl (lX (.tp l) (.tp m))) H
theorem Au{d:Nat}(hu:X.A.units+d+1 < cLine):em X (compareOp .Eq) (Ee d):=by
 intro pins s σ H x y v u Q I rx ry h
 obtain⟨l,m,hd,il,im,⟨hl,a,as,rfl,ha,ta⟩,⟨hm,b,bs,rfl,hb,tb⟩,q⟩:=h
 cases rx
 cases ry
 exact CY I d (Bm I d) MP hu il im hl hm ha hb ta tb X.prog X.w _ _ #[.bl _,H,I,rfl,q]
def Ef:R2:=λx y H Q=>x= .non/\∃a xs,y= .ref a/\H a=some (.tup xs)/\Q (.bl false) H
theorem Av(hu:X.A.units < cLine):em X (compareOp .Eq) Ef:=by
 intro pins s σ H x y v u Q I rx ry h
 obtain⟨rfl,a,xs,rfl,ha,q⟩:=h
 cases rx
 cases ry
 obtain⟨ia,ra',pa,_⟩:=I.tuple (aA.of (K:=X.K) ha)
 exact RcAt.none_tuple (A:=X.A) (s:=s) pa hu X.prog X.w _ _ #[.bl _,H,I,rfl,q]
end
end K30
namespace K30
open PySem PySem.Spec PyProof.Rows L2
variable {P:Program}{w:World}{K:Frag}{mg:Str->Option Value}{base:Heap}
noncomputable abbrev AX:Stmt:=bQ 27
noncomputable abbrev AY:Stmt:=bQ 32
noncomputable abbrev wt:Stmt:=bQ 34
noncomputable abbrev nE:Stmt:=bQ 35
theorem vZ{X:Cx}{st:Stmt}{tb:DE}{h₀:ExceptHandler}{hs:List ExceptHandler}{pos:Pos}(hb:DU X st tb):PS X (.Try [st] (h₀::hs) [] [] pos) (λD σ H=>tb D (λ_ _ _ _ _=>False) σ H):=by
 intro pins s σ H D I h
 refine wpAny_Try_except (wpAny_execs_cons (wpAny_mono (hb pins s σ H D _ I h) (λf s1 q=>?_) λe s1 q=>?_))
 ·cases f with
  |next=>exact wpAny_execs_nil (wpAny_execs_nil q)
  |ret v |brk |cont=>exact q
 ·obtain⟨_,_,_,_,_,_,_,_,_,_,q⟩:=q
  exact q.elim
theorem uh{v u w:V}{ys:List V}:dF (v::u::w::ys) 2=some w:=jN (j:=2) rfl
theorem EW{v u w z:V}{ys:List V}:dF (v::u::w::z::ys) 3=some z:=jN (j:=3) rfl
theorem uP{xs:List V}{i:Nat}{x:V}(h:xs[i]?=some x):xs.drop i=x::xs.drop (i+1):=by
 obtain⟨hi,e⟩:=List.getElem?_eq_some_iff.mp h
 rw[<- e,List.getElem_cons_drop]
noncomputable def B0:Sk->Tr
 | .rd c _=>aQ [a9 "read",aB c]
 | .cl f is _ _=>aQ [a9 "call",a9 f,aQ (is.map aB)]
 | .wr c i=>aQ [a9 "write",aB c,aB i]
 | .ask b=>aQ [a9 "ask",aB b]
 |_=>.nil
theorem oU{call:ip}{Cs k L L1:aL}{t t1:Nat}{e:DD}{w:Sk}(h:eK call Cs k L t e= .ok w L1 t1):B0 w=DI k e:=by
 have lt:=YH h
 cases e with
 |ask ta T=>rw[Kj lt]at h;cases h;rfl
 |st p l=>
  cases l with
  |gv ta T |st x ta T=>unfold eK at h;rw[if_pos lt]at h;cases h
  |rd x ta T=>rw[Q7 lt]at h;cases h;rfl
  |wr ta ub T U=>rw[Q8 lt]at h;cases h;rfl
  |cl x f q ts=>
   rw[JC lt]at h
   cases e:call f (ts.map λc=>c.2.ev k) L (t+1) with
   |long |deep=>rw[e]at h;cases h
   |ok s a L2 t2=>rw[e]at h;cases h;show aQ [_,_,aQ ((ts.map λc=>c.2.ev k).map aB)]=_;rw[List.map_map];rfl
def nR:Sp:=λvs H Q _=>∃(u:V) (w:Sk),vs=[u]/\gq H w u []/\w.ok false/\∀(v:V) (H':Hp),aS H' (B0 w) v []->ae H H'->Q v H'
def nU:Sp:=λvs H Q _=>∃(f:Str) (is:List Int) (s:Sk) (a:Int) (c g e:Addr) (ss:List V) (k:Nat),vs=[.ref c,.int (k:Int)]/\H c=some (.tup [.str f,.ref g,.ref e,.int a])/\H e=some (.tup ss)/\((∃(p h:Addr) (n:Int) (hs:List Int) (u:V),ss[k]?=some (.ref p)/\H p=some (.tup [.int n,.ref h,u])/\H h=some (.tup (hs.map V.int))/\∀(v:V) (H':Hp),aS H' (aQ [a9 "go",aB n,aQ (hs.map aB)]) v []->ae H H'->Q v H')∨(k=ss.length/\∀(v:V) (H':Hp),aS H' (aQ [a9 "give",aB a]) v []->ae H H'->Q v H'))
def sT(nA:Addr)(j:Nat):Sp:=λvs H Q _=>∃(pA p' h':Addr) (v u':V) (i n t t1:Nat) (Cs L L1:aL) (d:Df) (ds:List Df) (ns:List Nat) (xs:List V) (pds:List dy) (ys:List Str) (cc:Ct) (cd:ye) (hs:List Int) (w:Sk),vs=[.ref pA,v,.ref p']/\Ps H nA pA ds ns xs pds/\ds[i]?=some d/\lv H nA d ys v/\(bG nA d)[n]?=some cc/\Bv H ys nA d cc cd/\H p'=some (.tup [.int (n:Int),.ref h',u'])/\H h'=some (.tup (hs.map V.int))/\hs.length=(canon cc.M).length/\(∀z∈hs,eQ z)/\gq H w u' []/\w.ok false/\GT Cs/\GT L/\eK (a5 pds Cs j) Cs (aR (canon cc.M) hs) L t cd.e= .ok w L1 t1/\∀H',ae H H'->BF cd.e w.wh->GT L1->Q (.bl true) H'
def ig(nA:Addr)(j:Nat):Sp:=λvs H Q _=>∃(pA:Addr) (i t t':Nat) (Cs L L':aL) (d:Df) (ds:List Df) (ns:List Nat) (xs:List V) (pds:List dy) (is:List Int) (s:Sk) (a:Int) (u:V),vs=[.ref pA,u]/\Ps H nA pA ds ns xs pds/\ds[i]?=some d/\ns[i]?=some is.length/\(∀z∈is,eQ z)/\ni H d.f is s a u/\s.ok true/\GT Cs/\GT L/\a5 pds Cs j d.f is L t= .ok s a L' t'/\∀H',ae H H'->eQ a->GT L'->Q (.bl true) H'
inductive EM(call:ip)(pd:dy)(nA pA c:Addr)(v:V)(d:Df)(ss:List V)(Cs L':aL)(t':Nat)(a:Int)(H:Hp)(i:Nat)(σ:L2.St)(H':Hp):Prop
 |mk (o4 o5:Option V) (gl:V) (g:Gd) (m tr:Nat) (rest:Sk) (Lr:aL) (e0:σ=[some (.ref pA),some (.ref c),some v,some gl,o4,o5]) (e1:xh H' nA d gl g) (e2:eU call Cs pd m g Lr tr= .ok rest a L' t') (e3:gq H' rest .non (ss.drop i)) (e4:rest.ok true) (e5:GT Lr) (e6:ae H H'):EM call pd nA pA c v d ss Cs L' t' a H i σ H'
theorem yG{A:Around}{k:Nat}(hr:bH k A):A.units+10 < cLine:=by have:=hr.un;omega
theorem C3:al ["what"] ["what"] (aa AX):=bP
theorem Ae{f:Addr}{fd:FuncData}(F:aU K "deed_in" "deed_in" AX f fd):ah P w K mg base aE 1 f fd ["what"] nR:=by
 refine F.ok C3 ?_ λcdv A outer s H vs Q E hr h=>?_
 ·rintro _ _ _ _ ⟨u,w,rfl,_⟩
  rfl
 refine aZ λGq kq=>?_
 obtain⟨u,w,rfl,hw,hok,q⟩:=h
 refine kq ?_
 clear kq
 refine#[_,(jd (jx (jZ (jy (pv 0))) (jg (jo (jJ zh (pv 0) j7 (jG jf)))) jp) (jd (jx (jZ (jy (pv 0))) (jg (jo (ju j8 (jh (ja jl jb)) (jJ zh (jy (pv 0)) j7 (jG jf))))) jp) (jg (jo (pv 0))))),?_]
 cases w with
 |nil |st=>exact hok.elim
 |ask b=>
  obtain⟨p,rfl,h1⟩:=hw
  refine aj λF1 f1=>(jq h1 rfl #[rfl,_,rfl,aO MS (f1 _ _ ?_)])
  clear f1
  refine aj λF1 f1=>(jq h1 rfl #[rfl,_,rfl,aO MS (f1 _ _ ?_)])
  exact#[_,rfl,q _ _ (jD h1 (ji rfl jM (ji rfl jS jC))) (ae.refl _)]
 |wr b b'=>
  obtain⟨p,rfl,h1⟩:=hw
  refine aj λF1 f1=>(jq h1 rfl #[rfl,_,rfl,aO MS (f1 _ _ ?_)])
  clear f1
  refine aj λF1 f1=>(jq h1 rfl #[rfl,_,rfl,aO MS (f1 _ _ ?_)])
  exact#[_,rfl,q _ _ (jD h1 (ji rfl jM (ji rfl jS (ji rfl jS jC)))) (ae.refl _)]
 |rd b b'=>
  obtain⟨p,rfl,h1⟩:=hw
  refine aj λF1 f1=>(jq h1 rfl #[rfl,_,rfl,cq MS #[_,rfl,_,rfl,p,_,rfl,h1,λr H1 hr s1=>q _ _ ?_ s1]])
  have hr:H1 r=some (.tup [.str "read",.int b]):=hr
  exact jD hr (ji rfl jM (ji rfl jS jC))
 |cl f is s a=>
  obtain⟨p,c,g,e,ss,rfl,h1,h2,h3,h4,h5⟩:=hw
  refine aj λF1 f1=>(jq h1 rfl #[rfl,_,rfl,aO MS (f1 _ _ ?_)])
  clear f1
  refine aj λF1 f1=>(jq h1 rfl #[rfl,_,rfl,cq MS #[lO,λq1 nq1=>(jq (ao h1 nq1) lB #[_,rfl,c,_,rfl,ao h2 nq1,λq2 H1 hq2 s1=>#[q1,q2,_,_,rfl,rfl,s1 _ _ jc,hq2,gm,λq3 H2 hq3 s2=>q _ _ ?_ (((je nq1).trans s1).trans s2)]])]])
  have hq3:H2 q3=some (.tup [.str "call",.str f,.ref g]):=hq3
  exact jD hq3 (ji rfl jM (ji rfl jM (ji rfl (Jr (s2 _ _ (s1 _ _ (ao h3 nq1)))) jC)))
theorem C4:al ["chain","number"] ["chain","number"] (aa AY):=bP
theorem Ag{f:Addr}{fd:FuncData}(F:aU K "goal_at" "goal_at" AY f fd)(ml:mg "len"=none):ah P w K mg base aE 1 f fd ["chain","number"] nU:=by
 refine F.ok C4 ?_ λcdv A outer s H vs Q E hr h=>?_
 ·rintro _ _ _ _ ⟨f,is,s,a,c,g,e,ss,k,rfl,_⟩
  rfl
 refine aZ λGq kq=>?_
 obtain⟨f,is,s,a,c,g,e,ss,k,rfl,h1,h2,q⟩:=h
 refine kq ?_
 clear kq
 refine#[_,(jd (jx (jB qO (pv 1) (jP jK rfl ml PySem.boot_len (ja (jy (pv 0)) jb)) (aK _)) (jg (jo (jh (ja jl (ja (jy (pv 0)) jb))))) jp) (jg (jo (ju j8 (jh (ja jl jb)) (jJ zh (jv j5 (jy (pv 0)) (pv 1) (λ_ _=>rfl)) j7 (jG jf)))))),?_]
 have big:=aN
 refine aj λF1 f1=>#[_,rfl,jq h1 uh #[e,_,rfl,.inr (aA.of h2),rfl,_,rfl,?_]]
 rcases q with ⟨p,h,n,hs,u,hk,h3,h4,q⟩ | ⟨ek,q⟩
 ·have hkl:=(List.getElem?_eq_some_iff.mp hk).1
  refine aO (decide_eq_false λz=>?_) (f1 _ _ ?_)
  ·injection z with z
   omega
  clear f1
  refine#[lO,λq1 nq1=>(jq (ao h1 nq1) uh #[_,rfl,e,_,_,_,rfl,rfl,aA.of (ao h2 nq1),jN hk,_,rfl,p,_,rfl,ao h3 nq1,λq2 H1 hq2 s1=>#[q1,q2,_,_,rfl,rfl,s1 _ _ jc,hq2,gm,λq3 H2 hq3 s2=>q _ _ ?_ (((je nq1).trans s1).trans s2)]])]
  have hq3:H2 q3=some (.tup [.str "go",.int n,.ref h]):=hq3
  exact jD hq3 (ji rfl jM (ji rfl jS (ji rfl (Jr (s2 _ _ (s1 _ _ (ao h4 nq1)))) jC)))
 ·subst ek
  refine cq (decide_eq_true rfl) (jq h1 EW #[bX,λq1 nq1=>q _ _ (jD jc (ji rfl jM (ji rfl jS jC))) (je nq1)])
theorem A5:al ["parts","part","step"] ["parts","part","step"] (aa nE):=bP
theorem vw{f:Addr}{fd:FuncData}{j:Nat}{nA fI fD fR:Addr}{fdI fdD fdR:FuncData}(F:aU K "is_done" "is_done" nE f fd)(cI:Cl P w K mg base 1 fI fdI ["what"] nR "deed_in")(cD:Cl P w K mg base 9 fD fdD ["part","n","held"] (d9 nA) "deed_at")(cR:Cl P w K mg base (2*j+20) fR fdR ["parts","chain"] (ig nA j) "right"):ah P w K mg base aE (2*j+21) f fd ["parts","part","step"] (sT nA j):=by
 refine F.ok A5 ?_ λcdv A outer s H vs Q E hr h=>?_
 ·rintro _ _ _ _ ⟨pA,p',h',v,u',i,n,t,t1,Cs,L,L1,d,ds,ns,xs,pds,ys,cc,cd,hs,w,rfl,_⟩
  rfl
 refine aZ λGq kq=>?_
 obtain⟨pA,p',h',v,u',i,n,t,t1,Cs,L,L1,d,ds,ns,xs,pds,ys,cc,cd,hs,w,rfl,hP,hd,Pr,hcc,cr,h1,h2,hl,hi,hw,okw,gC,gL,hdo,q⟩:=h
 refine kq ?_
 clear kq
 refine#[_,(jd (jx (jB (YX (d:=10) (yG hr)) (cI.e hr.m (ja (jy (pv 2)) jb)) (cD.e hr.m (ja (pv 1) (ja (jy (pv 2)) (ja (jy (pv 2)) jb)))) (aK _)) (jg (jo (@zL _ _ _ _))) jp) (jg (jo (CO (qu J4 (jy (jv j5 (pv 2) jf (λ_ _=>rfl))) jl (aK _)) (AG (cR.e hr.m (ja (pv 0) (ja (jy (jv j5 (pv 2) jf (λ_ _=>rfl))) jb)))))))),?_]
 have big:=aN
 obtain⟨enm,ed,dde,ecs,lws,hws⟩:=cr
 have gk:GT (aR (canon cc.M) hs):=qk hi
 have lth:=YH hdo
 refine aj λF1 f1=>(jq h1 uh #[u',w,rfl,hw,okw,λv1 H1 ht1 s1=>#[_,rfl,jq (s1 _ _ h1) gE (jq (s1 _ _ h1) lB #[v,n,h',d,ys,cc,hs,cd.e,rfl,Pr.mono (ae.tm s1),hcc,s1 _ _ h2,hl,hi,ed,dde.mono (ae.tm s1),λud H2 hud s2=>?_])]])
 have S2:=s1.trans s2
 rw[oU hdo]at ht1
 obtain⟨lt,elt,dlt⟩:∃lt:Tr,DI (aR (canon cc.M) hs) cd.e= .tp lt/\lt.dep < 10:=by
  rw[<- oU hdo]
  cases w with
  |nil |st=>exact okw.elim
  |ask b |rd b b'=>exact#[_,rfl,by show max 0 (max 0 0) < 10;decide]
  |wr b b'=>exact#[_,rfl,by show max 0 (max 0 (max 0 0)) < 10;decide]
  |cl f is s a=>exact#[_,rfl,by show max 0 (max 0 (max ((aJ (is.map aB)).dep+1) 0)) < 10;rw[zO];decide]
 rw[elt]at ht1 hud
 refine#[lt,dlt,aS.at (ht1.mono (ae.tm s2)),aS.at hud,false,rfl,aO rfl (f1 _ _ ?_)]
 clear f1
 obtain⟨cnm,e,cws⟩:=cd
 have hdo:eK (a5 pds Cs j) Cs (aR (canon cc.M) hs) L t e= .ok w L1 t1:=hdo
 have dde:uo H ys e:=dde
 have ecs:e.Cs d.b.calls:=ecs
 have hw2:=hw.mono (ae.tm S2)
 cases e with
 |ask ta T=>
  rw[Kj lth]at hdo
  cases hdo
  obtain⟨p3,rfl,g3⟩:=hw2
  refine(jq (S2 _ _ h1) uh #[p3,_,_,_,rfl,rfl,aA.of g3,gE,rfl,true,MS,oh (q H2 S2 ?_ gL)])
  show(if T.ev (aR (canon cc.M) hs)=0 then (0:Int) else 1)=0∨(if T.ev (aR (canon cc.M) hs)=0 then (0:Int) else 1)=1
  split
  ·exact .inl rfl
  ·exact .inr rfl
 |st p0 lf=>
  obtain⟨vs0,_,hlv,okl,cut⟩:=dde
  cases lf with
  |gv ta T |st x ta T=>cases cut
  |rd x ta T=>
   rw[Q7 lth]at hdo
   cases hdo
   obtain⟨p3,rfl,g3⟩:=hw2
   refine(jq (S2 _ _ h1) uh #[p3,_,_,_,rfl,rfl,aA.of g3,gE,rfl,true,MS,oh (q H2 S2 ?_ gL)])
   exact qv gL (qv gC qW)
  |wr ta ub T U=>
   rw[Q8 lth]at hdo
   cases hdo
   obtain⟨p3,rfl,g3⟩:=hw2
   refine(jq (S2 _ _ h1) uh #[p3,_,_,_,rfl,rfl,aA.of g3,gE,rfl,true,MS,oh (q H2 S2 ?_ (gL.put _ (qy gk okl.2.1)))])
   exact trivial
  |cl x f' q' ts=>
   rw[JC lth]at hdo
   cases hcal:a5 pds Cs j f' (ts.map λc=>c.2.ev (aR (canon cc.M) hs)) L (t+1) with
   |long |deep=>rw[hcal]at hdo;cases hdo
   |ok s2' a2 L2 t2=>
    rw[hcal]at hdo
    cases hdo
    obtain⟨p3,c3,g3,e3,ss3,eu,r1,r2,r3,r4,r5⟩:=hw2
    subst eu
    have ecs:(f',ts.length)∈(ds.map Df.f).zip ns:=hP.cs hd _ ecs
    obtain⟨i2,d2,hd2,hn2,rfl⟩:=hP.find ecs
    refine(jq (S2 _ _ h1) uh #[p3,_,_,_,rfl,rfl,aA.of r1,gE,rfl,false,MS,og #[_,rfl,jq (S2 _ _ h1) uh #[p3,_,_,_,rfl,rfl,aA.of r1,lB,pA,i2,_,_,Cs,L,_,d2,ds,ns,xs,pds,ts.map λc=>c.2.ev (aR (canon cc.M) hs),s2',a2,.ref c3,rfl,hP.mono (ae.tm S2),hd2,by rw[List.length_map];exact hn2,λz hz=>?_,#[c3,g3,e3,ss3,rfl,r2,r3,r4,r5],okw,gC,gL,hcal,λH3 s3 ia gl=>q H3 (S2.trans s3) ia gl]]])
    obtain⟨c0,hc0,rfl⟩:=List.mem_map.mp hz
    exact qy gk (okl.2.2 c0 hc0).1
theorem iE:al ["parts","chain","part","goal","number","step"] ["parts","chain"] (aa wt):=bP
theorem Am{f:Addr}{fd:FuncData}{j:Nat}{nA fB fF fO fG fD:Addr}{fdB fdF fdO fdG fdD:FuncData}(F:aU K "right" "right" wt f fd)(cB:Cl P w K mg base 2 fB fdB ["ones","f","args"] fV "begun")(cF:Cl P w K mg base 9 fF fdF ["part","args"] (eh nA) "first_of")(cO:Cl P w K mg base 9 fO fdO ["part","step"] (oq nA) "onward")(cG:Cl P w K mg base 1 fG fdG ["chain","number"] nU "goal_at")(cD:Cl P w K mg base (2*j+21) fD fdD ["parts","part","step"] (sT nA j) "is_done")(ml:mg "len"=none)(men:mg "enumerate"=none):ah P w K mg base aE (2*j+22) f fd ["parts","chain"] (ig nA (j+1)):=by
 refine F.ok iE ?_ λcdv A outer s H vs Q E hr h=>?_
 ·rintro _ _ _ _ ⟨pA,i,t,t',Cs,L,L',d,ds,ns,xs,pds,is,s,a,u,rfl,_⟩
  rfl
 refine aZ λGq kq=>?_
 obtain⟨pA,i,t,t',Cs,L,L',d,ds,ns,xs,pds,is,s,a,u,rfl,hP,hd,hn,his,hc,hok,gC,gL,hrun,q⟩:=h
 refine kq ?_
 clear kq
 refine#[_,(jd (vZ (@YU _ _ _ _ (2) _ _ iE.nd rfl (Or.inl rfl) (@Xe _ _ _ _ _ _ _ _ _ _ _ _ _ _ (ah.calm (CX:=eO P w) cB.g) hr.m rfl cB.m cB.k cB.b .nil (ja (pv 0) (ja (jy (pv 1)) (ja (jy (pv 1)) jb))) MO MT MT) MT (by first |exact .inl rfl |exact .inr rfl))) (jd (jA 3 iE.nd (cF.e hr.m (ja (pv 2) (ja (jy (pv 1)) jb)))) (jd (j9 PassesOwn.never rfl (Xi rfl men (ja (jy (pv 1)) jb)) (ze (n:=2) rfl (jz (jw (i:=4) iE.nd rfl (Or.inl rfl)) (jz (jw (i:=5) iE.nd rfl (Or.inl rfl)) j6))) (jd (jx (PW.pt (Qa (jB (YX (d:=10) (yG hr)) (pv 3) (cG.e hr.m (ja (pv 1) (ja (pv 4) jb))) (aK _)) (Jk (rA (rE (cD.e hr.m (ja (pv 0) (ja (pv 2) (ja (pv 5) jb))))))))) (jg (jo (@zL _ _ _ _))) jp) (jg (jA 3 iE.nd (cO.e hr.m (ja (pv 2) (ja (pv 5) jb))))))) (jg (jo (qu (vP (d:=10) (yG hr)) (pv 3) (cG.e hr.m (ja (pv 1) (ja (jP jK rfl ml PySem.boot_len (ja (jy (pv 1)) jb)) jb))) (aK _))))))),?_]
 have big:=aN
 obtain⟨c,g,e,ss,rfl,h1,h2,h3,h4⟩:=id hc
 obtain⟨v,hv,tv,hnm,hbf⟩:=hP.at hd
 obtain⟨ys,pd,hPr,hpd,pr,hpk⟩:=hP.part hd hv
 obtain⟨pp0,prr,ev0,hp0⟩:=Zj tv
 obtain⟨ps,hps,hpl,hp100⟩:=hP.pa.2 i d _ hd hn
 have eps:ps=pd.ps:=by
  have z:=hps.symm.trans pr.ps
  injection z with z
  injection z with z
  exact(List.map_inj_right λa b e=>by injection e).mp z
 subst eps
 have etot:eU (a5 pds Cs j) Cs pd 62 (fh (mn pd) (cp pd.way.sets (aR pd.ps is)) pd.way.goal) L t= .ok s a L' t':=by
  have z:(match dU pds d.f with |none=>OC.long |some pd=>eU (a5 pds Cs j) Cs pd 62 (fh (mn pd) (cp pd.way.sets (aR pd.ps is)) pd.way.goal) L t)= .ok s a L' t':=hrun
  rw[hpk]at z
  exact z
 refine aj λF1 f1=>#[_,rfl,jq h1 gE (jq h1 lB #[pA,g,d.f,xs,_,i,v,pp0,d.pa,prr,_,rfl,hP.at',hv,ev0,hp0,hps,h2,by rw[List.length_map,List.length_map];omega,hbf,f1 _ _ ?_])]
 clear f1
 have gz:GT (aR pd.ps is):=qk his
 refine aj λF1 f1=>#[_,rfl,jq h1 lB #[v,g,d,ys,pd.ps,is,pd.way,rfl,hPr,hps,MP,h2,hpl.symm,his,pr.wy,pr.wv,λgl H1 hgl s1=>f1 _ _ ?_]]
 clear f1
 have go0:=QI (H:=H) hgl (zV pr.wv.sets gz) pr.wv.goal
 rw[pr.nms]at go0
 refine aj λF1 f1=>eB λJ jj=>(jq (s1 _ _ h1) uh #[e,rfl,#[_,aA.of (s1 _ _ h3)],jj _ _ ?_])
 clear jj
 refine KE (K:=K) (xs:=ss) (EM (a5 pds Cs j) pd nA pA c v d ss Cs L' t' a H) #[none,none,gl,_,62,t,s,L,rfl,go0,etot,h4.mono (ae.tm s1),hok,gL,s1] (λk σ Hx _ h=>?_) ?_ (λσ Hx h=>f1 _ _ ?_)
 ·obtain⟨_,_,_,_,_,_,_,_,_,_,_,_,_,_,s7⟩:=h
  exact aA.of (s7 _ _ h3)
 ·intro E rt k x pp σ H4 hxk npp fE Gq kq h
  clear f1
  obtain⟨o4,o5,gl4,gd,m,tr,rest,Lr,rfl,w1,w2,w3,w4,w5,s4⟩:=h
  have s5:ae H4 (af H4 pp (.tup [.int k,x])):=je npp
  have e5:af H4 pp (.tup [.int k,x]) pp=some (.tup [.int k,x]):=jc
  refine kq ?_
  clear kq
  generalize af H4 pp (.tup [.int k,x])=H5 at s5 e5 ⊢
  have S5:=s4.trans s5
  have tm5:=ae.tm S5
  refine#[pp,_,rfl,aA.of e5,rfl,_,_,rfl,_,_,rfl,rfl,?_]
  rw[uP hxk]at w3
  have w1:=w1.mono (ae.tm s5)
  have w3:=w3.mono (ae.tm s5)
  cases w1 with
  |give p b ee h5 ib=>
   obtain⟨er,_,_⟩:=Xv w2
   rw[er]at w3
   have w3:_::_=[]:=w3
   cases w3
  |go p hv' n cc hs ee h5 h6 hcc hl hi=>
   subst ee
   obtain⟨cd,w,L1,t1,r,m',hcd,hdo,er,hgo⟩:=pq w2
   subst er
   obtain⟨p',h',u',ys',ex,k1,k2,k3,k4⟩:=w3
   injection ex with ex ey
   subst ex
   subst ey
   have cr:=(pr.cs n cc cd hcc hcd).mono tm5
   have enm:cd.nm=canon cc.M:=cr.nm
   rw[enm]at hdo
   have Pr5:=hPr.mono tm5
   have P5:=hP.mono tm5
   obtain⟨pa,ca,wv,cs,ev,hpa,hw,hca,hcs⟩:=Pr5.parts
   obtain⟨ka,na,wa,dv,wvs,hx,cu⟩:=Pr5.cut hcs hcc
   have gk:GT (aR (canon cc.M) hs):=qk hi
   show dO (io _ _ _) (dC _ _) E [some (.ref pA),some (.ref c),some v,some (.ref p),some (.int k),some (.ref p')] H5
   refine aj λF1 f1=>#[_,rfl,_,rfl,_,rfl,d.f,is,s,a,c,g,e,ss,k,rfl,S5 _ _ h1,S5 _ _ h3,.inl #[p',h',n,hs,u',hxk,k1,k2,λv6 H6 hv6 s6=>?_]]
   refine#[aJ [a9 "go",aB (n:Int),aQ (hs.map aB)],by show max 0 (max 0 (max ((aJ (hs.map aB)).dep+1) 0)) < 10;rw[zO];decide,aS.at (jD (s6 _ _ h5) (ji rfl jM (ji rfl jS (ji rfl (Jr (s6 _ _ h6)) jC)))),aS.at hv6,false,rfl,og #[_,rfl,_,rfl,_,rfl,pA,p',h',v,u',i,n,tr,t1,Cs,Lr,L1,d,ds,ns,xs,pds,ys,cc,cd,hs,w,rfl,P5.mono (ae.tm s6),hd,Pr5.mono (ae.tm s6),hcc,cr.mono (ae.tm s6),s6 _ _ k1,s6 _ _ k2,hl,hi,k3.mono (ae.tm s6),w4.1,gC,w5,hdo,λH7 s7 ft gl1=>#[_,rfl,aO rfl (f1 _ _ ?_)]]]
   clear f1
   have s57:=s6.trans s7
   have tm7:=ae.tm s57
   have hside:w.wh.side < cc.ws.length:=by
    rw[cu.v.len,<- cr.ed]
    have okw:=w4.1
    cases ee:cd.e with
    |ask ta T=>show _ < 2;unfold Wh.side;split<;>(try split)<;>omega
    |st p0 l=>
     rw[ee]at ft
     show _ < 1
     cases w<;>first |exact Nat.one_pos |exact okw.elim | (cases l<;>exact ft.elim)
   obtain⟨wd',hwd0⟩:∃wd',cd.ws[w.wh.side]?=some wd':=#[_,List.getElem?_eq_getElem (by rw[cr.len];exact hside)]
   obtain⟨ewd',hwd'⟩:=cr.ws _ _ wd' (List.getElem?_eq_getElem hside) hwd0
   have sv:iA H7 nA d ys v p' n h' u' cc hs w.wh cd.e wd':=#[Pr5.mono tm7,tm7 _ _ k1,hcc,tm7 _ _ k2,hl,hi,(Du w4.1 k3).mono tm7,cr.ed,cr.dv.mono tm7,ft,by rw[ewd'];exact List.getElem?_eq_getElem hside,hwd'.mono tm7]
   refine#[_,rfl,_,rfl,v,u',p',h',n,d,ys,cc,hs,w.wh,cd.e,wd',rfl,sv,λu2 H8 hu2 s8=>fE _ _ ?_]
   have goY:=QI (H:=H7) hu2 (zV sv.wdv.sets (XZ ft gk)) sv.wdv.goal
   have eon:oA pd cd hs w.wh=fh (mn pd) (cp wd'.sets (n8 cd.e w.wh (aR (canon cc.M) hs))) wd'.goal:=by
    unfold oA
    rw[hwd0,enm]
   rw[pr.nms,<- eon]at goY
   exact#[_,_,u2,_,m',t1,r,L1,rfl,goY,hgo,k4.mono (tm7.trans (ae.tm s8)),w4.2,gl1,(S5.trans s57).trans s8]
 ·obtain⟨o4,o5,gl4,gd,m,tr,rest,Lr,rfl,w1,w2,w3,w4,w5,s4⟩:=h
  rw[List.drop_length]at w3
  cases rest with
  |st n hs w r=>obtain⟨_,_,_,_,z,_⟩:=w3;cases z
  |ask b |rd b c |wr b c |cl f is s a=>exact w4.elim
  |nil=>
  cases w1 with
  |go p hv' n cc hs ee h5 h6 hcc hl hi=>
   obtain⟨_,_,_,_,_,_,_,_,z,_⟩:=pq w2
   cases z
  |give p b ee h5 ib=>
   subst ee
   obtain⟨_,eab,eL⟩:=Xv w2
   subst eab
   subst eL
   refine#[_,rfl,_,rfl,jq (s4 _ _ h1) uh #[e,_,rfl,.inr (aA.of (s4 _ _ h3)),d.f,is,s,a,c,g,e,ss,ss.length,rfl,s4 _ _ h1,s4 _ _ h3,.inr #[rfl,λv6 H6 hv6 s6=>?_]]]
   exact#[aJ [a9 "give",aB a],by show max 0 (max 0 0) < 10;decide,aS.at (jD (s6 _ _ h5) (ji rfl jM (ji rfl jS jC))),aS.at hv6,q H6 (s4.trans s6) ib w5]
theorem Zk{call:ip}{Cs L L':aL}{pd:dy}{m t t' n:Nat}{hs:List Int}{a:Int}{rest:Sk}(h:eU call Cs pd (m+1) (.go n hs) L t= .ok rest a L' t'):∃cd w L1 t1 r,pd.cs[n]?=some cd/\eK call Cs (aR cd.nm hs) L t cd.e= .ok w L1 t1/\rest= .st (n:Int) hs w r/\eU call Cs pd m (oA pd cd hs w.wh) L1 t1= .ok r a L' t':=by
 unfold eU at h
 cases e:pd.cs[n]? with
 |none=>rw[e]at h;cases h
 |some cd=>
  rw[e]at h
  dsimp only at h
  cases e2:eK call Cs (aR cd.nm hs) L t cd.e with
  |long |deep=>rw[e2]at h;cases h
  |ok w L1 t1=>
   rw[e2]at h
   dsimp only at h
   cases e3:eU call Cs pd m (oA pd cd hs w.wh) L1 t1 with
   |long |deep=>rw[e3]at h;cases h
   |ok r b L2 t2=>rw[e3]at h;cases h;exact#[cd,w,L1,t1,r,rfl,e2,rfl,e3]
theorem Cp{call:ip}{Cs L L' L1:aL}{pd:dy}{cd:ye}{m t t' t1 n:Nat}{hs:List Int}{a:Int}{w r:Sk}(h1:pd.cs[n]?=some cd)(h2:eK call Cs (aR cd.nm hs) L t cd.e= .ok w L1 t1)(h3:eU call Cs pd m (oA pd cd hs w.wh) L1 t1= .ok r a L' t'):eU call Cs pd (m+1) (.go n hs) L t= .ok (.st (n:Int) hs w r) a L' t':=by
 unfold eU
 rw[h1]
 dsimp only
 rw[h2]
 dsimp only
 rw[h3]
 rfl
def uq(Cs:aL)(call:ip):Prop:=∀f is L t s a L' t',call f is L t= .ok s a L' t'->gV Cs s.flat L=true/\L'=gp s.flat L
def yg(C2:aL)(call call2:ip):Prop:=∀f is L t s a L' t',call f is L t= .ok s a L' t'->gV C2 s.flat L=true->call2 f is L t= .ok s a L' t'
theorem Zl{call:ip}{Cs k L L1:aL}{t t1:Nat}{e:DD}{w:Sk}(hc:uq Cs call)(h:eK call Cs k L t e= .ok w L1 t1):gV Cs (w::w.flat) L=true/\L1=gp (w::w.flat) L:=by
 have lt:=YH h
 cases e with
 |ask ta T=>rw[Kj lt]at h;cases h;exact#[rfl,rfl]
 |st p l=>
  cases l with
  |gv ta T |st x ta T=>unfold eK at h;rw[if_pos lt]at h;cases h
  |rd x ta T=>rw[Q7 lt]at h;cases h;exact#[by show(decide _&&true)=true;rw[decide_eq_true rfl];rfl,rfl]
  |wr ta ub T U=>rw[Q8 lt]at h;cases h;exact#[rfl,rfl]
  |cl x f q ts=>
   rw[JC lt]at h
   cases e:call f (ts.map λc=>c.2.ev k) L (t+1) with
   |long |deep=>rw[e]at h;cases h
   |ok s a L2 t2=>rw[e]at h;cases h;have z:=hc _ _ _ _ _ _ _ _ e;exact z
theorem uO{call call2:ip}{Cs C2 k L L1:aL}{t t1:Nat}{e:DD}{w:Sk}(hc:yg C2 call call2)(h:eK call Cs k L t e= .ok w L1 t1)(g:gV C2 (w::w.flat) L=true):eK call2 C2 k L t e= .ok w L1 t1:=by
 have lt:=YH h
 cases e with
 |ask ta T=>rw[Kj lt]at h ⊢;exact h
 |st p l=>
  cases l with
  |gv ta T |st x ta T=>unfold eK at h;rw[if_pos lt]at h;cases h
  |rd x ta T=>
   rw[Q7 lt]at h ⊢
   cases h
   have g:(decide (look L (.inl (T.ev k)) (look C2 (.inl (T.ev k)) 0)=look L (.inl (T.ev k)) (look Cs (.inl (T.ev k)) 0))&&true)=true:=g
   rw[Bool.and_true]at g
   rw[of_decide_eq_true g]
  |wr ta ub T U=>rw[Q8 lt]at h ⊢;exact h
  |cl x f q ts=>
   rw[JC lt]at h ⊢
   cases e:call f (ts.map λc=>c.2.ev k) L (t+1) with
   |long |deep=>rw[e]at h;cases h
   |ok s a L2 t2=>
    rw[e]at h
    cases h
    rw[hc _ _ _ _ _ _ _ _ e g]
    rfl
theorem Zm{call:ip}{Cs:aL}{pd:dy}(hc:uq Cs call):∀(m:Nat) {g:Gd} {L L':aL} {t t':Nat} {rest:Sk} {a:Int},eU call Cs pd m g L t= .ok rest a L' t'->gV Cs rest.flat L=true/\L'=gp rest.flat L
 |0,_,_,_,_,_,_,_,h=>by cases h
 |m+1,.give b,L,L',t,t',rest,a,h=>by cases h;exact#[rfl,rfl]
 |m+1,.go n hs,L,L',t,t',rest,a,h=>by
  obtain⟨cd,w,L1,t1,r,_,h2,rfl,h3⟩:=Zk h
  obtain⟨b1,b2⟩:=Zl hc h2
  obtain⟨c1,c2⟩:=Zm hc m h3
  show gV Cs ((w::w.flat)++r.flat) L=true/\L'=gp ((w::w.flat)++r.flat) L
  rw[QK,QT,b1,<- b2]
  exact#[c1,c2]
theorem Zn{call call2:ip}{Cs C2:aL}{pd:dy}(hf:uq Cs call)(hc:yg C2 call call2):∀(m:Nat) {g:Gd} {L L':aL} {t t':Nat} {rest:Sk} {a:Int},eU call Cs pd m g L t= .ok rest a L' t'->gV C2 rest.flat L=true->eU call2 C2 pd m g L t= .ok rest a L' t'
 |0,_,_,_,_,_,_,_,h,_=>by cases h
 |m+1,.give b,L,L',t,t',rest,a,h,_=>h
 |m+1,.go n hs,L,L',t,t',rest,a,h,k=>by
  obtain⟨cd,w,L1,t1,r,h1,h2,rfl,h3⟩:=Zk h
  obtain⟨b1,b2⟩:=Zl hf h2
  have k:gV C2 ((w::w.flat)++r.flat) L=true:=k
  rw[QK,<- b2,Bool.and_eq_true]at k
  exact Cp h1 (uO hc h2 k.1) (Zn hf hc m h3 k.2)
theorem q9{pds:List dy}{Cs:aL}:∀j,uq Cs (a5 pds Cs j)
 |0=>λ_ _ _ _ _ _ _ _ h=>by cases h
 |j+1=>λf is L t s a L' t' h=>by
  have h:(match dU pds f with |none=>OC.long |some pd=>eU (a5 pds Cs j) Cs pd 62 (fh (mn pd) (cp pd.way.sets (aR pd.ps is)) pd.way.goal) L t)= .ok s a L' t':=h
  cases e:dU pds f with
  |none=>rw[e]at h;cases h
  |some pd=>rw[e]at h;exact Zm (q9 j) 62 h
theorem Xy{pds:List dy}{Cs C2:aL}:∀j,yg C2 (a5 pds Cs j) (a5 pds C2 j)
 |0=>λ_ _ _ _ _ _ _ _ h _=>by cases h
 |j+1=>λf is L t s a L' t' h k=>by
  have h:(match dU pds f with |none=>OC.long |some pd=>eU (a5 pds Cs j) Cs pd 62 (fh (mn pd) (cp pd.way.sets (aR pd.ps is)) pd.way.goal) L t)= .ok s a L' t':=h
  show(match dU pds f with |none=>OC.long |some pd=>eU (a5 pds C2 j) C2 pd 62 (fh (mn pd) (cp pd.way.sets (aR pd.ps is)) pd.way.goal) L t)= .ok s a L' t'
  cases e:dU pds f with
  |none=>rw[e]at h;cases h
  |some pd=>rw[e]at h;exact Zn (q9 j) (Xy j) 62 h k
theorem yb(C:aL)(ws:List Sk):gn ws C=gV C ws []:=YI ws C [] λc=>(Jv tS _).symm
theorem Ja{pds:List dy}{Cs C2:aL}{j t t':Nat}{f:Str}{is:List Int}{s:Sk}{a:Int}{L':aL}(h:a5 pds Cs j f is [] t= .ok s a L' t'):gn s.flat C2=true↔∃L2 t2,a5 pds C2 j f is [] t= .ok s a L2 t2:=by
 rw[yb]
 exact#[λk=>#[L',t',Xy j _ _ _ _ _ _ _ _ h k],λ#[L2,t2,k]=>(q9 j _ _ _ _ _ _ _ _ k).1]
noncomputable def cf(C:aL):List Sk->aL->Bool
 | [],_=>true
 | .wr c _::r,W=>cf C r (aM W (.inl c) (.bl true))
 | .rd c i::r,W=>((bh W (.inl c)).isSome||decide (look C (.inl c) 0=i))&&cf C r W
 |_::r,W=>cf C r W
noncomputable def eZ:List Sk->aL->aL
 | [],W=>W
 | .wr c _::r,W=>eZ r (aM W (.inl c) (.bl true))
 |_::r,W=>eZ r W
theorem Kl{C:aL}:∀(a b:List Sk) (k:aL),cf C (a++b) k=(cf C a k&&cf C b (eZ a k))
 | [],_,_=>rfl
 |w::a,b,k=>by
  cases w with
  |rd c i=>show(_&&cf C (a++b) k)=(_&&cf C a k&&cf C b (eZ a k));rw[Kl a b k,Bool.and_assoc]
  |_=>exact Kl a b _
theorem tX:∀(a b:List Sk) (k:aL),eZ (a++b) k=eZ b (eZ a k)
 | [],_,_=>rfl
 |w::a,b,k=>by cases w<;>exact tX a b _
theorem X1:∀(a:List Sk) (k:aL),(eZ a k).length<=k.length+a.length
 | [],_=>Nat.le_refl _
 |w::a,k=>by
  have h:=X1 a k
  cases w with
  |wr c i=>have h1:=X1 a (aM k (.inl c) (.bl true));have h2:=QS k (.inl c) (.bl true);show(eZ a (aM k (.inl c) (.bl true))).length<=k.length+(a.length+1);omega
  |_=>show(eZ a k).length<=k.length+(a.length+1);omega
theorem YJ{Cs C2:aL}:∀(ws:List Sk) (k W:aL),NT k->(∀c,(bh k (.inl c)).isSome=(bh W (.inl c)).isSome)->gV Cs ws k=true->gV C2 ws k=cf C2 ws W
 | [],_,_,_,_,_=>rfl
 |w::ws,k,W,hk,e,h=>by
  cases w with
  |wr c i=>exact YJ ws _ _ (hk.put _ _) (λc'=>by rw[Kn,Kn];split<;>first |rfl |exact e c') h
  |rd c i=>
   have h:(decide (look k (.inl c) (look Cs (.inl c) 0)=i)&&gV Cs ws k)=true:=h
   rw[Bool.and_eq_true]at h
   have h1:=of_decide_eq_true h.1
   show(decide (look k (.inl c) (look C2 (.inl c) 0)=i)&&gV C2 ws k)=(((bh W (.inl c)).isSome||decide (look C2 (.inl c) 0=i))&&cf C2 ws W)
   rw[YJ ws k W hk e h.2,<- e c]
   cases z:bh k (.inl c) with
   |none=>rw[Jv z];rfl
   |some v=>
    have e1:∀y,look k (.inl c) y=look k (.inl c) 0:=λy=>by
     have g1:=hk.get (.inl c) y
     have g2:=hk.get (.inl c) 0
     rw[z]at g1 g2
     have g3:V.int (look k (.inl c) y)= .int (look k (.inl c) 0):=g1.symm.trans g2
     injection g3
    rw[e1]at h1
    rw[e1,h1,decide_eq_true rfl]
    rfl
  |_=>exact YJ ws k W hk e h
noncomputable abbrev ms:Stmt:=bQ 72
noncomputable abbrev AW:Stmt:=bQ 73
noncomputable abbrev rS:Stmt:=bQ 74
noncomputable abbrev mx:Stmt:=bQ 76
def i6:Sp:=λv H Q _=>∃p:Addr,v=[.ref p]/\aq H p/\∀(l:Addr) (C:aL) (h:Hp),H l=none->h l=some (.dK C)->GT C->C.length<=13->aq h p->au p H h->Q (.ref l) h
inductive CL(p l:Addr)(H:Hp)(i:Nat)(σ:L2.St)(H':Hp):Prop
 |mk (o2 o3:Option V) (C:aL) (e0:σ=[some (.ref p),some (.ref l),o2,o3]) (e1:H' l=some (.dK C)) (e2:GT C) (e3:C.length<=i) (e4:aq H' p) (e5:au p H H'):CL p l H i σ H'
theorem pO:NX (.lst x):=λa z=>by cases z
theorem y7:NX (.tup x):=λa z=>by cases z
theorem Kp.tm(k:Kp H h):ai H h:=λb x e=>k b _ y7 e
theorem Kp.seq{K:Frag}(e:Kp H b)(h:aP K H a x):aP K b a x:=by
 rcases h with (h | ⟨o,h⟩) |h
 ·exact .inl (.inl (e _ _ pO h))
 ·exact .inl (.inr #[o,e _ _ (by intro c z;cases z) h])
 ·exact .inr h
structure Xs(K:Frag)(mg:Str->Option Value)(TL TD:Addr):Prop where
 gL:mg "TooLong"=some (.ref TL)
 hL:clsIn K TL≠none
 tL:typeIn K (.ref TL)=some (.type "type")
 mL:mroIn K TL (.type "BaseException")=some true
 gD:mg "TooDeep"=some (.ref TD)
 hD:clsIn K TD≠none
 tD:typeIn K (.ref TD)=some (.type "type")
 mD:mroIn K TD (.type "BaseException")=some true
 LL:mroIn K TL (.ref TL)=some true
 DL:mroIn K TD (.ref TL)=some false
 DD:mroIn K TD (.ref TD)=some true
theorem AB{H:Hp}{D:List Df}{n:List Nat}(h:lD H D n){i:Nat}{d:Df}{p:List Str}(a:D[i]?=some d)(c:H d.pa=some (.tup (p.map V.str))):n[i]?=some p.length:=by
 have f:i < D.length:=(List.getElem?_eq_some_iff.mp a).1
 have b:n[i]?=some (n[i]'(by rw[<- h.1];exact f)):=Fu _
 obtain⟨g,e,l,_⟩:=h.2 i d _ a b
 rw[c]at e
 injection e with e
 injection e with e
 have:=Hf List.length e
 rw[Fy,Fy]at this
 rw[b,<- l,this]
theorem CB:NX (.dK x):=λa z=>by cases z
def oF(H:Hp)(X:List V):Prop:=∀x∈X,∃(q:Addr) (c i:Int),x= .ref q/\H q=some (.tup [.int c,.int i])/\eQ i
theorem oF.mono(k:ai H a)(h:oF H b):oF a b:=λx d=>let #[q,c,i,e,f,g]:=h x d;#[q,c,i,e,k _ _ f,g]
def sS:Sp:=λv H Q _=>∃(p:Addr) (m:Int),v=[.ref p,.int m]/\aq H p/\0 < m/\m<=100/\∀(l:Addr) (x:List V) (h:Hp),H l=none->h l=some (.lst x)->oF h x->x.length<=100->aq h p->au p H h->Q (.ref l) h
inductive EE(p l:Addr)(m:Int)(H:Hp)(i:Nat)(σ:L2.St)(H':Hp):Prop
 |mk (o3 o4:Option V) (xs:List V) (e0:σ=[some (.ref p),some (.int m),some (.ref l),o3,o4]) (e1:H' l=some (.lst xs)) (e2:oF H' xs) (e3:xs.length<=i) (e4:aq H' p) (e5:au p H H'):EE p l m H i σ H'
def Fe(r R:R2):R2:=λx y H Q=>r x y H Q∨R x y H Q
theorem Ay{X:Cx}(b:em X o c)(d:em X o e):em X o (Fe c e):=λp s a H x y v u Q I r R h=>h.elim (b p s a H x y v u Q I r R) (d p s a H x y v u Q I r R)
structure wY(H:Hp)(nA pA ag cA:Addr)(i:Nat)(Cs:aL)(d:Df)(ds:List Df)(ns:List Nat)(xs:List V)(pds:List dy)(is:List Int):Prop where
 ps:Ps H nA pA ds ns xs pds
 xl:xs.length<=1000
 hd:ds[i]?=some d
 hn:ns[i]?=some is.length
 ag:H ag=some (.tup (is.map V.int))
 hi:∀z∈is,eQ z
 il:is.length<=100
 ce:H cA=some (.dK Cs)
 gc:GT Cs
theorem wY.kp(h:wY H n a A c i C d D N x p I)(k:Kp H b):wY b n a A c i C d D N x p I:=#[h.ps.mono k.tm,h.xl,h.hd,h.hn,k.tm _ _ h.ag,h.hi,h.il,k _ _ CB h.ce,h.gc]
def mN(n:Addr):Sp:=λv H Q _=>∃(b A e:Addr) (i:Nat) (C:aL) (d:Df) (D:List Df) (N:List Nat) (x:List V) (p:List dy) (I:List Int),v=[.ref b,.str d.f,.ref A,.ref e]/\wY H n b A e i C d D N x p I/\
 (∀(c:Addr) (s:Sk) (a:Int) (L:aL) (h:Hp),a5 p C 16 d.f I [] 0= .ok s a L s.size->ni h d.f I s a (.ref c)->s.ok true->s.dep<=15->s.size<=60->Kp H h->Q (.ref c) h)/\((∀s a L t,a5 p C 16 d.f I [] 0≠ .ok s a L t)->∀h,Kp H h->Q .non h)
def nV(K:Frag):Sp:=λv H Q _=>∃(a:Addr) (n:List Int),v=[.ref a]/\aP K H a (n.map V.int)/\n.length<=63/\∀h,Q (.bl true) h
theorem fo:al ["_law_box_here","_law_cells_here","_law_k","_law_cell"] ["_law_box_here"] (aa ms):=bP
theorem pQ{cf:FuncData}(F:aU K "_law_cells" "_law_cells" ms f fd)(r:Cl P w K mg base 1 fT cf ["_law_box_here","_law_wide"] ba "_law_take")(cU:Cl P w K mg base 2 fU f0 ["_law_box_here"] ie "_law_number")(mr:mg "range"=none):ah P w K mg base aE 3 f fd ["_law_box_here"] i6:=by
 refine F.ok fo ?_ λc0 A O s H vs Q E g h=>?_
 ·rintro _ _ _ _ ⟨p,rfl,_⟩
  rfl
 refine aZ λGq o=>?_
 obtain⟨p,rfl,B,q⟩:=h
 refine o ?_
 clear o
 refine#[_,(jd (jA 1 fo.nd Ko) (jd (j9 Gv Z (kM Z mr (ja (r.e g.m (ja (pv 0) (ja jf jb))) jb)) (jw (i:=2) fo.nd Z (Or.inl Z)) (jd (jA 3 fo.nd (r.e g.m (ja (pv 0) (ja jf jb)))) (jd (jx (za (r.e g.m (ja (pv 0) (ja jf jb)))) (jg (jA 3 fo.nd (ju kL (ju kL (ju Jl jf jf) jf) (r.e g.m (ja (pv 0) (ja jf jb)))))) jp) (jg (zH (kU g) (pv 1) (pv 3) (cU.e g.m (ja (pv 0) jb)) Z))))) (jg (jo (pv 1))))),?_]
 have b0:=aN
 have t0:=nY
 refine aj λt a=>λl N=>a _ _ ?_
 clear a
 have S:ae H (af H l (.dK [])):=je N
 have I:af H l (.dK []) l=some (.dK []):=jc
 generalize af H l (.dK [])=H1 at S I
 have L:l≠p:=B.ne N
 have B1:=B.same S
 refine aj λt a=>eB λJ j=>#[_,Z,p,14,Z,B1,MO,MO,λd H2 d0 d1 B2 M=>#[_,Z,MP,MP,j _ _ ?_]]
 clear j
 refine zE (lo:=0) (CL p l H) #[none,none,[],Z,by rw[M l L];exact I,K30.GT.nil,Fz _,B2,(au.of_same S).trans (au.of_eq M)] ?_ (λσ H' h=>a _ _ ?_)
 ·clear a
  intro E0 _ i σ H3 hi fE Gq o h
  obtain⟨o2,o3,C,rfl,x,G,lC,y,D⟩:=h
  refine o ?_
  clear o
  show dO (dC _ _) _ E0 _ _
  refine aj λt a=>#[_,Z,p,14,Z,y,MO,MO,λc4 H4 d2 d3 B4 R=>a _ _ ?_]
  clear a
  refine aj λt a=>?_
  have c:∀(u:Int) (v:Hp),aq v p->(∀b,b≠p->v b=H3 b)->t [some (.ref p),some (.ref l),some (.int (0+(i:Int))),some (.int u)] v:=λu v BH T=>a _ _ (by
   refine#[_,Z,p,Z,BH,λm H7 m0 m1 B7 U=>?_]
   have h7:H7 l=some (.dK C):=by rw[U l L,T l L];exact x
   have pl:=QS C (.inl u) (.int m)
   exact#[_,Z,_,Z,l,_,Z,iw.k (k:=.inl u) h7 MP,fE _ _ #[_,_,_,Z,jc,G.put _ #[m0,m1],MP,B7.eq (jk (Gp L)),(D.trans ((au.of_eq T).trans (au.of_eq U))).upd_own N]])
  refine u6 λG1 yT yF=>#[_,Z,p,8,Z,B4,MO,MO,λd5 H5 d4 d7 W X=>#[Z,_,Z,?_]]
  by_cases Y:d5=0
  ·rw[Y,Gn (Z:V.int 0=V.int 0)]
   refine yT _ #[_,_,Z,Z,#[MO,MO,MO],_,_,Z,Z,_,Z,p,4,Z,W,MO,MO,λd6 H6 d8 d' B6 e6=>#[_,_,Z,Z,c _ H6 B6 λb n=>(e6 b n).trans ((X b n).trans (R b n))]]
  ·rw[FY (λz=>Y (by injection z))]
   exact yF _ (c _ H5 W λb n=>(X b n).trans (R b n))
 ·obtain⟨o2,o3,C,rfl,x,G,lC,y,D⟩:=h
  exact#[_,Z,q l C H' N x G MP y D]
theorem lJ:al ["_law_box_here","_law_most","_law_found","_law_k","_law_cell"] ["_law_box_here","_law_most"] (aa AW):=bP
theorem Ad{cf:FuncData}(F:aU K "_law_changes" "_law_changes" AW f fd)(D:Cl P w K mg base 1 fT cf ["_law_box_here","_law_wide"] ba "_law_take")(cN:Cl P w K mg base 2 fN f0 ["_law_box_here"] ie "_law_number")(mr:mg "range"=none):ah P w K mg base aE 3 f fd ["_law_box_here","_law_most"] sS:=by
 refine F.ok lJ ?_ λc0 A O s H vs Q E g h=>?_
 ·rintro _ _ _ _ ⟨p,m,rfl,_⟩
  rfl
 refine aZ λGq k=>?_
 obtain⟨p,m,rfl,B,m0,m1,q⟩:=h
 refine k ?_
 clear k
 refine#[_,(jd (jA 2 lJ.nd (jF jb)) (jd (j9 Gv Z (kM Z mr (ja (ju jX jf (D.e g.m (ja (pv 0) (ja (pv 1) jb)))) jb)) (jw (i:=3) lJ.nd Z (Or.inl Z)) (jd (jA 4 lJ.nd (D.e g.m (ja (pv 0) (ja jf jb)))) (jd (jx (za (D.e g.m (ja (pv 0) (ja jf jb)))) (jg (jA 4 lJ.nd (ju kL (ju kL (ju Jl jf jf) jf) (D.e g.m (ja (pv 0) (ja jf jb)))))) jp) (jg (jT (kN F8 Gk Gj jR (pv 2) (ja (jh (ja (pv 4) (ja (cN.e g.m (ja (pv 0) jb)) jb))) jb))))))) (jg (jo (pv 2))))),?_]
 have b0:=aN
 have t0:=nY
 refine aj λG a=>#[lW,λl I=>a _ _ ?_]
 clear a
 have R:ae H (af H l (.lst [])):=je I
 have e1:af H l (.lst []) l=some (.lst []):=jc
 generalize af H l (.lst [])=H1 at R e1
 have L:l≠p:=B.ne I
 have B1:=B.same R
 refine aj λG a=>eB λJ j=>#[_,Z,_,Z,p,m,Z,B1,m0,MP,λd H2 d0 d1 B2 e2=>#[_,_,Z,Z,_,Z,MP,MP,j _ _ ?_]]
 clear j
 refine zE (lo:=0) (EE p l m H) #[none,none,[],Z,by rw[e2 l L];exact e1,(λ_ h=>nomatch h),Fz _,B2,(au.of_same R).trans (au.of_eq e2)] ?_ (λσ H' h=>a _ _ ?_)
 ·clear a
  intro E0 _ i σ H3 hi fE Gq k h
  obtain⟨o3,o4,X,rfl,U,W,lV,M,Y⟩:=h
  refine k ?_
  clear k
  show dO (dC _ _) _ E0 _ _
  refine aj λG a=>#[_,Z,p,15,Z,M,MO,MO,λc4 H4 d2 d3 B4 e4=>a _ _ ?_]
  clear a
  refine aj λG a=>?_
  have c:∀(C:Int) (r:Hp),aq r p->(∀b,b≠p->r b=H3 b)->G [some (.ref p),some (.int m),some (.ref l),some (.int (0+(i:Int))),some (.int C)] r:=λC r BH eH=>a _ _ (by
   have u:r l=some (.lst X):=by rw[eH l L];exact U
   refine#[_,Z,.inl #[Z,_,aP.of u],_,Z,_,Z,p,Z,BH,λn v n0 n1 B7 e7=>#[bX,λt nt=>?_]]
   have h7:v l=some (.lst X):=by rw[e7 l L];exact u
   have S:ae v (af v t (.tup [.int C,.int n])):=je nt
   have t8:af v t (.tup [.int C,.int n]) t=some (.tup [.int C,.int n]):=jc
   refine#[l,_,_,Z,Z,S _ _ h7,MP,fE _ _ ?_]
   generalize af v t (.tup [.int C,.int n])=y at S t8
   have k8:au p H3 y:=((au.of_eq eH).trans (au.of_eq e7)).trans (au.of_same S)
   have l8:=S _ _ h7
   have kl:au l y (af y l (.lst (X++[.ref t]))):=λb o N e=>by rw[jk N];exact e
   have T:ai y (af y l (.lst (X++[.ref t]))):=λb ys e=>kl _ _ (jO e l8 (by intro z;cases z)) e
   refine#[_,_,X++[.ref t],Z,jc,?_,by rw[FD];show X.length+1<=_;omega,(B7.same S).eq (jk (Gp L)),(Y.trans k8).upd_own I]
   intro x hx
   rcases List.mem_append.mp hx with z |z
   ·exact((W.mono (k8.tm M)).mono T) x z
   ·rw[List.mem_singleton.mp z]
    exact#[t,C,n,Z,T _ _ t8,n0,n1])
  refine u6 λG1 yT yF=>#[_,Z,p,8,Z,B4,MO,MO,λd5 H5 d4 d7 B5 e5=>#[Z,_,Z,?_]]
  by_cases h3:d5=0
  ·rw[h3,Gn (Z:V.int 0=V.int 0)]
   refine yT _ #[_,_,Z,Z,#[MO,MO,MO],_,_,Z,Z,_,Z,p,4,Z,B5,MO,MO,λd6 H6 d8 d' B6 e6=>#[_,_,Z,Z,c _ H6 B6 λb N=>(e6 b N).trans ((e5 b N).trans (e4 b N))]]
  ·rw[FY (λz=>h3 (by injection z))]
   exact yF _ (c _ H5 B5 λb N=>(e5 b N).trans (e4 b N))
 ·obtain⟨o3,o4,X,rfl,U,W,lV,M,Y⟩:=h
  exact#[_,Z,q l X H' I U W MP M Y]
theorem gZ:al ["_law_parts","_law_f","_law_args","_law_cells_here","_law_chain"] ["_law_parts","_law_f","_law_args","_law_cells_here"] (aa rS):=bP
theorem vA(F:aU K "_law_run" "_law_run" rS f Y)(V:ah P w K mg base (eO P w) 45 D k ["parts","f","args","cells","most"] (sX TL TD nA))(W:ay K k ["parts","f","args","cells","most"] [])(kR:keepIn K (.ref D)=true)(mR:mg "run"=some (.ref D))(X:Xs K mg TL TD):ah P w K mg base aE 46 f Y ["_law_parts","_law_f","_law_args","_law_cells_here"] (mN nA):=by
 refine F.ok gZ ?_ λc0 A O s H vs Q E hr h=>?_
 ·rintro _ _ _ _ ⟨l,q,r,i,G,d,I,J,L,p,M,rfl,_⟩
  rfl
 refine aZ λGq R=>?_
 obtain⟨l,q,r,i,G,d,I,J,L,p,M,rfl,c,q1,S⟩:=h
 refine R ?_
 clear R
 refine#[_,(jd (jA 4 gZ.nd (@XT _ _ _)) (jd (@v0 _ _ _ _ _ _ _ _ _ _ _ _ _ _ _ _ _ _ Z Z (@YU _ _ _ _ (4) _ _ gZ.nd Z (Or.inl Z) (@Xe _ _ _ _ _ _ _ _ _ _ _ _ _ _ V hr.m Z mR kR W .nil (ja (pv 0) (ja (pv 1) (ja (pv 2) (ja (pv 3) (ja jf jb))))) MO MT MT) MT (by first |exact .inl Z |exact .inr Z)) Z X.gL X.hL X.tL X.mL Z X.gD X.hD X.tD X.mD (λ_=>(jg (jA 4 gZ.nd (@XT _ _ _)))) (λ_=>(jg (jA 4 gZ.nd (@XT _ _ _)))) MO MO) (jg (jo (pv 4))))),?_]
 refine aj λF1 g=>g _ _ ?_
 clear g
 refine aj λF1 g=>?_
 show xZ _ _ _ _ _ _ _ [some (.ref l),some (.str d.f),some (.ref q),some (.ref r),some .non] H
 refine#[_,Z,_,Z,_,Z,_,Z,l,q,r,i,G,d,I,J,L,p,M,Z,c.ps,c.hd,c.hn,c.ag,c.hi,c.ce,c.gc,λu sk a L' H2 j U ok dp sz s2=>?_,λj=>?_,λj=>?_]
 ·obtain⟨c',z⟩:=id U
  obtain⟨_,_,_,rfl,_⟩:=z
  exact g _ _ #[_,Z,q1 c' sk a L' H2 j U ok dp sz (Kp.of_same s2)]
 ·intro _ H7 t x C T v y hT B
  cases v
  refine .inl #[X.LL,λT' n=>g _ _ #[_,Z,S (λ_ _ _ _ z=>by rw[j]at z;cases z) _ ?_]]
  exactλb o N e=>JX (H:=H) (t _ _ N e) N y n
 ·intro _ H7 t x C T v y hT B
  cases v
  refine .inr #[X.DL,X.DD,λT' n=>g _ _ #[_,Z,S (λ_ _ _ _ z=>by rw[j]at z;cases z) _ ?_]]
  exactλb o N e=>JX (H:=H) (t _ _ N e) N y n
noncomputable abbrev wo:Stmt:=bQ 75
def hZ(n:Nat):Sp:=λvs H Q _=>∃(cA hA:Addr) (C k:aL) (f:Str) (is:List Int) (s:Sk) (a:Int) (u:V),vs=[u,.ref cA,.ref hA]/\cA≠hA/\H cA=some (.dK C)/\NT C/\H hA=some (.dK k)/\k.length+s.size<=1000/\ni H f is s a u/\s.ok true/\s.dep < n/\
 ∀H',au hA H H'->(cf C s.flat k=true->H' hA=some (.dK (eZ s.flat k)))->Q (.bl (cf C s.flat k)) H'
inductive FI(cA hA:Addr)(C k:aL)(u:V)(s:Sk)(H:Hp)(i:Nat)(σ:L2.St)(H':Hp):Prop
 |mk (o3 o4 o5:Option V) (e0:σ=[some u,some (.ref cA),some (.ref hA),o3,o4,o5]) (e1:H' hA=some (.dK (eZ (dP (s.tops.take i)) k))) (e2:cf C (dP (s.tops.take i)) k=true) (e3:au hA H H'):FI cA hA C k u s H i σ H'
theorem Ku:∀{is js:List Int},aJ (is.map aB)=aJ (js.map aB)->is=js
 | [],[],_=>rfl
 | [],_::_,e=>by cases e
 |_::_,[],e=>by cases e
 |i::is,j::js,e=>by
  have e:Tr.cons (aB i) (aJ (is.map aB))= .cons (aB j) (aJ (js.map aB)):=e
  injection e with e1 e2
  injection e1 with e1
  injection e1 with e1
  rw[e1,Ku e2]
theorem J2:∀{b:Bool} {s s':Sk},s.ok b->s'.ok b->gi s=gi s'->s=s'
 |true,.nil,.nil,_,_,_=>rfl
 |true,.nil,.st _ _ _ _,_,_,e=>by cases e
 |true,.st _ _ _ _,.nil,_,_,e=>by cases e
 |true,.st n hs w r,.st n' hs' w' r',o,o',e=>by
  have e:Tr.cons (aQ [aB n,aQ (hs.map aB),gi w]) (gi r)= .cons (aQ [aB n',aQ (hs'.map aB),gi w']) (gi r'):=e
  injection e with e1 e2
  have e1:Tr.tp (.cons (aB n) (.cons (aQ (hs.map aB)) (.cons (gi w) .nil)))= .tp (.cons (aB n') (.cons (aQ (hs'.map aB)) (.cons (gi w') .nil))):=e1
  injection e1 with e1
  injection e1 with a1 a2
  injection a2 with b1 b2
  injection b2 with c1 _
  injection a1 with a1
  injection a1 with a1
  have b1:Tr.tp (aJ (hs.map aB))= .tp (aJ (hs'.map aB)):=b1
  injection b1 with b1
  rw[a1,Ku b1,J2 o.1 o'.1 c1,J2 o.2 o'.2 e2]
 |false,.ask b,.ask b',_,_,e=>by injection e with e;injection e with _ e;injection e with e _;injection e with e;injection e with e;rw[e]
 |false,.rd b c,.rd b' c',_,_,e=>by injection e with e;injection e with _ e;injection e with e1 e;injection e with e2 _;injection e1 with e1;injection e1 with e1;injection e2 with e2;injection e2 with e2;rw[e1,e2]
 |false,.wr b c,.wr b' c',_,_,e=>by injection e with e;injection e with _ e;injection e with e1 e;injection e with e2 _;injection e1 with e1;injection e1 with e1;injection e2 with e2;injection e2 with e2;rw[e1,e2]
 |false,.cl f is s a,.cl f' is' s' a',o,o',e=>by
  have e:Tr.tp (.cons (a9 "call") (.cons (.tp (.cons (a9 f) (.cons (aQ (is.map aB)) (.cons (.tp (gi s)) (.cons (aB a) .nil))))) .nil))= .tp (.cons (a9 "call") (.cons (.tp (.cons (a9 f') (.cons (aQ (is'.map aB)) (.cons (.tp (gi s')) (.cons (aB a') .nil))))) .nil)):=e
  injection e with e
  injection e with _ e
  injection e with e _
  injection e with e
  injection e with f1 e
  injection e with i1 e
  injection e with s1 e
  injection e with a1 _
  injection f1 with f1
  injection f1 with f1
  injection a1 with a1
  injection a1 with a1
  injection s1 with s1
  have i1:Tr.tp (aJ (is.map aB))= .tp (aJ (is'.map aB)):=i1
  injection i1 with i1
  rw[f1,a1,Ku i1,J2 (b:=true) o o' s1]
 |false,.ask _,.rd _ _,_,_,e=>by injection e with e;injection e with e _;injection e with e;injection e with e;exact absurd e MO
 |false,.ask _,.wr _ _,_,_,e=>by injection e with e;injection e with e _;injection e with e;injection e with e;exact absurd e MO
 |false,.ask _,.cl _ _ _ _,_,_,e=>by injection e with e;injection e with e _;injection e with e;injection e with e;exact absurd e MO
 |false,.rd _ _,.ask _,_,_,e=>by injection e with e;injection e with e _;injection e with e;injection e with e;exact absurd e MO
 |false,.rd _ _,.wr _ _,_,_,e=>by injection e with e;injection e with e _;injection e with e;injection e with e;exact absurd e MO
 |false,.rd _ _,.cl _ _ _ _,_,_,e=>by injection e with e;injection e with e _;injection e with e;injection e with e;exact absurd e MO
 |false,.wr _ _,.ask _,_,_,e=>by injection e with e;injection e with e _;injection e with e;injection e with e;exact absurd e MO
 |false,.wr _ _,.rd _ _,_,_,e=>by injection e with e;injection e with e _;injection e with e;injection e with e;exact absurd e MO
 |false,.wr _ _,.cl _ _ _ _,_,_,e=>by injection e with e;injection e with e _;injection e with e;injection e with e;exact absurd e MO
 |false,.cl _ _ _ _,.ask _,_,_,e=>by injection e with e;injection e with e _;injection e with e;injection e with e;exact absurd e MO
 |false,.cl _ _ _ _,.rd _ _,_,_,e=>by injection e with e;injection e with e _;injection e with e;injection e with e;exact absurd e MO
 |false,.cl _ _ _ _,.wr _ _,_,_,e=>by injection e with e;injection e with e _;injection e with e;injection e with e;exact absurd e MO
theorem J3:∀is:List Int,(aJ (is.map aB)).In
 | []=>trivial
 |_::is=>#[rfl,J3 is]
theorem YK:∀{b:Bool} {s:Sk},s.ok b->(gi s).In
 |true,.nil,_=>trivial
 |true,.st n hs w r,o=>#[#[rfl,J3 hs,YK o.1,trivial],YK o.2]
 |false,.ask _,_=>#[rfl,rfl,trivial]
 |false,.rd _ _,_=>#[rfl,rfl,rfl,trivial]
 |false,.wr _ _,_=>#[rfl,rfl,rfl,trivial]
 |false,.cl f is s a,o=>#[rfl,#[rfl,J3 is,YK (b:=true) o,rfl,trivial],trivial]
theorem xp{f:Str}{is:List Int}{s:Sk}{a:Int}(o:s.ok true):(uH f is s a).In:=#[rfl,J3 is,YK (b:=true) o,rfl,trivial]
theorem yu{f:Str}{is:List Int}{s s':Sk}{a a':Int}(o:s.ok true)(o':s'.ok true)(e:uH f is s a=uH f is s' a'):s=s'/\a=a':=by
 have e:Tr.cons (a9 f) (.cons (aQ (is.map aB)) (.cons (.tp (gi s)) (.cons (aB a) .nil)))= .cons (a9 f) (.cons (aQ (is.map aB)) (.cons (.tp (gi s')) (.cons (aB a') .nil))):=e
 injection e with _ e
 injection e with _ e
 injection e with s1 e
 injection e with a1 _
 injection s1 with s1
 injection a1 with a1
 injection a1 with a1
 exact#[J2 (b:=true) o o' s1,a1]
theorem nK:al ["_law_chain","_law_cells_here","_law_wrote","_law_n","_law_held","_law_what"] ["_law_chain","_law_cells_here","_law_wrote"] (aa wo):=bP
theorem Af{f:Addr}{fd:FuncData}{n:Nat}{fS:Addr}{fdS:FuncData}(F:aU K "_law_finds" "_law_finds" wo f fd)(cS:Cl P w K mg base (n+1) fS fdS ["_law_chain","_law_cells_here","_law_wrote"] (hZ n) "_law_finds"):ah P w K mg base aE (n+2) f fd ["_law_chain","_law_cells_here","_law_wrote"] (hZ (n+1)):=by
 refine F.ok nK ?_ λcdv A outer s H vs Q E hr h=>?_
 ·rintro _ _ _ _ ⟨cA,hA,C,k,f,is,s,a,u,rfl,_⟩
  rfl
 refine aZ λGq kq=>?_
 obtain⟨cA,hA,C,k,f,is,s,a,u,rfl,hne,hcA,hN,hhA,hlen,hc,hok,hd,q⟩:=h
 refine kq ?_
 clear kq
 refine#[_,(jd (j9 PassesOwn.never rfl (zT (jy (pv 0))) (ze (n:=3) rfl (jz (jw (i:=3) nK.nd rfl (Or.inl rfl)) (jz (jw (i:=4) nK.nd rfl (Or.inl rfl)) (jz (jw (i:=5) nK.nd rfl (Or.inl rfl)) j6)))) (jd (jx (jZ (jy (pv 5))) (jg (zH (kU hr) (pv 2) (jy (pv 5)) (@zL _ _ _ _) rfl)) jp) (jd (jx (PW.pt (zS (jZ (jy (pv 5))) (zS (Jj (@ZG _ _ _ _ _ (kU hr) (jy (pv 5)) (pv 2))) (zF (jB J4 (@qm _ _ _ _ _ _ _ _ _ (kU hr) (pv 1) (jy (pv 5)) jf #[MT,MT,MT,MT]) (jy (pv 5)) (aK _)))))) (jg (jo (@zL _ _ _ _))) jp) (jg (jx (PW.pt (zS (jZ (jy (pv 5))) (zF (rA (rE (cS.e hr.m (ja (jy (pv 5)) (ja (pv 1) (ja (pv 2) jb))))))))) (jg (jo (@zL _ _ _ _))) jp))))) (jg (jo (@zL _ _ _ _)))),?_]
 have big:=aN
 obtain⟨c,g,e,ss,rfl,h1,h2,h3,h4⟩:=id hc
 have ft:=qx hok
 have fl:=zc hok
 have lt:=Ks hok h4
 refine aj λF1 f1=>eB λJ j=>(jq h1 rfl #[e,rfl,#[_,aA.of h3],j _ _ ?_])
 clear j
 have ehA:e≠hA:=jO h3 hhA (by intro z;cases z)
 refine qZ (K:=K) (a:=e) (xs:=ss) (FI cA hA C k (.ref c) s H) #[none,none,none,rfl,hhA,rfl,au.refl] (λi σ H' _ h=>?_) ?_ (λσ H' h=>f1 _ _ ?_)
 ·obtain⟨_,_,_,_,_,_,b⟩:=h
  exact aA.of (b _ _ ehA h3)
 ·intro E rt i x σ H3 hxi fE Gq kq h
  clear f1
  obtain⟨o3,o4,o5,rfl,w1,w2,b3⟩:=h
  refine kq ?_
  clear kq
  have hil:=(List.getElem?_eq_some_iff.mp hxi).1
  obtain⟨w,p,hv,n0,v,hwi,okw,dpw,szw,rfl,hp,hw⟩:=sN hok h4 hxi
  have tm3:ai H H3:=λb ys e=>b3 _ _ (jO e hhA (by intro z;cases z)) e
  have hw:=hw.mono tm3
  have et:eZ (dP (s.tops.take (i+1))) k=eZ (w::w.flat) (eZ (dP (s.tops.take i)) k):=by rw[List.take_add_one,hwi,zX,tX];show eZ (w::w.flat++[]) _=_;rw[List.append_nil]
  have eb:cf C (dP (s.tops.take (i+1))) k=cf C (w::w.flat) (eZ (dP (s.tops.take i)) k):=by rw[List.take_add_one,hwi,zX,Kl,w2];show cf C (w::w.flat++[]) _=_;rw[List.append_nil]
  have ef:cf C (w::w.flat) (eZ (dP (s.tops.take i)) k)=false->cf C s.flat k=false:=λz=>by
   have e0:s.flat=dP (s.tops.take i)++((w::w.flat)++dP (s.tops.drop (i+1))):=by
    rw[ft]
    conv=>lhs;rw[QV hwi]
    rw[zX]
    rfl
   rw[e0,Kl,w2,Kl,z]
   rfl
  have lw:=X1 (dP (s.tops.take i)) k
  have lb:=oH s.tops i
  rw[<- ft,fl]at lb
  have c3:=b3 _ _ hne hcA
  have stop:cf C (w::w.flat) (eZ (dP (s.tops.take i)) k)=false->∀H',au hA H H'->Q (.bl false) H':=λz H' b=>by
   have q':=q H' b λy=>by rw[ef z]at y;cases y
   rw[ef z]at q'
   exact q'
  refine#[p,_,rfl,aA.of (tm3 _ _ hp),rfl,_,_,rfl,_,_,rfl,_,_,rfl,rfl,?_]
  have nx:∀H',H' hA=some (.dK (eZ (w::w.flat) (eZ (dP (s.tops.take i)) k)))->cf C (w::w.flat) (eZ (dP (s.tops.take i)) k)=true->au hA H H'->E.nx [some (.ref c),some (.ref cA),some (.ref hA),some (.int n0),some (.ref hv),some v] H':=λH' x1 x2 x3=>fE _ _ #[_,_,_,rfl,by rw[et];exact x1,by rw[eb];exact x2,x3]
  show dO _ _ E [some (.ref c),some (.ref cA),some (.ref hA),some (.int n0),some (.ref hv),some v] H3
  cases w with
  |nil |st=>exact okw.elim
  |ask b=>
   obtain⟨p,rfl,g1⟩:=hw
   refine aj λF1 f1=>(jq g1 rfl #[rfl,_,rfl,aO MS (f1 _ _ ?_)])
   clear f1
   refine aj λF1 f1=>(jq g1 rfl #[rfl,_,rfl,aO MS (aO rfl (f1 _ _ ?_))])
   clear f1
   exact(jq g1 rfl #[rfl,_,rfl,aO MS (aO rfl (nx _ w1 rfl b3))])
  |rd c' i'=>
   obtain⟨p,rfl,g1⟩:=hw
   refine aj λF1 f1=>(jq g1 rfl #[rfl,_,rfl,aO MS (f1 _ _ ?_)])
   clear f1
   refine aj λF1 f1=>(jq g1 rfl #[rfl,_,rfl,cq MS (jq g1 rfl #[_,rfl,hA,_,rfl,dD.k (k:=.inl c') w1,_,rfl,?_])])
   cases zv:bh (eZ (dP (s.tops.take i)) k) (.inl c') with
   |some vv=>
    refine aO rfl (aO rfl (f1 _ _ ?_))
    clear f1
    exact(jq g1 rfl #[rfl,_,rfl,aO MS (aO rfl (nx _ w1 (by show(((bh (eZ (dP (s.tops.take i)) k) (.inl c')).isSome||_)&&true)=true;rw[zv];rfl) b3))])
   |none=>
    refine cq rfl #[_,rfl,cA,rfl,.inl #[_,.inl c3],jq g1 rfl #[_,dD.k (k:=.inl c') c3,?_]]
    rw[hN.get]
    refine(jq g1 rfl #[rfl,_,rfl,?_])
    by_cases z:look C (.inl c') 0=i'
    ·refine aO (by rw[z];simp) (f1 _ _ ?_)
     clear f1
     exact(jq g1 rfl #[rfl,_,rfl,aO MS (aO rfl (nx _ w1 (by show((_||decide (look C (.inl c') 0=i'))&&true)=true;rw[decide_eq_true z,Bool.or_true];rfl) b3))])
    ·refine cq (by rw[decide_eq_false (λe=>z (by injection e))];rfl) ?_
     clear f1
     show eF _ _ _ _
     unfold eF
     show E.rt _ _
     rw[rt]
     exact stop (by show(((bh (eZ (dP (s.tops.take i)) k) (.inl c')).isSome||decide (look C (.inl c') 0=i'))&&true)=false;rw[zv,decide_eq_false z];rfl) _ b3
  |wr c' i'=>
   obtain⟨p,rfl,g1⟩:=hw
   refine aj λF1 f1=>(jq g1 rfl #[rfl,_,rfl,cq MS #[_,rfl,jq g1 rfl #[hA,_,rfl,iw.k (k:=.inl c') w1 MP,f1 _ _ ?_]]])
   clear f1
   have b4:au hA H3 (af H3 hA (.dK (aM (eZ (dP (s.tops.take i)) k) (.inl c') (.bl true)))):=λb o nb e=>by rw[jk nb];exact e
   have g4:=b4 _ _ (jO g1 w1 (by intro z;cases z)) g1
   have e4:af H3 hA (.dK (aM (eZ (dP (s.tops.take i)) k) (.inl c') (.bl true))) hA=some (.dK (aM (eZ (dP (s.tops.take i)) k) (.inl c') (.bl true))):=jc
   generalize af H3 hA (.dK (aM (eZ (dP (s.tops.take i)) k) (.inl c') (.bl true)))=H4 at b4 g4 e4
   refine aj λF1 f1=>(jq g4 rfl #[rfl,_,rfl,aO MS (aO rfl (f1 _ _ ?_))])
   clear f1
   exact(jq g4 rfl #[rfl,_,rfl,aO MS (aO rfl (nx _ e4 rfl (b3.trans b4)))])
  |cl f' is' s' a'=>
   obtain⟨p,c2,g2,e2,ss2,rfl,g1,g3,g4,g5,g6⟩:=hw
   have hd:s'.dep+1<=s.dep:=dpw
   have szw:s'.size+1<=s.size:=szw
   refine aj λF1 f1=>(jq g1 rfl #[rfl,_,rfl,aO MS (f1 _ _ ?_)])
   clear f1
   refine aj λF1 f1=>(jq g1 rfl #[rfl,_,rfl,aO MS (aO rfl (f1 _ _ ?_))])
   clear f1
   refine(jq g1 rfl #[rfl,_,rfl,cq MS (jq g1 rfl #[_,rfl,_,rfl,cA,hA,C,eZ (dP (s.tops.take i)) k,f',is',s',a',.ref c2,rfl,hne,c3,hN,w1,?_,#[c2,g2,e2,ss2,rfl,g3,g4,g5,g6],okw,MP,λH4 b4 y4=>#[_,rfl,?_]])])
   ·have:=yq hwi
    have fs:=zc (b:=true) (s:=s') okw
    rw[<- ft,fl]at this
    have this:(dP (s.tops.take i)).length+(s'.flat.length+1)<=s.size:=this
    omega
   cases z:cf C s'.flat (eZ (dP (s.tops.take i)) k) with
   |true=>exact aO rfl (nx _ (y4 z) z (b3.trans b4))
   |false=>
    refine cq rfl ?_
    show eF _ _ _ _
    unfold eF
    show E.rt _ _
    rw[rt]
    exact stop z _ (b3.trans b4)
 ·obtain⟨_,_,_,rfl,w1,w2,b3⟩:=h
  rw[lt,List.take_length,<- ft]at w1 w2
  have q':=q H' b3 λ_=>w1
  rw[w2]at q'
  exact q'
def Eh:R2:=λx y H Q=>∃a b,x= .bl a/\y= .bl b/\Q (.bl (!(a==b))) H
theorem re{X:Cx}:em X (compareOp .IsNot) Eh:=by
 intro pins s σ H x y v u Q I rx ry h
 obtain⟨a,b,rfl,rfl,q⟩:=h
 cases rx
 cases ry
 refine wpAny_isNot_plain rfl ?_
 exact#[.bl _,H,I,by cases a<;>cases b<;>rfl,q]
theorem Cq{A:Around}{k:Nat}(hr:bH k A):A.units+100+1 < cLine:=by have:=hr.un;omega
def n6(H:Hp)(pds:List dy)(Cs:aL)(f:Str)(is:List Int)(x:V):Prop:=x= .non∨∃(c:Addr) (sk:Sk) (b:Int) (L':aL),x= .ref c/\a5 pds Cs 16 f is [] 0= .ok sk b L' sk.size/\ni H f is sk b (.ref c)/\sk.ok true/\sk.dep<=15/\sk.size<=60
theorem n6.kp{H H':Hp}{pds:List dy}{Cs:aL}{f:Str}{is:List Int}{x:V}(h:n6 H pds Cs f is x)(k:Kp H H'):n6 H' pds Cs f is x:=by
 rcases h with h | ⟨c,sk,b,L',e,h1,h2,h3⟩
 ·exact .inl h
 ·exact .inr #[c,sk,b,L',e,h1,h2.same k.tm,h3]
inductive EH(a p r pA ta:Addr)(nA:Addr)(i0:Nat)(d:Df)(ds:List Df)(nl:List Nat)(xs:List V)(pds:List dy)(is:List Int)(H:Hp)(i:Nat)(σ:L2.St)(H':Hp):Prop
 |mk (cA:Addr) (ch:V) (o8 o9 o10 o11:Option V) (Cs:aL) (e0:σ=[some (.ref a),some (.ref p),some (.ref r),some (.str d.f),some (.ref ta),some (.ref pA),some (.ref cA),some ch,o8,o9,o10,o11]) (e1:wY H' nA pA ta cA i0 Cs d ds nl xs pds is) (e2:Cs.length<=13+2*i) (e3:n6 H' pds Cs d.f is ch) (e4:Kp H H'):EH a p r pA ta nA i0 d ds nl xs pds is H i σ H'
theorem uY{pds:List dy}{Cs D:aL}{f:Str}{is:List Int}{sk sk2:Sk}{b b2:Int}{L' L2:aL}{t t2:Nat}(h:a5 pds Cs 16 f is [] 0= .ok sk b L' t)(h2:a5 pds D 16 f is [] 0= .ok sk2 b2 L2 t2)(o:sk.ok true)(o2:sk2.ok true):gn sk.flat D=lX (.tp (uH f is sk2 b2)) (.tp (uH f is sk b)):=by
 cases e:gn sk.flat D with
 |true=>
  obtain⟨L3,t3,k⟩:=(Ja h).mp e
  rw[h2]at k
  injection k with z1 z2 _ _
  rw[z1,z2,JD rfl]
 |false=>
  rw[qh]
  intro z
  injection z with z
  obtain⟨z1,z2⟩:=yu o2 o z
  rw[z1,z2]at h2
  have:=(Ja h).mpr #[_,_,h2]
  rw[e]at this
  cases this
theorem u5{pds:List dy}{Cs D:aL}{f:Str}{is:List Int}{sk:Sk}{b:Int}{L':aL}{t:Nat}(h:a5 pds Cs 16 f is [] 0= .ok sk b L' t)(no:∀sk a L' t',a5 pds D 16 f is [] 0≠ .ok sk a L' t'):gn sk.flat D=false:=by
 cases e:gn sk.flat D with
 |false=>rfl
 |true=>obtain⟨L3,t3,k⟩:=(Ja h).mp e;exact(no _ _ _ _ k).elim
theorem uZ{pds:List dy}{Cs D:aL}{f:Str}{is:List Int}{sk:Sk}{b:Int}{L':aL}{t:Nat}(h:a5 pds Cs 16 f is [] 0= .ok sk b L' t):gn sk.flat D=cf D sk.flat []:=by
 rw[yb]
 exact YJ (Cs:=Cs) sk.flat [] [] NT.nil (λ_=>rfl) (q9 16 _ _ _ _ _ _ _ _ h).1
theorem yX{f:Addr}{fd:FuncData}{k:Nat}:ah P w K mg base aE k f fd ["_law_chain","_law_cells_here","_law_wrote"] (hZ 0):=by
 have no:∀{vs H Q E},¬hZ 0 vs H Q E:=by
  rintro vs H Q E ⟨cA,hA,C,k,f,is,s,a,u,_,_,_,_,_,_,_,_,z,_⟩
  omega
 exact#[λvs H Q E h=>(no h).elim,λA outer s H args us vs Q E hr he hb hv h=>(no h).elim]
theorem Co{f:Addr}{fd:FuncData}(F:aU K "_law_finds" "_law_finds" wo f fd)(bS:ay K fd ["_law_chain","_law_cells_here","_law_wrote"] [])(mS:mg "_law_finds"=some (.ref f)):∀n,ah P w K mg base aE (n+1) f fd ["_law_chain","_law_cells_here","_law_wrote"] (hZ n)
 |0=>yX
 |n+1=>Af F #[(Co F bS mS n),bS,F.kp,mS]
theorem yY{f:Addr}{fd:FuncData}{k:Nat}{nA:Addr}:ah P w K mg base aE k f fd ["parts","chain"] (ig nA 0):=by
 have no:∀{vs H Q E},¬ig nA 0 vs H Q E:=by
  rintro vs H Q E ⟨pA,i,t,t',Cs,L,L',d,ds,ns,xs,pds,is,s,a,u,_,_,_,_,_,_,_,_,_,z,_⟩
  cases z
 exact#[λvs H Q E h=>(no h).elim,λA outer s H args us vs Q E hr he hb hv h=>(no h).elim]
theorem CZ{nA fI fE fB fF fO fG fS f:Addr}{fdI fdE fdB fdF fdO fdG fdS fd:FuncData}(F:aU K "right" "right" wt f fd)(bR:ay K fd ["parts","chain"] [])(mR:mg "right"=some (.ref f))(FS:aU K "is_done" "is_done" nE fS fdS)(bS:ay K fdS ["parts","part","step"] [])(mS:mg "is_done"=some (.ref fS))(cI:Cl P w K mg base 1 fI fdI ["what"] nR "deed_in")(cE:Cl P w K mg base 9 fE fdE ["part","n","held"] (d9 nA) "deed_at")(cB:Cl P w K mg base 2 fB fdB ["ones","f","args"] fV "begun")(cF:Cl P w K mg base 9 fF fdF ["part","args"] (eh nA) "first_of")(cO:Cl P w K mg base 9 fO fdO ["part","step"] (oq nA) "onward")(cG:Cl P w K mg base 1 fG fdG ["chain","number"] nU "goal_at")(ml:mg "len"=none)(men:mg "enumerate"=none):∀j,ah P w K mg base aE (2*j+20) f fd ["parts","chain"] (ig nA j)
 |0=>yY
 |j+1=>Am F cB cF cO cG #[(vw FS cI cE #[(CZ F bR mR FS bS mS cI cE cB cF cO cG ml men j),bR,F.kp,mR]),bS,FS.kp,mS] ml men
theorem df:al ["_law_script","_law_box_here","_law_program","_law_f","_law_args","_law_parts","_law_cells_here","_law_chain","_law_cell","_law_number_here","_law_other","_law_held"] ["_law_script"] (aa mx):=bP
theorem Ai{f:Addr}{fd:FuncData}{nA fB fK fM fC fU fR fZ fF fG:Addr}{fdB fdK fdM fdC fdU fdR fdZ fdF fdG:FuncData}(F:aU K "law" "law" mx f fd)(cB:Cl P w K mg base 1 fB fdB ["_law_script","_law_k"] (sR K) "_law_box")(cK:Cl P w K mg base 23 fK fdK ["_law_box_here"] mM "_law_case")(cM:Cl P w K mg base 65 fM fdM ["program"] (mO K nA) "made")(cC:Cl P w K mg base 3 fC fdC ["_law_box_here"] i6 "_law_cells")(cU:Cl P w K mg base 46 fU fdU ["_law_parts","_law_f","_law_args","_law_cells_here"] (mN nA) "_law_run")(cR:Cl P w K mg base 52 fR fdR ["parts","chain"] (ig nA 16) "right")(cZ:Cl P w K mg base 36 fZ fdZ ["chain","cells"] mY "true_of")(cF:Cl P w K mg base 17 fF fdF ["_law_chain","_law_cells_here","_law_wrote"] (hZ 16) "_law_finds")(cG:Cl P w K mg base 3 fG fdG ["_law_box_here","_law_most"] sS "_law_changes")(mdi:mg "dict"=none):ah P w K mg base aE 66 f fd ["_law_script"] (nV K):=by
 refine F.ok df ?_ λcdv A outer s H vs Q E hr h=>?_
 ·rintro _ _ _ _ ⟨a,ns,rfl,_⟩
  rfl
 refine aZ λGq kq=>?_
 obtain⟨a,ns,rfl,hS,h63,q⟩:=h
 refine kq ?_
 clear kq
 refine#[_,(jd (jA 1 df.nd (cB.e hr.m (ja (pv 0) (ja jf jb)))) (jd (zf (cK.e hr.m (ja (pv 1) jb)) (ze (n:=3) rfl (jz (jw (i:=2) df.nd rfl (Or.inl rfl)) (jz (jw (i:=3) df.nd rfl (Or.inl rfl)) (jz (jw (i:=4) df.nd rfl (Or.inl rfl)) j6))))) (jd (jA 5 df.nd (cM.e hr.m (ja (pv 2) jb))) (jd (jA 6 df.nd (cC.e hr.m (ja (cB.e hr.m (ja (pv 0) (ja jf jb))) jb))) (jd (jA 7 df.nd (cU.e hr.m (ja (pv 5) (ja (pv 3) (ja (pv 4) (ja (pv 6) jb)))))) (jd (j9 PassesOwn.never rfl (qt (cG.e hr.m (ja (cB.e hr.m (ja (pv 0) (ja jf jb))) (ja jf jb)))) (ze (n:=2) rfl (jz (jw (i:=8) df.nd rfl (Or.inl rfl)) (jz (jw (i:=9) df.nd rfl (Or.inl rfl)) j6))) (jd (jx (PW.pt (zS (Jj (@JQ _ _ _ _ _ (pv 7))) (zF (PW.pt (Qa (jB re (cR.e hr.m (ja (pv 5) (ja (pv 7) jb))) (@zL _ _ _ _) (aK _)) (Jk (jB re (cZ.e hr.m (ja (pv 7) (ja (pv 6) jb))) (@zL _ _ _ _) (aK _)))))))) (jg (jo (@zL _ _ _ _))) jp) (jd (jA 6 df.nd (jE Qo rfl mdi boot_dict (ja (pv 6) jb))) (jd (zH (kU hr) (pv 6) (pv 8) (pv 9) rfl) (jd (jA 10 df.nd (cU.e hr.m (ja (pv 5) (ja (pv 3) (ja (pv 4) (ja (pv 6) jb)))))) (jd (jx (Jj (@JQ _ _ _ _ _ (pv 7))) (jd (jA 11 df.nd (cZ.e hr.m (ja (pv 7) (ja (pv 6) jb)))) (jg (jx (PW.pt (Qa (jB J4 (pv 11) (qu (Ay (Au (d:=100) (Cq hr)) (Av (Nat.lt_of_succ_lt (kU hr)))) (pv 10) (pv 7) (aK _)) (aK _)) (Jk (jB J4 (pv 11) (cF.e hr.m (ja (pv 7) (ja (pv 6) (ja Ko jb)))) (aK _))))) (jg (jo (@zL _ _ _ _))) jp))) jp) (jg (jx (Jj (@JQ _ _ _ _ _ (pv 10))) (jg (jA 7 df.nd (pv 10))) (jg (jx (Jj (@JQ _ _ _ _ _ (pv 7))) (jd (zH (kU hr) (pv 6) (pv 8) jf rfl) (jg (jA 7 df.nd (cU.e hr.m (ja (pv 5) (ja (pv 3) (ja (pv 4) (ja (pv 6) jb)))))))) jp)))))))))) (jg (jo (@zL _ _ _ _))))))))),?_]
 have big:=aN
 refine aj λF1 f1=>#[_,rfl,a,ns,1,rfl,hS,MO,MO,λp H1 np B1 e1=>f1 _ _ ?_]
 clear f1
 have s1:ae H H1:=λb o e=>by rw[e1 b (jm e np)];exact e
 refine aj λF1 f1=>#[_,rfl,p,rfl,B1,λt r v2 v3 ds xs' H3 ht hr hD h1 h8 nl hN hPa hCa B3 k3=>#[t,_,rfl,aA.of ht,rfl,_,_,rfl,_,_,rfl,_,_,rfl,rfl,f1 _ _ ?_]]
 clear f1
 have s3:ae H H3:=λb o e=>k3 _ _ (jm e np) (s1 _ _ e)
 obtain⟨d,ps,ta,is,hd,rfl,hps,rfl,hta,hil,hi100,his⟩:=hCa
 show dO (dC _ _) _ _ [some (.ref a),some (.ref p),some (.ref r),some (.str d.f),some (.ref ta),none,none,none,none,none,none,none] H3
 refine aj λF1 f1=>#[_,rfl,r,ds,xs',rfl,hr,hD,MP,λd hd=>(hN.1 d hd).1,λv H4 hv s4=>f1 _ _ ?_]
 clear f1
 obtain⟨pA,xs2,rfl,hpA,htr⟩:=JY hv
 have S4:=s3.trans s4
 refine aj λF1 f1=>#[_,rfl,a,ns,2,rfl,S4.seq hS,MO,MO,λp5 H5 np5 B5 e5=>#[p5,rfl,B5,λcA Cs H6 ncA hcA gC lC B6 k6=>f1 _ _ ?_]]
 clear f1
 have s6:ae H4 H6:=λb o e=>k6 _ _ (jm e np5) (by rw[e5 b (jm e np5)];exact e)
 have S6:=S4.trans s6
 have T46:=ae.tm (s4.trans s6)
 obtain⟨i0,hi,ei⟩:=List.mem_iff_getElem.mp hd
 have hdi:ds[i0]?=some d:=by rw[<- ei];exact List.getElem?_eq_getElem hi
 have hni:=AB hPa hdi hps
 rw[<- hil]at hni
 obtain⟨pds,hP⟩:=CT (s6 _ _ hpA) (htr.mono (ae.tm s6)) #[xs',hD.mono T46] hN (hPa.mono T46)
 have lx:=kY hP.tr
 rw[List.length_map]at lx
 have ak:wY H6 nA pA ta cA i0 Cs d ds nl xs2 pds is:=#[hP,MP,hdi,hni,T46 _ _ hta,his,hi100,hcA,gC]
 have kS:Kp H H6:=Kp.of_same S6
 refine aj λF1 f1=>?_
 suffices go:∀(ch:V) (H7:Hp),Kp H6 H7->n6 H7 pds Cs d.f is ch->F1 [some (.ref a),some (.ref p),some (.ref r),some (.str d.f),some (.ref ta),some (.ref pA),some (.ref cA),some ch,none,none,none,none] H7 by
  clear f1
  exact#[_,rfl,_,rfl,_,rfl,_,rfl,pA,ta,cA,i0,Cs,d,ds,nl,xs2,pds,is,rfl,ak,λc sk b L' H7 eq hc ok dp sz k7=>go _ H7 k7 (.inr #[c,sk,b,L',rfl,eq,hc,ok,dp,sz]),λno H7 k7=>go _ H7 k7 (.inl rfl)]
 intro ch H7 k7 rv
 refine f1 _ _ ?_
 clear f1
 refine aj λF1 f1=>eB λJ j=>#[_,rfl,a,ns,3,rfl,(kS.trans k7).seq hS,MO,MO,λpB HA npB BA eA=>#[pB,5,rfl,BA,MO,MO,λll xs3 HB nll hll pV lV BB kYB=>#[ll,rfl,#[_,aP.of hll],j _ _ ?_]]]
 clear j
 have s7B:ae H7 HB:=λb o e=>kYB _ _ (jm e npB) (by rw[eA b (jm e npB)];exact e)
 have k7B:Kp H7 HB:=Kp.of_same s7B
 refine Ju (K:=K) (a:=ll) (xs:=xs3) (EH a p r pA ta nA i0 d ds nl xs2 pds is HB) #[cA,ch,none,none,none,none,Cs,rfl,(ak.kp k7).kp k7B,MP,rv.kp k7B,Kp.of_same (ae.refl _)] (λk σ H' _ h=>?_) ?_ (λσ H' h=>f1 _ _ ?_)
 ·obtain⟨_,_,_,_,_,_,_,_,_,_,_,kk⟩:=h
  exact aP.of (kk _ _ pO hll)
 ·clear f1
  intro E rt k x σ HC hxk fE Gq kq h
  obtain⟨cC,ch,o8,o9,o10,o11,Cc,rfl,aC,lC,rC,kC'⟩:=h
  refine kq ?_
  clear kq
  obtain⟨qq,cc,ii,rfl,hq,hin⟩:=pV x (List.mem_of_getElem? hxk)
  have hq:=kC'.tm _ _ hq
  have hkl:=(List.getElem?_eq_some_iff.mp hxk).1
  refine#[qq,_,rfl,aA.of hq,rfl,_,_,rfl,_,_,rfl,rfl,?_]
  show dO (io _ _ _) (dO _ _) E [some (.ref a),some (.ref p),some (.ref r),some (.str d.f),some (.ref ta),some (.ref pA),some (.ref cC),some ch,some (.int cc),some (.int ii),o10,o11] HC
  refine aj λF1 f1=>?_
  suffices g1:∀HD,Kp HC HD->F1 [some (.ref a),some (.ref p),some (.ref r),some (.str d.f),some (.ref ta),some (.ref pA),some (.ref cC),some ch,some (.int cc),some (.int ii),o10,o11] HD by
   clear f1
   rcases rC with rfl | ⟨c,sk,b,L',rfl,eq,hc,ok,dp,sz⟩
   ·exact#[_,rfl,_,rfl,aO MO (aO rfl (g1 _ (Kp.of_same (ae.refl _))))]
   ·have tr0:gn sk.flat Cc=true:=(Ja eq).mpr #[_,_,eq]
    refine#[_,rfl,_,rfl,cq (by rw[decide_eq_false (by intro z;cases z)];rfl) #[_,rfl,_,rfl,pA,i0,0,_,Cc,[],_,d,ds,nl,xs2,pds,is,sk,b,.ref c,rfl,aC.ps,aC.hd,aC.hn,aC.hi,hc,ok,aC.gc,GT.nil,eq,λHD sD _ _=>#[true,true,rfl,rfl,_,rfl,aO rfl #[_,rfl,_,rfl,cC,Cc,d.f,is,sk,b,.ref c,rfl,sD _ _ aC.ce,aC.gc.nt,MP,hc.same (ae.tm sD),ok,dp,sz,λHE sE=>?_]]]]
    rw[tr0]
    exact#[true,true,rfl,rfl,_,rfl,aO rfl (g1 HE (Kp.of_same (sD.trans sE)))]
  intro HD kD
  refine f1 _ _ ?_
  clear f1
  have aD:=aC.kp kD
  have rD:=rC.kp kD
  refine aj λF1 f1=>#[_,rfl,cC,Cc,rfl,aD.ce,λot not=>f1 _ _ ?_]
  clear f1
  have s9:ae HD (af HD ot (.dK Cc)):=je not
  have e9:af HD ot (.dK Cc) ot=some (.dK Cc):=jc
  generalize af HD ot (.dK Cc)=HE at s9 e9
  have pl:=zC (kvs:=Cc) (k:=.inl cc) (v:=.int ii)
  refine aj λF1 f1=>#[_,rfl,_,rfl,_,rfl,ot,_,rfl,iw.k (k:=.inl cc) e9 MP,f1 _ _ ?_]
  clear f1
  have kE:au ot HE (af HE ot (.dK (aM Cc (.inl cc) (.int ii)))):=λb o nb e=>by rw[jk nb];exact e
  have eE:af HE ot (.dK (aM Cc (.inl cc) (.int ii))) ot=some (.dK (aM Cc (.inl cc) (.int ii))):=jc
  generalize af HE ot (.dK (aM Cc (.inl cc) (.int ii)))=HF at kE eE
  have sF:ae HD HF:=λb o e=>kE _ _ (jm e not) (s9 _ _ e)
  have kx1:Kp HD HF:=Kp.of_same sF
  have gF:GT (aM Cc (.inl cc) (.int ii)):=aD.gc.put _ hin
  have aF0:=aD.kp kx1
  have aF:wY HF nA pA ta ot i0 (aM Cc (.inl cc) (.int ii)) d ds nl xs2 pds is:=#[aF0.ps,aF0.xl,aF0.hd,aF0.hn,aF0.ag,aF0.hi,aF0.il,eE,gF]
  have rF:=rD.kp kx1
  generalize aM Cc (.inl cc) (.int ii)=D at pl gF aF eE
  clear aF0 kE e9 s9
  refine aj λF1 f1=>?_
  suffices g2:∀(o:V) (HG:Hp),Kp HF HG->n6 HG pds D d.f is o->(o= .non->∀sk a L' t',a5 pds D 16 d.f is [] 0≠ .ok sk a L' t')->F1 [some (.ref a),some (.ref p),some (.ref r),some (.str d.f),some (.ref ta),some (.ref pA),some (.ref ot),some ch,some (.int cc),some (.int ii),some o,o11] HG by
   clear f1
   exact#[_,rfl,_,rfl,_,rfl,_,rfl,pA,ta,ot,i0,D,d,ds,nl,xs2,pds,is,rfl,aF,λc sk b L' HG eq hc ok dp sz kx2=>g2 _ HG kx2 (.inr #[c,sk,b,L',rfl,eq,hc,ok,dp,sz]) (λz=>by cases z),λno HG kx2=>g2 _ HG kx2 (.inl rfl) λ_=>no]
  intro oo HG kx2 rO nO
  refine f1 _ _ ?_
  clear f1
  have aG:=aF.kp kx2
  have rG:=rF.kp kx2
  refine aj λF1 f1=>?_
  suffices g3:∀(o11:Option V) (HH:Hp),Kp HG HH->F1 [some (.ref a),some (.ref p),some (.ref r),some (.str d.f),some (.ref ta),some (.ref pA),some (.ref ot),some ch,some (.int cc),some (.int ii),some oo,o11] HH by
   clear f1
   rcases rG with rfl | ⟨c,sk,b,L',rfl,eq,hc,ok,dp,sz⟩
   ·exact#[_,rfl,_,rfl,aO MO (g3 _ _ (Kp.of_same (ae.refl _)))]
   ·refine#[_,rfl,_,rfl,cq (by rw[decide_eq_false (by intro z;cases z)];rfl) ?_]
    refine aj λF2 f2=>#[_,rfl,_,rfl,ot,D,d.f,is,sk,b,.ref c,rfl,aG.ce,aG.gc.nt,MP,hc,ok,dp,sz,λHH sH=>f2 _ _ ?_]
    clear f2
    have hcH:=hc.same (ae.tm sH)
    have kH:Kp HG HH:=Kp.of_same sH
    obtain⟨c0,cg,ce,css,ec,hcc,_⟩:=hcH
    injection ec with ec
    rw[<- ec]at hcc
    have hcH:=hc.same (ae.tm sH)
    have e2:=uZ (D:=D) eq
    have e1:(oo= .non/\gn sk.flat D=false)∨∃c2 sk2 b2,oo= .ref c2/\ni HH d.f is sk2 b2 (.ref c2)/\sk2.ok true/\sk2.dep<=15/\gn sk.flat D=lX (.tp (uH d.f is sk2 b2)) (.tp (uH d.f is sk b)):=by
     rcases rO with rfl | ⟨c2,sk2,b2,L2,rfl,eq2,hc2,ok2,dp2,bX⟩
     ·exact .inl #[rfl,u5 eq (nO rfl)]
     ·exact .inr #[c2,sk2,b2,rfl,hc2.same (ae.tm sH),ok2,dp2,uY eq eq2 ok ok2]
    generalize gn sk.flat D=z at e1 e2
    have fin:∀(HX:Hp),¬HX=HX->False:=λ_ h=>h rfl
    clear fin
    have oth:∀h0:Addr,HH h0=none->ot≠h0:=λh0 n0 x=>by
     have:=sH _ _ aG.ce
     rw[x,n0]at this
     cases this
    rcases e1 with ⟨rfl,ez⟩ | ⟨c2,sk2,b2,rfl,hc2,ok2,dp2,ez⟩
    ·refine#[_,rfl,_,rfl,_,rfl,.inr #[rfl,c,_,rfl,hcc,rfl,_,rfl,aO (by rw[ez];rfl) #[_,rfl,_,rfl,_,rfl,λh0 n0=>?_]]]
     have s0:ae HH (af HH h0 (.dK [])):=je n0
     have e0:af HH h0 (.dK []) h0=some (.dK []):=jc
     generalize af HH h0 (.dK [])=HX at s0 e0
     exact#[ot,h0,D,[],d.f,is,sk,b,.ref c,rfl,oth h0 n0,s0 _ _ (sH _ _ aG.ce),aG.gc.nt,e0,by show 0+sk.size<=1000;omega,hcH.same (ae.tm s0),ok,MP,λHY bY _=>#[rfl,_,rfl,aO (by rw[<- e2,decide_eq_true rfl];rfl) (g3 _ _ (Kp.of_same (sH.trans λb o e=>bY _ _ (jm e n0) (s0 _ _ e))))]]
    ·refine#[_,rfl,_,rfl,_,rfl,.inl #[_,_,yt ok2 dp2,xp ok2,xp ok,xq hc2 ok2,xq hcH ok,rfl,_,rfl,aO (by rw[<- ez,decide_eq_true rfl];rfl) #[_,rfl,_,rfl,_,rfl,λh0 n0=>?_]]]
     have s0:ae HH (af HH h0 (.dK [])):=je n0
     have e0:af HH h0 (.dK []) h0=some (.dK []):=jc
     generalize af HH h0 (.dK [])=HX at s0 e0
     exact#[ot,h0,D,[],d.f,is,sk,b,.ref c,rfl,oth h0 n0,s0 _ _ (sH _ _ aG.ce),aG.gc.nt,e0,by show 0+sk.size<=1000;omega,hcH.same (ae.tm s0),ok,MP,λHY bY _=>#[rfl,_,rfl,aO (by rw[<- e2,decide_eq_true rfl];rfl) (g3 _ _ (Kp.of_same (sH.trans λb o e=>bY _ _ (jm e n0) (s0 _ _ e))))]]
  intro o11 HH kH
  refine f1 _ _ ?_
  clear f1
  have aH:=aG.kp kH
  have kT:Kp HB HH:=(kC'.trans kD).trans (kx1.trans (kx2.trans kH))
  rcases rO with rfl | ⟨c2,sk2,b2,L2,rfl,eq2,hc2,ok2,dp2,bX⟩
  ·refine#[_,rfl,_,rfl,aO MO ?_]
   have rH:=rG.kp kH
   rcases rH with rfl | ⟨c,sk,b,L',rfl,eq,hc,ok,dp,sz⟩
   ·exact#[_,rfl,_,rfl,aO MO (fE _ _ #[ot,.non,_,_,_,_,D,rfl,aH,MP,.inl rfl,kT])]
   ·refine#[_,rfl,_,rfl,cq (by rw[decide_eq_false (by intro z;cases z)];rfl) ?_]
    have p2:=zC (kvs:=D) (k:=.inl cc) (v:=.int 0)
    refine aj λF2 f2=>#[_,rfl,_,rfl,ot,_,rfl,iw.k (k:=.inl cc) aH.ce MP,f2 _ _ ?_]
    clear f2
    have kI:au ot HH (af HH ot (.dK (aM D (.inl cc) (.int 0)))):=λb o nb e=>by rw[jk nb];exact e
    have eI:af HH ot (.dK (aM D (.inl cc) (.int 0))) ot=some (.dK (aM D (.inl cc) (.int 0))):=jc
    generalize af HH ot (.dK (aM D (.inl cc) (.int 0)))=HI at kI eI
    have tI:ai HH HI:=λb xs e=>kI b _ (λx=>by rw[x,aH.ce]at e;cases e) e
    have aI:wY HI nA pA ta ot i0 (aM D (.inl cc) (.int 0)) d ds nl xs2 pds is:=#[aH.ps.mono tI,aH.xl,aH.hd,aH.hn,tI _ _ aH.ag,aH.hi,aH.il,eI,aH.gc.put _ #[MO,MO]]
    have kT':Kp HB HI:=λb o n e=>by
     have h:=(kC'.trans kD) _ _ n e
     exact kI _ _ (jm h not) ((kx1.trans (kx2.trans kH)) _ _ n h)
    exact#[_,rfl,_,rfl,_,rfl,_,rfl,pA,ta,ot,i0,(aM D (.inl cc) (.int 0)),d,ds,nl,xs2,pds,is,rfl,aI,λc sk b L' HJ eq hc ok dp sz kJ=>fE _ _ #[ot,.ref c,_,_,_,_,_,rfl,aI.kp kJ,MP,.inr #[c,sk,b,L',rfl,eq,hc,ok,dp,sz],kT'.trans kJ],λno HJ kJ=>fE _ _ #[ot,.non,_,_,_,_,_,rfl,aI.kp kJ,MP,.inl rfl,kT'.trans kJ]]
  ·refine#[_,rfl,_,rfl,cq (by rw[decide_eq_false (by intro z;cases z)];rfl) #[_,rfl,fE _ _ #[ot,.ref c2,_,_,_,_,D,rfl,aH,MP,.inr #[c2,sk2,b2,L2,rfl,eq2,hc2.same (Kp.tm kH),ok2,dp2,bX],kT]]]
 ·exact q _
@[elab_as_elim] theorem Fn{P:List Value->Prop}(u:List Value)(h:u.length=1)(q:∀a,P [a]):P u:=by
 cases u with
 |nil=>cases h
 |cons a r=>
  cases r with
  |nil=>exact q a
  |cons _ _=>cases h
theorem _root_.L2.aU.b1{K:Frag}{st:Stmt}{p:List Str}(F:aU K x q st f g)(h:∀(kV d b:Value) (A:Option Addr) (c C a:Value),bindArgs (fnOf x q (bJ st) (bo st) (aa st) .none kV d b A c C) #[[a],[]]=pure (p.zip [a]):=by intros;rfl)(e:p.length=1:=by rfl):ay K g p []:=F.binds λkV d b A c C u H=>Fn u (H.trans e) λa=>h kV d b A c C a
@[elab_as_elim] theorem Fo{P:List Value->Prop}(u:List Value)(h:u.length=2)(q:∀a b,P [a,b]):P u:=by
 cases u with
 |nil=>cases h
 |cons a r=>
  cases r with
  |nil=>cases h
  |cons b R=>
   cases R with
   |nil=>exact q a b
   |cons _ _=>cases h
theorem _root_.L2.aU.b2{K:Frag}{st:Stmt}{p:List Str}(F:aU K x q st f i)(h:∀(kV d g:Value) (A:Option Addr) (c C a b:Value),bindArgs (fnOf x q (bJ st) (bo st) (aa st) .none kV d g A c C) #[[a,b],[]]=pure (p.zip [a,b]):=by intros;rfl)(e:p.length=2:=by rfl):ay K i p []:=F.binds λkV d g A c C u H=>Fo u (H.trans e) λa b=>h kV d g A c C a b
@[elab_as_elim] theorem Fp{P:List Value->Prop}(u:List Value)(h:u.length=3)(q:∀a b c,P [a,b,c]):P u:=by
 cases u with
 |nil=>cases h
 |cons a r=>
  cases r with
  |nil=>cases h
  |cons b R=>
   cases R with
   |nil=>cases h
   |cons c d=>
    cases d with
    |nil=>exact q a b c
    |cons _ _=>cases h
theorem _root_.L2.aU.b3{K:Frag}{st:Stmt}{p:List Str}(F:aU K x q st f j)(h:∀(kV d g:Value) (A:Option Addr) (C i a b c:Value),bindArgs (fnOf x q (bJ st) (bo st) (aa st) .none kV d g A C i) #[[a,b,c],[]]=pure (p.zip [a,b,c]):=by intros;rfl)(e:p.length=3:=by rfl):ay K j p []:=F.binds λkV d g A C i u H=>Fp u (H.trans e) λa b c=>h kV d g A C i a b c
@[elab_as_elim] theorem Fq{P:List Value->Prop}(u:List Value)(h:u.length=4)(q:∀a b c d,P [a,b,c,d]):P u:=by
 cases u with
 |nil=>cases h
 |cons a r=>
  cases r with
  |nil=>cases h
  |cons b R=>
   cases R with
   |nil=>cases h
   |cons c e=>
    cases e with
    |nil=>cases h
    |cons d f=>
     cases f with
     |nil=>exact q a b c d
     |cons _ _=>cases h
theorem _root_.L2.aU.b4{K:Frag}{st:Stmt}{p:List Str}(F:aU K x q st f j)(h:∀(kV D g:Value) (A:Option Addr) (C i a b c d:Value),bindArgs (fnOf x q (bJ st) (bo st) (aa st) .none kV D g A C i) #[[a,b,c,d],[]]=pure (p.zip [a,b,c,d]):=by intros;rfl)(e:p.length=4:=by rfl):ay K j p []:=F.binds λkV D g A C i u H=>Fq u (H.trans e) λa b c d=>h kV D g A C i a b c d
@[elab_as_elim] theorem Fs{P:List Value->Prop}(u:List Value)(h:u.length=5)(q:∀a b c d e,P [a,b,c,d,e]):P u:=by
 cases u with
 |nil=>cases h
 |cons a r=>
  cases r with
  |nil=>cases h
  |cons b R=>
   cases R with
   |nil=>cases h
   |cons c f=>
    cases f with
    |nil=>cases h
    |cons d g=>
     cases g with
     |nil=>cases h
     |cons e i=>
      cases i with
      |nil=>exact q a b c d e
      |cons _ _=>cases h
theorem _root_.L2.aU.b5{K:Frag}{st:Stmt}{p:List Str}(F:aU K x q st f j)(h:∀(kV D g:Value) (A:Option Addr) (C i a b c d e:Value),bindArgs (fnOf x q (bJ st) (bo st) (aa st) .none kV D g A C i) #[[a,b,c,d,e],[]]=pure (p.zip [a,b,c,d,e]):=by intros;rfl)(e:p.length=5:=by rfl):ay K j p []:=F.binds λkV D g A C i u H=>Fs u (H.trans e) λa b c d e=>h kV D g A C i a b c d e
def eP(K:Frag)(p q:Str)(st:Stmt)(f:Addr):Prop:=∃(o:Value) (O:Option Addr) (kV d a:Value) (A:Option Addr) (c C:Value) (s:Array (Option Value)),K.lookup f=some #[o,O,.func (fnOf p q (bJ st) (bo st) (aa st) .none kV d a A c C),s]/\codeIn K c q=true/\keepIn K (.ref f)=true
def cn(K:Frag)(p:Str)(st:Stmt)(f:Addr):Prop:=nsIn K mainGlobals p=some (some (.ref f))/\eP K p p st f
section
variable {K:Frag}{py q:Str}{st:Stmt}{f:Addr}{oc:Value}{od:Option Addr}{kV dc pm:Value}{an:Option Addr}{cd ct:Value}{sl:Array (Option Value)}
theorem EQ(l:K.lookup f=some #[oc,od,.func (fnOf py q (bJ st) (bo st) (aa st) .none kV dc pm an cd ct),sl])(c:codeIn K cd q=true)(k:keepIn K (.ref f)=true):eP K py q st f:=#[_,_,_,_,_,_,_,_,_,l,c,k]
theorem EB(a:nsIn K mainGlobals py=some (some (.ref f)))(l:K.lookup f=some #[oc,od,.func (fnOf py py (bJ st) (bo st) (aa st) .none kV dc pm an cd ct),sl])(c:codeIn K cd py=true)(k:keepIn K (.ref f)=true):cn K py st f:=#[a,EQ l c k]
theorem eP.go(h:eP K py q st f):∃F,aU K py q st f F/\keepIn K (.ref f)=true:=by
 obtain⟨oc,od,kV,dc,pm,an,cd,ct,sl,l,c,k⟩:=h
 exact#[_,pj l c k,k]
theorem cn.go{mg:Str->Option Value}(t:cn K py st f)(X:K.In h)(G:h.Ns mainGlobals mg):∃a,aU K py py st f a/\keepIn K (.ref f)=true/\mg py=some (.ref f):=by
 obtain⟨a,F,k⟩:=t.2.go
 exact#[a,F,k,mg_of X G t.1]
end
theorem yn{l:PySem.W.OpenLaw}{w:World}{K:Frag}{mg:Str->Option Value}(X:K.In h)(G:h.Ns mainGlobals mg)(n2:mg "law"=some (.ref fa))
             
  (t2:cn K "names_in" dX f0)
  (t3:cn K "own_terms" A0 n3)
  (t4:cn K "used_behind_terms" sh V1)
  (t5:cn K "used_ahead_of" ww f1)
  (t7:cn K "used_ahead" wu V2)
  (t8:cn K "bodies_in" AU n4)
  (t':cn K "many_cuts" rV n5)
  (n7:cn K "deed_of" rQ n')
  (o1:cn K "place_of_give" iX f2)
  (o2:cn K "place_of_set" rX o3)
  (o4:cn K "part_made" rW o5)
  (o6:cn K "made" nF o7)
  (o8:cn K "_law_box" AV o9)
  (uj:cn K "_law_take" sf o')
  (p0:cn K "_law_number" iU p1)
  (p2:cn K "_law_names" gY p3)
  (p4:cn K "_law_term" nH p5)
  (p6:cn K "_law_spot" rY p9)
  (p':cn K "_law_statement" rZ V3)
  (q0:cn K "_law_body" nC q1)
  (q2:cn K "_law_any" AT q3)
  (dJ:cn K "_law_op" El q4)
  (q5:cn K "_law_inner" mw q6)
  (q7:cn K "_law_looped" gK q')
  (r0:cn K "_law_ticking" fj r1)
  (r2:cn K "_law_busy" rN r3)
  (r4:cn K "_law_case" nD r5)
  (r6:cn K "joined" iS r7)
  (r8:cn K "worth" iY r9)
  (r':cn K "named" iT s0)
  (s1:cn K "begun" mq s2)
  (s3:cn K "deeper" iP s4)
  (s5:cn K "part_of" iW s6)
  (s7:cn K "cut_at" mv s8)
  (s9:cn K "held_at" iR s')
  (u0:cn K "worths" gM u1)
  (u2:cn K "deed_at" iO u3)
  (u4:cn K "found_in" gX u8)
  (u9:cn K "end_of" iQ u')
  (v2:cn K "first_of" gW v3)
  (v4:cn K "onward" iV v5)
  (v6:cn K "run" A2 v7)
  (v8:cn K "whats_at" wA V4)
  (v9:cn K "whats_in" wB v')
  (w0:cn K "whats" A3 w1)
  (w2:cn K "true_of" sg w3)
  (w4:cn K "deed_in" AX w5)
  (w6:cn K "goal_at" AY w7)
  (w8:cn K "right" wt w9)
  (w':cn K "is_done" nE V5)
  (x0:cn K "_law_cells" ms x1)
  (x2:cn K "_law_changes" AW x3)
  (x4:cn K "_law_run" rS x5)
  (x7:cn K "_law_finds" wo x8)
  (tZ:cn K "law" mx fZ)
  (x9:nsIn K mainGlobals "NOUGHT"=some (some (.ref r))) (x':K.lookup r=some #[.type "tuple",V6,.seq (List.toArray [.str "num" V7,.int 0 V8]) nN,V9]) (y0:nsIn K mainGlobals "Cutting"=some (some (.ref C))) (v1:nsIn K mainGlobals "TOP"=some (some (.int 1000000000000000000 U3))) (vD:nsIn K mainGlobals "DEEPEST"=some (some (.int 15 tD))) (vR:nsIn K mainGlobals "BookRun"=some (some (.ref c))) (vT:nsIn K mainGlobals "Turns"=some (some (.ref c0)))
  (y1:nsIn K mainGlobals "TooLong"=some (some (.ref x)))
  (y2:nsIn K mainGlobals "TooDeep"=some (some (.ref t)))
  (y3:K.lookup x=some #[U4,U5,.cls U6,U7]) (t0:typeIn K (.ref x)=some (.type "type")) (m5:mroIn K x (.type "BaseException")=some true) (k2:keepIn K (.ref x)=true)
  (y4:K.lookup t=some #[U8,U9,.cls U',V0]) (t1:typeIn K (.ref t)=some (.type "type")) (m6:mroIn K t (.type "BaseException")=some true) (k3:keepIn K (.ref t)=true)
  (y5:mroIn K x (.ref x)=some true) (y':mroIn K t (.ref x)=some false) (z6:mroIn K t (.ref t)=some true)
  (e0:excIn K x n9 "ValueError.__new__"=true) (e1:excIn K t n9 "ValueError.__new__"=true)
  (X':oG K x) (b0:oG K t)
  (rk:RK K c) (z7:Mk K c f3) (tm:yd K c0 "__init__" f4) (m7:ci K c "take_turn" f5) (m8:ci K c "number_in" f6) (m2:ci K c "chain_of" z8) (m9:ci K c "what_of" z')
  (ck:CK K C) (mk:Mk K C f7) (m':ci K C "place_of_body" f9) (A':ci K C "place_of" B1) (B2:ci K C "place_of_cut" B3) (B4:ci K C "ways_of" B5)
  (B6:eP K "__init__" "Cutting.__init__" rR f7)
  (B7:eP K "place_of_body" "Cutting.place_of_body" wj f9)
  (B8:eP K "place_of" "Cutting.place_of" wq B1)
  (B9:eP K "place_of_cut" "Cutting.place_of_cut" wm B3)
  (B':eP K "ways_of" "Cutting.ways_of" wz B5)
  (C2:eP K "__init__" "Turns.__init__" sd f4)
  (C':eP K "take_turn" "Turns.take_turn" my f5)
  (D':eP K "number_in" "Turns.number_in" se f6)
  (E1:eP K "__init__" "BookRun.__init__" rM f3)
  (E2:eP K "chain_of" "BookRun.chain_of" wf z8)
  (E3:eP K "what_of" "BookRun.what_of" wg z')
  (z2:nsIn K mainGlobals "len"=some none)
  (z3:nsIn K mainGlobals "int"=some none)
  (J:nsIn K mainGlobals "range"=some none)
  (z0:nsIn K mainGlobals "list"=some none)
  (o:nsIn K mainGlobals "reversed"=some none)
  (L:nsIn K mainGlobals "tuple"=some none)
  (u:nsIn K mainGlobals "sorted"=some none)
  (z4:nsIn K mainGlobals "set"=some none)
  (z5:nsIn K mainGlobals "zip"=some none)
  (z1:nsIn K mainGlobals "dict"=some none)
  (j:nsIn K mainGlobals "enumerate"=some none)
  :∃fd:FuncData,(∀(s:Shared) (v:Value),BindsTo s fd #[[v],[]] [("_law_script",v)])/\∀base:Heap,K.In base->base.Ns mainGlobals mg->ah l.prog w K mg base aE 66 fa fd ["_law_script"] (nV K):=by
 have e:=n2.symm.trans (mg_of X G tZ.1)
 cases e
 obtain⟨E4,p,O,M⟩:=t2.go X G
 obtain⟨V',b7,E5,E6⟩:=t3.go X G
 obtain⟨W0,b9,W1,E7⟩:=t4.go X G
 obtain⟨W2,Q,k4,m3⟩:=t5.go X G
 obtain⟨W3,b',W4,E8⟩:=t7.go X G
 obtain⟨W5,c1,E9,E'⟩:=t8.go X G
 obtain⟨W6,F0,k5,c2⟩:=t'.go X G
 obtain⟨W7,c3,H0,H1⟩:=n7.go X G
 obtain⟨W8,R,k6,c4⟩:=o1.go X G
 obtain⟨W9,c5,H2,H3⟩:=o2.go X G
 obtain⟨W',c6,H4,H5⟩:=o4.go X G
 obtain⟨Y',c9,H6,H7⟩:=o6.go X G
 obtain⟨Z',c',H8,H9⟩:=o8.go X G
 obtain⟨dTk,F,k,m⟩:=uj.go X G
 obtain⟨dNu,y,S,T⟩:=p0.go X G
 obtain⟨dNm,F1,k7,d0⟩:=p2.go X G
 obtain⟨dTm,U,k8,m4⟩:=p4.go X G
 obtain⟨dPo,d1,H',I1⟩:=p6.go X G
 obtain⟨dSt,d2,kSt,I2⟩:=p'.go X G
 obtain⟨dBo,F2,I3,d3⟩:=q0.go X G
 obtain⟨dAn,d4,I4,I5⟩:=q2.go X G
 obtain⟨dOp,A,V,Y⟩:=dJ.go X G
 obtain⟨dIn,d5,I6,I7⟩:=q5.go X G
 obtain⟨dLo,d6,I',J0⟩:=q7.go X G
 obtain⟨dTi,d7,K1,K3⟩:=r0.go X G
 obtain⟨dBu,d8,K4,K5⟩:=r2.go X G
 obtain⟨dCa,d',L0,L1⟩:=r4.go X G
 obtain⟨dJo,e2,L3,L4⟩:=r6.go X G
 obtain⟨dWo,B,k1,m0⟩:=r8.go X G
 obtain⟨dNd,F3,k9,e3⟩:=r'.go X G
 obtain⟨dBe,F4,k',e4⟩:=s1.go X G
 obtain⟨dDp,e5,L5,L6⟩:=s3.go X G
 obtain⟨dPf,e6,L7,L8⟩:=s5.go X G
 obtain⟨dCu,D,k0,m1⟩:=s7.go X G
 obtain⟨dHe,F5,e7,e8⟩:=s9.go X G
 obtain⟨dWs,e9,L',M0⟩:=u0.go X G
 obtain⟨dDa,F6,e',f'⟩:=u2.go X G
 obtain⟨dFo,g0,M1,M3⟩:=u4.go X G
 obtain⟨dEn,F7,g1,g2⟩:=u9.go X G
 obtain⟨dFi,F9,g4,g5⟩:=v2.go X G
 obtain⟨dOn,a0,g6,g7⟩:=v4.go X G
 obtain⟨dRu,g8,M4,M5⟩:=v6.go X G
 obtain⟨dWa,g',kWa,M6⟩:=v8.go X G
 obtain⟨dWi,a1,M7,h0⟩:=v9.go X G
 obtain⟨dWt,h1,M8,M9⟩:=w0.go X G
 obtain⟨dTr,h2,M',N0⟩:=w2.go X G
 obtain⟨dDi,h3,N1,N2⟩:=w4.go X G
 obtain⟨dGa,h4,N3,N4⟩:=w6.go X G
 obtain⟨dRt,a2,N5,h5⟩:=w8.go X G
 obtain⟨dDn,h6,kDn,N6⟩:=w'.go X G
 obtain⟨dCe,h7,N7,N8⟩:=x0.go X G
 obtain⟨dCg,h8,N9,N'⟩:=x2.go X G
 obtain⟨dLr,h',O0,O1⟩:=x4.go X G
 obtain⟨dFd,a3,O2,i0⟩:=x7.go X G
 obtain⟨dmI,i1,kmI⟩:=B6.go
 obtain⟨dmB,a4,kmB⟩:=B7.go
 obtain⟨dmO,i2,kmO⟩:=B8.go
 obtain⟨dmC,i3,kmC⟩:=B9.go
 obtain⟨dmW,i4,kmW⟩:=B'.go
 obtain⟨dTI,i',kTI⟩:=C2.go
 obtain⟨dTT,j0,kTT⟩:=C'.go
 obtain⟨dTN,j1,kTN⟩:=D'.go
 obtain⟨dRI,j2,kRI⟩:=E1.go
 obtain⟨dRC,a',kRC⟩:=E2.go
 obtain⟨dRW,l0,kRW⟩:=E3.go
 obtain⟨ocZ,odZ,O3,O4,O5,O6,O7,O8,slZ,lZ,cZ,kZ⟩:=tZ.2
 have FZ:=pj (st:=mx) lZ cZ kZ
 have a:=Ip X G z2
 have q:=Ip X G z3
 have b:=Ip X G J
 have E:=Ip X G z0
 have N:=Ip X G o
 have n:=Ip X G L
 have f:=Ip X G u
 have I:=Ip X G z4
 have n0:=Ip X G z5
 have i:=Ip X G z1
 have d:=Ip X G j
 have l1:ma K r:=λH=>.inr #[_,_,_,x',Z,Z,bX,(.cons #[_,Z] (.cons #[_,Z] .nil))]
 refine#[fnOf "law" "law" (bJ mx) (bo mx) (aa mx) .none O3 O4 O5 O6 O7 O8,λs v=>.of_eq Z,λbase _ _=>?_]
 have g:ah l.prog w K mg base aE 1 o' _ _ ba:=vJ F
 have O9:ah l.prog w K mg base aE 1 o9 _ _ (sR K):=Ab c' a q
 have G0:ah l.prog w K mg base aE 2 p1 _ _ ie:=ZU y #[g,F.b2,k,m]
 have G4:ah l.prog w K mg base aE 2 p3 _ _ gN:=pW F1 g F.b2 k m b
 have G5:ah l.prog w K mg base aE 6 p5 _ _ (dh 4):=x6 (P:=l.prog) (w:=w) (base:=base) U U.b3 m4 #[g,F.b2,k,m] #[G0,y.b1,S,T] a 4
 have O':ah l.prog w K mg base aE 7 p9 _ _ le:=vI d1 #[g,F.b2,k,m] #[G5,U.b3,k8,m4]
 have SS:=Dh (P:=l.prog) (w:=w) (base:=base) d2 F2 #[g,F.b2,k,m] #[G5,U.b3,k8,m4] #[O',d1.b2,H',I1] d2.b5 I2 F2.b5 d3 a n b
 have P0:ah l.prog w K mg base aE 21 q1 _ _ (hX 6):=(SS 6).2
 have P1:ah l.prog w K mg base aE 22 q3 _ _ sQ:=y8 d4 #[g,F.b2,k,m] #[G4,F1.b2,k7,d0] #[P0,F2.b5,I3,d3] a b n q
 have G1:ah l.prog w K mg base aE 2 q4 _ _ mP:=CF A #[g,F.b2,k,m]
 have P4:ah l.prog w K mg base aE 3 q6 _ _ (dq 2):=pU d5 #[g,F.b2,k,m] #[G1,A.b3,V,Y]
 have P5:ah l.prog w K mg base aE 3 q' _ _ (dq 1):=ZX d6 #[g,F.b2,k,m] #[G1,A.b3,V,Y] q n
 have P6:ah l.prog w K mg base aE 3 r1 _ _ (dq 1):=Yx d7 #[g,F.b2,k,m] #[G1,A.b3,V,Y] q n
 have P7:ah l.prog w K mg base aE 4 r3 _ _ mK:=vp d8 #[g,F.b2,k,m] #[G1,A.b3,V,Y] #[G4,F1.b2,k7,d0] #[P5,d6.b4,I',J0] #[P6,d7.b4,K1,K3] #[P4,d5.b4,I6,I7]
 have P8:ah l.prog w K mg base aE 23 r5 _ _ mM:=vq d' #[g,F.b2,k,m] #[G0,y.b1,S,T] #[P7,d8.b1,K4,K5] #[P1,d4.b3,I4,I5] a n
 have NS:=xK (P:=l.prog) (w:=w) (base:=base) p p.b1 M I f
 have G6:ah l.prog w K mg base aE 7 f0 _ _ (du 6):=NS 6
 have P9:ah l.prog w K mg base aE 7 f0 _ _ (sV K):=Aj (fN:=f0) (fdN:=E4) p #[NS 5,p.b1,O,M] I f
 have P':ah l.prog w K mg base aE 1 n3 _ _ nW:=Ak b7
 have US:=Ds (P:=l.prog) (w:=w) (base:=base) b' b9 Q b'.b2 E8 b9.b2 E7 Q.b2 m3 #[P',b7.b1,E5,E6] #[G6,p.b1,O,M] E I f N
 have Q':ah l.prog w K mg base aE 31 f1 _ _ (gH 7):=(US 7).2
 have R0:ah l.prog w K mg base aE 10 f1 _ _ (gH 0):=(US 0).2
 have R1:ah l.prog w K mg base aE 1 n4 _ _ nQ:=Aa c1
 have G9:ah l.prog w K mg base aE 2 n5 _ _ h9:=vC F0 #[R1,c1.b1,E9,E'] E
 have R3:ah l.prog w K mg base aE 1 n' _ _ i7:=vt c3
 have R4:ah l.prog w K mg base aE 8 f2 _ _ gQ:=pX R #[G6,p.b1,O,M]
 have R5:ah l.prog w K mg base aE 8 f2 _ _ (sW K):=Al R #[P9,p.b1,O,M]
 have R6:ah l.prog w K mg base aE 11 o3 _ _ j':=vH c5 #[R0,Q.b2,k4,m3]
 have R7:ah l.prog w K mg base aE 63 f9 _ _ (mQ C 8):=ES (P:=l.prog) (w:=w) (base:=base) ck a4 i2 i3 i4 a4.b3 m' i2.b3 A' i3.b3 B2 i4.b4 B4 #[G9,F0.b1,k5,c2] #[Q',Q.b2,k4,m3] #[R3,c3.b1,H0,H1] #[R4,R.b1,k6,c4] #[R6,c5.b2,H2,H3] a n N 8 (Fz _)
 have R8:ah l.prog w K mg base aE 3 f7 _ _ (sU C):=Ah i1 ck #[G9,F0.b1,k5,c2]
 have R9:ah l.prog w K mg base aE 64 o5 _ _ (mW K r):=vF c6 ck mk R8 i1.b2 (mg_of X G y0) (mg_of X G x9) l1 R7 a4.b3 m' #[R5,R.b1,k6,c4] n N
 have R':ah l.prog w K mg base aE 65 o7 _ _ (mO K r):=vB c9 #[R9,c6.b3,H4,H5] n
 have S0:ah l.prog w K mg base aE 1 r7 _ _ i9:=ZZ e2 (mg_of X G v1)
 have G3:ah l.prog w K mg base aE 7 r9 _ _ (c7 K 6):=t6 (P:=l.prog) (w:=w) (base:=base) B B.b2 m0 #[S0,e2.b3,L3,L4] 6
 have G2:ah l.prog w K mg base aE 1 s8 _ _ (iG r):=pR D
 have G':ah l.prog w K mg base aE 2 s' _ _ (i8 r):=Z1 F5 #[G2,D.b2,k0,m1] i n0
 have S1:ah l.prog w K mg base aE 8 u1 _ _ ik:=Z3 e9 #[G3,B.b2,k1,m0] n
 have l2:ah l.prog w K mg base aE 9 u3 _ _ (d9 r):=Z4 F6 #[G',F5.b3,e7,e8] #[G2,D.b2,k0,m1] #[G3,B.b2,k1,m0] #[S1,e9.b2,L',M0]
 have S2:ah l.prog w K mg base aE 1 u8 _ _ f8:=pT g0
 have l3:ah l.prog w K mg base aE 8 u' _ _ (nS r):=pS F7 #[G2,D.b2,k0,m1] #[G3,B.b2,k1,m0] n l1
 have l4:ah l.prog w K mg base aE 9 v3 _ _ (eh r):=Yz F9 #[l3,F7.b3,g1,g2] i n0
 have l5:ah l.prog w K mg base aE 9 v5 _ _ (oq r):=Z2 a0 #[G2,D.b2,k0,m1] #[G',F5.b3,e7,e8] #[S2,g0.b1,M1,M3] #[l3,F7.b3,g1,g2]
 have S3:clsIn K x≠none:=by
  unfold clsIn
  rw[y3]
  intro z
  cases z
 have S4:clsIn K t≠none:=by
  unfold clsIn
  rw[y4]
  intro z
  cases z
 have l6:=mg_of X G y1
 have l8:=mg_of X G y2
 have S5:XM K mg "TooLong" x:=#[e0,k2,X',t0,l6]
 have S6:XM K mg "TooDeep" t:=#[e1,k3,b0,t1,l8]
 have l':ah l.prog w K mg base aE 1 s0 _ _ lM:=Z5 F3
 have S7:ah l.prog w K mg base aE 2 s6 _ _ lM:=Z6 e6 #[l',F3.b2,k9,e3]
 have n1:ah l.prog w K mg base aE 2 s2 _ _ fV:=pP F4 #[l',F3.b2,k9,e3] a
 have S8:ah l.prog w K mg base (eO l.prog w) 1 s4 _ _ (fX t):=Z7 e5 (mg_of X G vD) S6
 have S9:ah l.prog w K mg base aE 1 f4 _ _ (mX c):=vL i' rk
 have S':ah l.prog w K mg base (eO l.prog w) 1 f5 _ _ (lg c x):=pY j0 rk S5
 have T0:ah l.prog w K mg base aE 1 f6 _ _ (gO c):=vM j1 rk
 have T1:ah l.prog w K mg base aE 2 f3 _ _ (mV c):=vG j2 rk S9 i'.b3 (mg_of X G vT) tm
 have T2:=BR (P:=l.prog) (w:=w) (base:=base) rk a' a'.b4 m2 l0 l0.b3 m9 #[l4,F9.b2,g4,g5] #[l2,F6.b3,e',f'] #[l5,a0.b2,g6,g7] S' j0.b1 m7 T0 j1.b2 m8 (S8) e5.b1 L5 L6 #[S7,e6.b2,L7,L8] n 16
 have T3:ah l.prog w K mg base (eO l.prog w) 45 v7 _ _ (sX x t r):=An g8 rk z7 T1 j2.b4 (mg_of X G vR) #[n1,F4.b3,k',e4] T2 a'.b4 m2
 have T4:ah l.prog w K mg base aE 3 x1 _ _ i6:=pQ h7 #[g,F.b2,k,m] #[G0,y.b1,S,T] b
 have T5:ah l.prog w K mg base aE 3 x3 _ _ sS:=Ad h8 #[g,F.b2,k,m] #[G0,y.b1,S,T] b
 have T6:ah l.prog w K mg base aE 34 v' _ _ (ij 16):=Dv (P:=l.prog) (w:=w) (base:=base) g' g'.b2 M6 a1 a1.b2 h0 d 16
 have T7:ah l.prog w K mg base aE 35 w1 _ _ sZ:=As h1 #[T6,a1.b2,M7,h0]
 have T8:ah l.prog w K mg base aE 36 w3 _ _ mY:=vN h2 #[T7,h1.b1,M8,M9] i
 have T9:ah l.prog w K mg base aE 46 x5 _ _ (mN r):=vA h' (T3) g8.b5 M4 M5 #[l6,S3,t0,m5,l8,S4,t1,m6,y5,y',z6]
 have T':ah l.prog w K mg base aE 1 w5 _ _ nR:=Ae h3
 have U0:ah l.prog w K mg base aE 1 w7 _ _ nU:=Ag h4 a
 have U1:ah l.prog w K mg base aE 52 w9 _ _ (ig r 16):=CZ (P:=l.prog) (w:=w) (base:=base) a2 a2.b2 h5 h6 h6.b3 N6 #[T',h3.b1,N1,N2] #[l2,F6.b3,e',f'] #[n1,F4.b3,k',e4] #[l4,F9.b2,g4,g5] #[l5,a0.b2,g6,g7] #[U0,h4.b2,N3,N4] a d 16
 have U2:ah l.prog w K mg base aE 17 x8 _ _ (hZ 16):=Co (P:=l.prog) (w:=w) (base:=base) a3 a3.b3 i0 16
 exact Ai FZ #[O9,c'.b2,H8,H9] #[P8,d'.b1,L0,L1] #[R',c9.b1,H6,H7] #[T4,h7.b1,N7,N8] #[T9,h'.b4,O0,O1] #[U1,a2.b2,N5,h5] #[T8,h2.b2,M',N0] #[U2,a3.b3,O2,i0] #[T5,h8.b2,N9,N'] i
theorem ED{l:PySem.W.OpenLaw}{Y:World->Heap->Prop}{d:DefRec}{K:Params->Frag}(e:l.most=some 63)(H:d.params.defaults=[])
  (g:∀(w:World) (h:Heap),Y w h->(K w.params).In h)
  (F:∀(w:World) (mg:Str->Option Value) (b:Addr) (h:Heap),(K w.params).In h->h.Ns mainGlobals mg->mg d.name=some (.ref b)->
   ∃c:FuncData,(∀(s:Shared) (u:Value),BindsTo s c #[[u],[]] [("_law_script",u)])/\∀base:Heap,(K w.params).In base->base.Ns mainGlobals mg->ah l.prog w (K w.params) mg base aE 66 b c ["_law_script"] (nV (K w.params))):
  PySem.W.WalkO q L m Y l.row.toRowW d [] (λf v=>PySem.call f v):=
 L2.wR (n:=63) (k:=66) (x:="_law_script") (CX:=λ_=>aE) (sp:=λw=>nV (K w.params)) e MO H #[Z,MO,MO] g F (λ_ _ a N i _ j=>#[a,N,Z,j,i,λ_=>Z]) λ_ _ _ _ _ z=>z
end K30
namespace PySem.W.Fast
def tw12063921617261736366:=0
def tw10667827755426504950:=0
def tw7058589065694481479:=0
def tw11341918253094799457:=0
def tw7665849955903980099:=0
def tw3933247936715825397:=0
def tw10562260157948075789:=0
def tw1346850209959912254:=0
def tw7695359348788591956:=0
def tw5010549454534128731:=0
def tw5096240475404656991:=0
def tw10733371067686714419:=0
def tw6794649471372953745:=0
def tw5168806337948556956:=0
def tw13507149793959407469:=0
def tw554253142407557529:=0
def tw2110276837524454922:=0
def tw683277102953689437:=0
def tw16390679402434641279:=0
def tw16648629953354133433:=0
def tw9866733287570882079:=0
def tw10508006972780002832:=0
def tw7853066764842784092:=0
def tw1734078290465034527:=0
def tw9984985069775164343:=0
def tw18354758396380954414:=0
def tw15656941027082791920:=0
def tw4115014193669271013:=0
def tw4349296457505909945:=0
def tw3314604327712571122:=0
def tw8957688605764431305:=0
def tw3759725961326605670:=0
def tw6041617335717655199:=0
def tw16012697464005249878:=0
def tw2298784430725580608:=0
def tw3370605027909595033:=0
def tw1149417946855095983:=0
def tw7880721870509844014:=0
def tw17220114979349344242:=0
def tw4205169747956183022:=0
def tw9774666763355779417:=0
def tw14801206606573483263:=0
def tw14827030652121402352:=0
def tw6821349142264865767:=0
def tw3331722842466899193:=0
def tw13729534878978770211:=0
def tw2536923402486041181:=0
def tw14613895895721644708:=0
def tw1573746429669568177:=0
def tw15931026624843525886:=0
def tw4960131093878065491:=0
def tw12304472288922170900:=0
def tw2502111134182935704:=0
def tw11774027081771429757:=0
def tw10882731928709265048:=0
def tw16458501219261289366:=0
def tw18011857109964227643:=0
def tw3151038692551064683:=0
def tw8928468365996110700:=0
def tw63732116715761551:=0
def tw4591452745708545121:=0
def tw15509852438805172894:=0
def tw15626780628077539958:=0
def tw8551386522110530704:=0
def tw14887695959052183491:=0
def tw1232899083750270041:=0
def tw6264104011482348845:=0
def tw10350088580242840792:=0
def tw10471900715455721582:=0
def tw15548468868180504405:=0
def tw10359037598299773447:=0
def tw6420299315259209379:=0
def tw15130449662608561705:=0
def tw1580863314237769950:=0
def tw11347559800771660950:=0
def tw2160401680020524516:=0
def tw17750630382464527394:=0
def tw14893070048761683247:=0
def tw15337364204458921825:=0
def tw13638984658342320397:=0
def tw15282980221453176152:=0
def tw1627772712923222475:=0
def tw16161404362116768051:=0
def tw9604684544595555443:=0
def tw6011779089973486401:=0
def tw16271394435360201740:=0
def tw9807972474691857597:=0
def tw16269904096967041559:=0
def tw282282874631004513:=0
def tw11561797125036552285:=0
def tw15547191853946810465:=0
def tw10736920648675414102:=0
def tw5579981830849771390:=0
def tw14049106100028404905:=0
def tw16662210531192446905:=0
def tw4348905790466546810:=0
def tw12162972902050352208:=0
def tw7763204337390972235:=0
def tw17414639265872115471:=0
def tw2597505532992531883:=0
def tw9369216516797748816:=0
def tw5459863205316729269:=0
def tw7227942197218304239:=0
def tw1106829556382072399:=0
def tw7211252857624992544:=0
def tw6920233274634046323:=0
def tw1997264136243484494:=0
def tw10557108163778586649:=0
def tw14269517648415382180:=0
def tw15350225358613732079:=0
def tw2912401885435468455:=0
def tw11580522992223466185:=0
def tw2156685123643398599:=0
def tw11523831922284703629:=0
def tw12632564741899934713:=0
def tw9250249818539933335:=0
def tw12354468433356473280:=0
def tw14840322388990679485:=0
def tw2999383731386260538:=0
def tw15476994457952224418:=0
def tw10223327122507085120:=0
def tw3981502404074236412:=0
def tw6550754294220892768:=0
def tw4644183372995187368:=0
def tw3088417337449473282:=0
def tw2262294163532074195:=0
def tw9408720609223081834:=0
def tw6558791413543345480:=0
def tw17639605173819261637:=0
def tw7370525849773629427:=0
def tw1717297766989540614:=0
def tw525950040499887708:=0
def tw8570127688174612518:=0
def tw15852727593079489876:=0
def tw9359951875839347356:=0
def tw1329704381452639099:=0
def tw6039744374670648864:=0
def tw2624759341522660991:=0
def tw4118161600548173137:=0
def tw543803682119908794:=0
def tw11451890218775545602:=0
def tw10629727026215770594:=0
def tw8717385921180693321:=0
def tw10280383363229047017:=0
def tw11975642730289957157:=0
def tw14519220232174654243:=0
def tw1840181657980014168:=0
def tw3073024662825131966:=0
def tw11159311285967366185:=0
def tw17614051379590355284:=0
def tw9006041187573410107:=0
def tw15805512445002728589:=0
def tw8165363101475962536:=0
def tw1045010946527153973:=0
def tw2952297475851298762:=0
def tw2204153744619675045:=0
def tw11758277767169166403:=0
def tw15608870322996420817:=0
def tw8779766618735755184:=0
def tw14743165422133187204:=0
def tw3105931006027473881:=0
def tw15025551945312559009:=0
def tw6811767893376069817:=0
def tw1555122267033322662:=0
def tw2653639619893889301:=0
def tw1704374614532021332:=0
def tw4417966118827581879:=0
def tw8761788437875913108:=0
def tw15052813927627840945:=0
def tw13544261801814920241:=0
def tw4007049576530119544:=0
def tw13901123308552321643:=0
def tw17142425978320984992:=0
def tw12941270946947731091:=0
def tw15218594559807622100:=0
def tw5767104768324731295:=0
def tw9757200272372447808:=0
def tw5749488022762313350:=0
def tw14767549224970427467:=0
def tw15478379796240357166:=0
def tw10615112298457325889:=0
def tw7687718448316954136:=0
def tw6263288954500302771:=0
def tw16181795724077152327:=0
def tw5932108147778045765:=0
def tw18234807219982655468:=0
def tw17220649634369996004:=0
def tw1039715276787468415:=0
def tw15287636719895032659:=0
def tw13629797768941281185:=0
def tw6338209760408886658:=0
def tw16603701935284890631:=0
def tw17646730427367192812:=0
def tw10062287399637210556:=0
def tw2691826592047971869:=0
def tw5170512500208546941:=0
def tw17031421514188485469:=0
def tw8374788180680838492:=0
def tw4727043833822979400:=0
def tw18283752173222060317:=0
def tw10466015527705229302:=0
def tw6939165580489544705:=0
def tw10862057950006582896:=0
def tw13078126008122473058:=0
def tw6777747599694127905:=0
def tw16515195032086583998:=0
def tw17384517199306022682:=0
def tw3057608333860216179:=0
def tw15970769213287888230:=0
def tw9881017145704805235:=0
def tw1071244339400256111:=0
def tw12663477668782409756:=0
def tw5031257168252590167:=0
def tw17923753936143327498:=0
def tw493438568013061456:=0
def tw1523557018519318648:=0
def tw11799982575631328237:=0
def tw8628345083654150754:=0
def tw4840543138221730164:=0
def tw13561667220801665867:=0
def tw9496260972388075925:=0
def tw4960798003352538623:=0
def tw6983993925072969456:=0
def tw12190261002338928908:=0
def tw8749172590927049096:=0
def tw4995731805452420273:=0
def tw13612745981889802955:=0
def tw3768887231303261152:=0
def tw16935411766551479986:=0
def tw146643421080543533:=0
def tw12719763966914542714:=0
def tw13582374251837513439:=0
def tw1733831521301918605:=0
def tw8241319232246569602:=0
def tw1435240016959765461:=0
def tw14834208639738898531:=0
def tw14777582009648683667:=0
def tw18406675038763731833:=0
def tw11088276832677599250:=0
def tw3242033760590634816:=0
def tw8660434105471468107:=0
def tw11134889645627423993:=0
def tw4581403309682883213:=0
def tw11639174088237303166:=0
def tw16263825003479927324:=0
def tw11402056554382731692:=0
def tw5271094295861497844:=0
def tw2105772189380485876:=0
def tw2229856982858979549:=0
def tw3925553999382506497:=0
def tw8292351852999545502:=0
def tw8544059789130704489:=0
def tw4773420648391053453:=0
def tw11866803178169371160:=0
def tw4798249540122537430:=0
def tw10096697382114430440:=0
def tw8111347300536963253:=0
def tw7705896075844115560:=0
def tw12487693119478123815:=0
def tw10312419104725380777:=0
def tw10299517883442881221:=0
def tw6161029093856541734:=0
def tw1477527793766396457:=0
def tw8869692872979973136:=0
def tw18401999895069106275:=0
def tw7787603771334703750:=0
def tw5028094788632048901:=0
def tw12917400450089440967:=0
def tw11516935743524770872:=0
def tw16662065892487757482:=0
def tw18314467046901409775:=0
def tw12691275654238506245:=0
def tw4983653409804955608:=0
def tw3804663316524211097:=0
def tw14277257033724353975:=0
def tw10792914308762136614:=0
def tw5347694472738671648:=0
def tw14224024911328695314:=0
def tw2493924745598685391:=0
def tw5106458535468702223:=0
def tw16768763159086655564:=0
def tw15286368658942125517:=0
def tw10591730621812792237:=0
def tw2365050394287065617:=0
def tw2757951629398266293:=0
def tw6213967610301319986:=0
def tw9269662897404296620:=0
def tw4690714343039049193:=0
def tw12165376108399030615:=0
def tw16966078919640813612:=0
def tw9341716834379732215:=0
def tw725234951681195277:=0
def tw548867386779174798:=0
def tw81921507092284760:=0
def tw3144418510783372689:=0
def tw12819374792955407549:=0
def tw8166556510787885536:=0
def tw5849059794377301101:=0
def tw343226606047303531:=0
def tw9185667355169760111:=0
def tw1742322020535214603:=0
def tw561187976535572350:=0
def tw17841514608094925636:=0
def tw3797198203980523376:=0
def tw10631233098271703916:=0
def tw14191236497302575850:=0
def tw12791529673068792353:=0
def tw7086863491239533081:=0
def tw5184940463550343722:=0
def tw458162891045177554:=0
def tw2609934876051170850:=0
def tw12935876592611701015:=0
def tw10331386583095138892:=0
def tw12356696681962222847:=0
def tw17089137860383486275:=0
def tw2907177970567716129:=0
def tw15197271983345540237:=0
def tw13214841678774691712:=0
def tw1976095823747896153:=0
def tw1057383422753860623:=0
def tw4043283159383008125:=0
def tw2549437367120550053:=0
def tw14355979523546942507:=0
def tw16174972630765634709:=0
def tw6370263805995068887:=0
def tw12900456951610220035:=0
def tw4221590128127650327:=0
def tw17830508647350738474:=0
def tw13162878159428899301:=0
def tw18275705303889625084:=0
def tw14455330202120239597:=0
def tw1301749109739293431:=0
def tw8307026611595782823:=0
def tw6102703274685943029:=0
def tw2746935281453609955:=0
def tw13303736136063820255:=0
def tw5423249377423081587:=0
def tw3745024153183517080:=0
def tw15730820911333725655:=0
def tw14055476513418677769:=0
def tw18148092421647362060:=0
def tw12074648034229227462:=0
def tw8518933409894628167:=0
def tw16784484265421111597:=0
def tw10501769501203964578:=0
def tw17148372106740222162:=0
def tw18073119398198518191:=0
def tw9104171901761976816:=0
def tw13994457721970749903:=0
def tw3452495066816945376:=0
def tw4098327196096393330:=0
def tw340592644758648635:=0
def tw8687281792882889801:=0
def tw16988891785659214504:=0
def tw9772209441540272084:=0
def tw9521561854254315691:=0
def tw6711687507913983277:=0
def tw774816738963954147:=0
def tw3656381186610132096:=0
def tw17467142051642074244:=0
def tw5267044459148544551:=0
def tw5313350662184950856:=0
def tw17171321583814631194:=0
def tw1604449534117786888:=0
def tw671165508310711237:=0
def tw13237277288680409983:=0
def tw4885790646725347509:=0
def tw17317118195482757001:=0
def tw1811823535709324559:=0
def tw8886923489878652732:=0
def tw8053736224691086198:=0
def tw14999711607848621793:=0
def tw11266945212072191549:=0
def tw5255553653700287411:=0
def tw1892741074068900723:=0
def tw756281357733784784:=0
def tw8686854402122651300:=0
end PySem.W.Fast
open PySem PySem.W PyProof.Rows PySem.W.X
theorem K30.Dt {q : Program} {loose : List PySem.Str} {XP : (PySem.Str → Option Value) → Heap → Prop} {K : Params → Frag} {as : List Addr} {n t : Nat} {r : RowW} {d : DefRec} {kwd : List (PySem.Str × PySem.Expr)} {run : Value → List Value → Sem Value}
    (e : ∀ P, as = (K P).map (·.1)) (h : WalkO q loose XP (InK K) r d kwd run) : WalkX q loose XP (obsZ as) (valZ K n t) r d kwd run :=
  fun w s₀ s₁ mg mb G Y a o pm cd doc dV kV h1 h2 h3 h4 h5 h6 args vals as' L => h w s₀ s₁ mg mb G (InK.keeps w _ _ (z_facts e Y).2.1 L.keeps) a o pm cd doc dV kV h1 h2 h3 h4 h5 h6 args vals as'
set_option maxRecDepth 100000 in
set_option maxHeartbeats 0 in
theorem PySem.Challenge.cw_againbook_k30_whole_right_and_true_is_th_holds : PySem.Challenge.rw_againbook_k30_whole_right_and_true_is_th.Holds := by
  w_on; o_law; z_head; (case hw => w_witness2)
  refine K30.Dt (fun _ => by rfl) (K30.ED (l := PySem.Challenge.rw_againbook_k30_whole_right_and_true_is_th) rfl rfl (fun w h Y => Y) ?F)
  case F =>
    intro w mg fa h KX G hmg
    apply K30.yn KX G hmg
    iterate 55 (apply K30.EB;iterate 4 k_is)
    iterate 20 k_is
    iterate 2 k_exc
    iterate 2 (constructor<;>k_is)
    refine ⟨⟨?_,?_,?_,?_⟩,?_,?_,?_,?_,?_⟩;iterate 4 k_is
    iterate 5 (unfold L2.bN;k_is)
    iterate 2 (constructor;iterate 4 k_is)
    iterate 4 (constructor;iterate 3 k_is)
    refine ⟨⟨?_,?_,?_,?_⟩,?_,?_⟩;iterate 4 k_is
    iterate 2 (unfold L2.bN;k_is)
    constructor;iterate 4 k_is
    iterate 4 (constructor;iterate 3 k_is)
    iterate 11 (apply K30.EQ;iterate 3 k_is)
    iterate 11 k_is
