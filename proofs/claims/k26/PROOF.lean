import PyProof.Rows.All
import Wide.All
import OpenK.AllK
import Wide.FinOn
import Lean
import PyProof.EqAt
import PyProof.EqKinds
import PyProof.TupleCall
import PySem.Challenge.RW_againbook_k26_what_was_written
set_option Elab.async false
set_option linter.all false
set_option maxRecDepth 100000
set_option genSizeOf false
theorem gQ:0≤PySem.sizeLine:=by decide
theorem iR:1≤PySem.sizeLine:=by decide
theorem bG:2≤PySem.sizeLine:=by decide
theorem dP:3≤PySem.sizeLine:=by decide
theorem nk:4≤PySem.sizeLine:=by decide
set_option Elab.async false
set_option linter.all false
set_option maxRecDepth 100000
set_option maxHeartbeats 4000000
open PySem.W (keepIn Frag nsIn kitOne fnOf mg_of codeIn findIn mroIn isFn mg_none_of kia_one typeIn emptyDict clsIn instObj hasDictIn kitAny specialIn callWith_K excIn lookIn plainGet notCls tailIn)
theorem Ib{p:Prop}(h:p:=by decide):p:=h
theorem Ic{p:Prop}(h:p:=by omega):p:=h
theorem Ie{p:Prop}(h:p:=by simp):p:=h
theorem Ig{p:Prop}(h:p:=by decide +kernel):p:=h
theorem Ih{p:Prop}(h:p:=by rfl):p:=h
theorem Z{α:Sort u}{a:α}:a=a:=rfl
def Dc:=@PySem.wpAny_bind
def De:=@PySem.wpAny_pure
def Dg:=@PySem.Heap.get?_push_of_some
def Dh:=@List.getElem?_eq_getElem
def Di:=@List.length_map
def Dj:=@List.length_append
def Dk:=@Nat.le_refl
def Dl:=@PySem.Heap.get?_push_size
def Dm:=@PySem.Heap.lt_size
def Dn:=@List.size_toArray
def Do:=@Bool.false_ne_true
def Dp:=@Nat.ne_of_lt
def Dq:=@Bool.false_eq_true
def Dr:=@Nat.lt_of_lt_of_le
def Ds:=@Nat.le_trans
def Dt:=@Nat.zero_le
def Du:=@PySem.Heap.get?_update_other
def Dv:=@List.mem_append_right
def Dw:=@PySem.F.plainAttrs_list
def Dx:=@List.mem_of_getElem?
def Dy:=@decide_eq_false
def DA:=@List.mem_cons_self
def DB:=@if_pos
def DC:=@if_neg
def DE:=@List.getElem?_map
def DF:=@Array.length_toList
def DG:=@List.length_take
def DH:=@PySem.wpAny_field
def DI:=@PySem.wpAny_holding
def DJ:=@List.map_append
def DK:=@List.mem_cons_of_mem
def DM:=@PySem.F.type_list_append
def DN:=@PySem.F.slot_list_append
def DO:=@List.not_mem_nil
def DP:=@decide_eq_true
def DQ:=@Ne.symm
def DR:=@trivial
def DS:=@PySem.Obj.data_mapFields
def DT:=@Option.some.inj
def DU:=@List.length_cons
def DV:=@PySem.wpAny_callSpecial?_slot
def DW:=@PySem.Heap.get?_update_self
def DX:=@PySem.wpAny_newObj_type
def DY:=@List.take_length
def DZ:=@PySem.wpAny_call_entry
def D0:=@PySem.PassesOwn.never
def D1:=@Int.emod_lt_of_pos
def D2:=@PySem.builtinLookup_eq_fast
def D3:=@PyProof.Rows.callWith_type1
def D4:=@PySem.wpAny_setField
def D5:=@PySem.Heap.size_push
def D6:=@Nat.ne_of_gt
def D7:=@List.take_add_one
def D8:=@Int.toNat_natCast
def D9:=@PySem.wpAny_seqItems
def Ea:=@List.mem_of_mem_take
def Eb:=@Int.emod_nonneg
def Ec:=@PySem.Around.under_plainId
def Ed:=@PySem.wpAny_Call_Name_kw
def Ee:=@Nat.lt_irrefl
def Ef:=@List.lookup_cons
def Eg:=@PySem.F.slot_tuple_iterator_next
def Eh:=@PySem.wpAny_mono
def Ei:=@PySem.Obj.isFreed_of_fields
def Ej:=@Bool.and_eq_true
def Ek:=@if_false
def El:=@congrArg
def Em:=@of_decide_eq_true
def En:=@PySem.F.slot_zip_next
def Eo:=@Nat.lt_succ_self
def Ep:=@List.mem_append_left
def Er:=@PySem.typeLookup_type
def Es:=@PySem.codeAny_builtin
def Et:=@List.map_cons
def Eu:=@PySem.boot_len
def Ew:=@PySem.mem_of_lookup
def Ex:=@List.getElem?_eq_none
def Ey:=@Nat.succ_le_succ
def Ez:=@Nat.lt_of_le_of_lt
def EA:=@Nat.le_succ
def EB:=@PyProof.Rows.boot_tuple
def EC:=@List.forIn_cons
def ED:=@PySem.AutoSeq1.wpAny_loadPart'
def EE:=@PySem.isSubtype_type
def EF:=@List.take_of_length_le
def EG:=@PySem.wpAny_setState_of
def EH:=@PySem.wpAny_specialOf
def EJ:=@List.length_drop
def EK:=@List.getElem_mem
def EL:=@PySem.W.mg_none_of
def EM:=@List.getElem?_append_right
def EN:=@PySem.Heap.SameBut.update
def EO:=@Array.getElem?_toList
def EQ:=@PySem.wpAny_typeOf
def ER:=@List.getElem?_append_left
def ES:=@Array.getElem?_eq_getElem
def ET:=@List.find?_cons
def EU:=@PySem.wpAny_rule
def EV:=@bne_self_eq_false
def EW:=@List.take_sublist
def EX:=@List.getElem?_set_ne
def EY:=@PySem.Calls.spliced_cons
def EZ:=@List.mem_cons
def Fb:=@PyProof.Rows.slot_tuple_getitem
def Fc:=@PySem.wpAny_truthy_bool
def Fd:=@PySem.plainId_quiet
def Fe:=@List.map_map
def Ff:=@PySem.wpAny_isInstance
def Fg:=@List.length_singleton
def Fh:=@Nat.lt_succ_of_lt
def Fi:=@Nat.lt_of_succ_lt
def Fj:=@PySem.wpAny_setField_rec
def Fk:=@PySem.wpAny_passesOwn
def Fm:=@List.take_succ
def Fn:=@List.getD_eq_getElem?_getD
def Fo:=@List.forIn_nil
def Fp:=@PySem.wpAny_standAt
def Fq:=@Nat.le_of_lt
def Fs:=@Nat.le_add_right
def Ft:=@PySem.Calls.spliced_nil
def Fu:=@PyProof.Rows.F.plain_set_update_loop
def Fv:=@PySem.F.type_list_extend
def Fx:=@PySem.F.slot_list_extend
def Fy:=@Bool.not_true
def Fz:=@Nat.min_eq_left
def FD:=@List.mem_append
def FE:=@PySem.wpAny_askSetting
def FF:=@PySem.codeAny_mono
def FG:=@PySem.F.args_tuple_iterator_next_1
def FH:=@PySem.F.plain_list_iadd
def FJ:=@PySem.F.args_zip_next_1
def FK:=@PySem.wpAny_setEntries_of
def FL:=@PySem.F.entry_tuple_iterator_next
def FM:=@PySem.wpAny_attempt
def FN:=@if_true
def FP:=@PySem.F.entry_zip_next
def FQ:=@List.getElem?_set_self
def FS:=@PySem.wpAny_execs_nil
def FT:=@PySem.wpAny_pyIter_tuple
def FV:=@List.getElem?_reverse
def FX:=@PySem.wpAny_pyIter_list
def FY:=@PySem.Obj.cls_mapFields
def F8:=@Nat.not_lt_zero
def F':=@or_false
def Ga:=@of_decide_eq_false
def Gc:=@PySem.F.args_object_init_2
def Gd:=@List.nodup_nil
def Ge:=@PySem.Value.isStrOf_shape
def Gf:=@List.reverse_cons
def Gg:=@PySem.F.args_tuple_add_2
def Gh:=@List.map_take
def Gi:=@List.append_cancel_right
def Gj:=@List.any_cons
def Gk:=@PySem.tupleKind_room_in1
def Gm:=@PySem.W.kia_one
def Gn:=@PySem.F.entry_tuple_add
def Go:=@PySem.F.slot_tuple_add
def Gp:=@PySem.F.plainAttrs_str
def Gr:=@Nat.sub_self
def Gs:=@Nat.lt_or_ge
def Gu:=@Array.getElem?_eq_none
def Gv:=@PySem.wpAny_of_eq
def Gw:=@PySem.fits_of_scanBound
def Gx:=@List.of_mem_zip
def Gy:=@List.nodup_cons
def Gz:=@List.length_set
def GF:=@List.append_nil
def GG:=@Bool.eq_iff_iff
def GH:=@PySem.wpAny_comprehension_free
def GJ:=@PySem.W.methodCall_KW
def GK:=@PySem.F.type_str_join
def GL:=@PySem.F.slot_str_join
def GN:=@PySem.F.slot_dict_get
def GP:=@List.take_append_drop
def GQ:=@List.length_replicate
def GS:=@List.length_filter_le
def GU:=@PySem.entryFor_of_tree
def GV:=@PySem.W.plainGet_of
def GX:=@PyProof.Rows.F.entry_set_update_loop
def GY:=@List.filterMap_cons
def GZ:=@PySem.Calls.callWith_builtin
def G8:=@PySem.wpAny_updateSeq
def Hc:=@PySem.codeAny_handlers_test
def Hd:=@PySem.W.KFB.if_not
def He:=@List.mem_singleton
def Hf:=@PySem.wpAny_loadPart
def Hg:=@PySem.wpAny_fieldsOf
def Hh:=@PySem.sizeLine_eq
def Hi:=@PySem.isSubtype_stop
def Hj:=@PySem.entryFor_alias
def Hk:=@Nat.sub_zero
def Hl:=@Nat.le_of_eq
def Hm:=@List.length_range
def Hn:=@List.append_assoc
def Ho:=@Array.size_append
def Hq:=@List.eraseIdx_eq_take_drop_succ
def Hr:=@PySem.wpAny_handleBy_cons
def Hs:=@PySem.W.looks_mroIn
def Ht:=@beq_self_eq_true
def Hu:=@Option.getD_none
def Hv:=@Nat.le_max_right
def Hw:=@List.all_eq_true
def Hy:=@PySem.call_meets
def Hz:=@Nat.min_le_left
def HA:=@Nat.le_max_left
def HC:=@List.length_zip
def HD:=@List.length_nil
def HE:=@PySem.F.plain_proto_collect
def HF:=@PySem.F.entry_proto_collect
def HG:=@Iff.rfl
def HI:=@PySem.wpAny_sequenceKey
def HJ:=@PySem.wpAny_pyIter_slot
def HK:=@PySem.W.callWith_K
def HL:=@List.length_eraseIdx_of_lt
def HM:=@Bool.and_false
def HN:=@PySem.F.plain_extend_loop
def HP:=@List.getElem?_zip_eq_some
def HQ:=@PySem.wpAny_execs_cons
def HR:=@PySem.noFill_tuple_add
def HS:=@List.all_cons
def HU:=@Bool.or_false
def HV:=@PySem.F.plain_tuple_new
def HW:=@PySem.F.entry_list_iadd
def HX:=@PySem.F.args_dict_get_3
def HY:=@List.getElem?_replicate
def HZ:=@List.append_cancel_left
def Ia:=@Int.eq_ofNat_of_zero_le
local macro_rules|`(#[$x,*])=>`(⟨$x,*⟩)
namespace L2
open PySem PySem.Spec PyProof.Rows
abbrev aY:=Sum Int Str
noncomputable def fh:aY->Value->Bool
 | .inl k,v=>Value.isInt k v
 | .inr x,v=>Value.isStrOf x v
noncomputable def BR(w:World):aY->Int
 | .inl k=>hashInt k
 | .inr x=>hashStr w x
theorem jM:∀{k:aY} {v:Value},fh k v=true->(∃i t,k=Sum.inl i/\v=Value.int i t)∨(∃x t,k=Sum.inr x/\v=Value.str x t)
 | .inl i,v,h=>by
  obtain⟨t,e⟩:=Value.isInt_shape (k:=i) (v:=v) h
  exact .inl #[i,t,Z,e]
 | .inr x,v,h=>by
  obtain⟨t,e⟩:=Ge (x:=x) (v:=v) h
  exact .inr #[x,t,Z,e]
theorem YA(i:Int)(t:Tok):fh (.inl i) (.int i t)=true:=by simp [fh,Value.isInt]
theorem YB(x:Str)(t:Tok):fh (.inr x) (.str x t)=true:=by simp [fh,Value.isStrOf]
theorem wG(a b:Int):decide ((Sum.inl a:aY)=Sum.inl b)=(a==b):=by
 by_cases e:a=b
 ·subst e;simp
 ·have h:¬(Sum.inl a:aY)=Sum.inl b:=λq=>e (Sum.inl.inj q)
  rw[Dy h]
  exact(beq_eq_false_iff_ne.mpr e).symm
theorem xz(a b:Str):decide ((Sum.inr a:aY)=Sum.inr b)=decide (a=b):=by
 by_cases e:a=b
 ·subst e;simp
 ·have h:¬(Sum.inr a:aY)=Sum.inr b:=λq=>e (Sum.inr.inj q)
  rw[Dy h,Dy e]
theorem wm(a:Int)(b:Str):decide ((Sum.inl a:aY)=Sum.inr b)=false:=Dy (λq=>nomatch q)
theorem yw(a:Str)(b:Int):decide ((Sum.inr a:aY)=Sum.inl b)=false:=Dy (λq=>nomatch q)
noncomputable def aN(p:Program)(w:World):PySem.KeyKind p w aY where
 is:=fh
 hash:=BR w
 inj:=λv a b d c=>by
  rcases jM d with ⟨i,t,rfl,rfl⟩ | ⟨x,t,rfl,rfl⟩
  ·rcases jM c with ⟨j,u,rfl,e⟩ | ⟨y,u,rfl,e⟩
   ·injection e with E _;rw[E]
   ·exact nomatch e
  ·rcases jM c with ⟨j,u,rfl,e⟩ | ⟨y,u,rfl,e⟩
   ·exact nomatch e
   ·injection e with E _;rw[E]
 byValue:=λk v h=>by
  rcases jM h with ⟨i,t,rfl,rfl⟩ | ⟨x,t,rfl,rfl⟩<;>rfl
 pyHash:=λH h=>by
  rcases jM H with ⟨i,t,rfl,rfl⟩ | ⟨x,t,rfl,rfl⟩
  ·exact wpAny_pyHash_int h
  ·exact wpAny_pyHash_str h
 eqBool:=λf H h=>by
  rcases jM f with ⟨i,t,rfl,rfl⟩ | ⟨x,t,rfl,rfl⟩
  ·rcases jM H with ⟨j,u,rfl,rfl⟩ | ⟨y,u,rfl,rfl⟩
   ·rw[wG]at h;exact wpAny_eqBool_int h
   ·rw[wm]at h;exact SeqAt.EqAt.int_str i t y u _ _ _ _ h
  ·rcases jM H with ⟨j,u,rfl,rfl⟩ | ⟨y,u,rfl,rfl⟩
   ·rw[yw]at h;exact SeqAt.EqAt.str_int x t j u _ _ _ _ h
   ·rw[xz]at h;exact wpAny_eqBool_str h
 «strs»:=λk x t v h=>by
  rcases jM h with ⟨i,u,rfl,e⟩ | ⟨y,u,rfl,e⟩
  ·exact nomatch e
  ·injection e with E _
   subst E
   cases v<;>rfl
theorem Q5(p:Program)(w:World)(i:Int)(t:Tok):(aN p w).is (.inl i) (.int i t)=true:=YA i t
theorem Q6(p:Program)(w:World)(x:Str)(t:Tok):(aN p w).is (.inr x) (.str x t)=true:=YB x t
end L2
namespace L2
open PySem PySem.Spec PyProof.Rows
inductive V where
 |non |bl (b:Bool) |int (i:Int) |str (x:Str) |byt (b:Array UInt8) |flt (b:UInt64) |ref (a:Addr) |ty (n:String)
 deriving DecidableEq
set_option genInjectivity false
def ay:V->Value->Prop
 | .non,u=>u=Value.none
 | .bl b,u=>u=Value.bool b
 | .int i,u=>∃t,u=Value.int i t
 | .str x,u=>∃t,u=Value.str x t
 | .byt b,u=>∃t,u=Value.bytes b t
 | .flt b,u=>∃t,u=Value.float b t
 | .ref a,u=>u=Value.ref a
 | .ty n,u=>u=Value.type n
abbrev au:List V->List Value->Prop:=Paired ay
theorem au.length(r:au x u):x.length=u.length:=Paired.length r
theorem au.get:∀{X:List V} {U:List Value} {i:Nat} {x:V},au X U->X[i]?=some x->∃u,U[i]?=some u/\ay x u
 |_,_,_,_,.nil,e=>by simp at e
 |_,_,0,_,.cons r _,e=>by simp at e;subst e;exact#[_,Z,r]
 |_,_,i+1,x,.cons _ t,e=>by
  obtain⟨u,h,H⟩:=au.get (i:=i) (x:=x) t (by simpa using e)
  exact#[u,by simpa using h,H]
theorem au.set(r:ay x u):∀{X:List V} {U:List Value} (i:Nat),au X U->au (X.set i x) (U.set i u)
 |_,_,_,.nil=>.nil
 |_,_,0,.cons _ t=>.cons r t
 |_,_,i+1,.cons q t=>.cons q (au.set r i t)
theorem au.append:∀{x y:List V} {u w:List Value},au x u->au y w->au (x++y) (u++w)
 |_,_,_,_,.nil,s=>s
 |_,_,_,_,.cons r t,s=>.cons r (au.append t s)
theorem au.take:∀{x:List V} {u:List Value} (n:Nat),au x u->au (x.take n) (u.take n)
 |_,_,0,_=>.nil
 |_,_,_+1,.nil=>.nil
 |_,_,n+1,.cons r t=>.cons r (au.take n t)
theorem au.drop:∀{x:List V} {u:List Value} (n:Nat),au x u->au (x.drop n) (u.drop n)
 |_,_,0,r=>r
 |_,_,_+1,.nil=>.nil
 |_,_,n+1,.cons _ t=>au.drop n t
def dB:Option V->Option Value->Prop
 |some v,some u=>ay v u
 |none,none=>True
 |_,_=>False
def KV{a:Type}:List (a×V)->List (a×Value)->Prop:=Paired λ(p:a×V) (q:a×Value)=>p.1=q.1/\ay p.2 q.2
noncomputable def kV:aY->V
 | .inl i=>.int i
 | .inr x=>.str x
inductive HO where
 |lst (xs:List V)
 |tup (xs:List V)
 |dK (kvs:List (aY×V)) |dT (kvs:List (List aY×V))
 |set (S:Int->Bool) (n:Nat)
 |ins (C dx:Addr) (fs:List (Str×V))
 |own (x:Addr)
 |xd (fs:List (Str×V))
 |met (f x:Addr)
 |rng (lo hi:Int)
 |frz (o:Obj) (u:HO)
 |tbl (ps:Array Value)
 |ext (φ:Heap->Prop)
abbrev Hp:=Addr->Option HO
noncomputable def af(H:Hp)(a:Addr)(o:HO):Hp:=λb=>if b=a then some o else H b
theorem jc:af H a o a=some o:=by unfold af;rw[DB Z]
theorem ji(h:b≠a):af H a o b=H b:=by unfold af;rw[DC h]
theorem rX:af (af H a o) a u=af H a u:=by
 funext b;unfold af;split<;>rfl
theorem jI{H:Hp}(h:H a=some o)(c:H b=some u)(d:o≠u):a≠b:=by
 intro e;subst e;rw[h]at c;exact d (DT c)
theorem jj{H:Hp}(h:H a=some o)(c:H b=none):a≠b:=by
 intro e;subst e;rw[h]at c;cases c
section
variable (P:Program)(w:World)
def aG(H:Hp)(h:Heap)(a:Addr):HO->Prop
 | .lst X=>X.length<=sizeLine/\∃(i:List Value) (n:Nat),au X i/\h.get? a=some { cls:=.type "list",data:=.seq i.toArray n }
 | .tup X=>X.length<=sizeLine/\∃i:List Value,au X i/\IsTup h a i.toArray
 | .dK k=>k.length<=sizeLine/\(a==sysModules)=false/\∃c,KV k c/\h.DictOf (aN P w) a c
 | .dT k=>k.length<=sizeLine/\(a==sysModules)=false/\∃X:List (List aY×Addr×Value),
   Paired (λ(p:List aY×V) (q:List aY×Addr×Value)=>p.1=q.1/\H q.2.1=some (.tup (p.1.map kV))/\ay p.2 q.2.2) k X/\
   ∃o e E,h.get? a=some o/\o.ExactDict/\o.data= .dict e E/\e.toList=X.map (entryOfKey (tupleKind (aN P w)))/\(X.map (·.1)).Nodup
 | .set S n=>h.SetOf (intKind P w) a S n
 | .ins C d F=>H d=some (.own a)/\F.length<=1000/\d≠a/\h.get? a=some (instObj C d)/\
   ∃m,h.Ns1 d m/\(∀f,dB (F.lookup f) (m f))/\PySem.Within m (F.map (·.1))
 | .own _=>∃o,h.get? a=some o
 | .xd F=>∃m,h.Ns1 a m/\∀f,dB (F.lookup f) (m f)
 | .rng lo l=>∃t u v,h.get? a=some { cls:=.type "range",data:=.fields (List.toArray [.int lo t,.int l u,.int 1 v]) }
 | .frz o u=>h.get? a=some o/\aG H h a u
 | .tbl r=>h.get? a=some { cls:=.none,data:=.fields r }
 | .met f x=>h.get? a=some (PySem.W.methodObj (.ref f) (.ref x))
 | .ext b=>b h/\(∃o,h.get? a=some o)/\∀g j:Heap,b g->(∀o,g.get? a=some o->j.get? a=some o)->b j
def dR(H:Hp)(h:Heap):Prop:=∀a o,H a=some o->aG P w H h a o
end
section
variable {P:Program}{w:World}{H H':Hp}{h h':Heap}{a:Addr}{o:HO}
theorem aG.lt(x:aG P w H h a o):a < h.objs.size:=by
 cases o with
 |lst X=>obtain⟨_,_,_,_,e⟩:=x;exact Dm e
 |tup X=>obtain⟨_,_,_,p⟩:=x;exact p.lt
 |dK k=>obtain⟨_,_,_,_,o,_,_,e,_⟩:=x;exact Dm e
 |dT k=>obtain⟨_,_,_,_,o,_,_,e,_⟩:=x;exact Dm e
 |set S n=>obtain⟨o,_,_,_,e,_⟩:=x;exact Dm e
 |ins C d F=>obtain⟨_,_,_,e,_⟩:=x;exact Dm e
 |own y=>obtain⟨_,e⟩:=x;exact Dm e
 |xd F=>obtain⟨_,⟨_,_,_,e,_⟩,_⟩:=x;exact Dm e
 |rng lo b=>obtain⟨_,_,_,e⟩:=x;exact Dm e
 |frz O u=>obtain⟨e,_⟩:=x;exact Dm e
 |tbl c=>exact Dm (show h.get? a=some _ from x)
 |met f y=>exact Dm (show h.get? a=some _ from x)
 |ext g=>obtain⟨_,⟨_,e⟩,_⟩:=x;exact Dm e
theorem Paired.mapP{c d:Type}{F G:c->d->Prop}:∀{l:List c} {L:List d},Paired F l L->(∀a b,F a b->G a b)->Paired G l L
 |_,_,.nil,_=>.nil
 |_,_,.cons r t,f=>.cons (f _ _ r) (Paired.mapP t f)
theorem aG.stay(x:aG P w H h a o)(k:∀b u,(b=a∨H b=some (.own a))->h.get? b=some u->h'.get? b=some u)
  (s:∀b,H b=some (.own a)->H' b=some (.own a)) (A:∀b X,H b=some (.tup X)->H' b=some (.tup X)):aG P w H' h' a o:=by
 induction o with
 |lst X=>obtain⟨z,i,n,r,e⟩:=x;exact#[z,i,n,r,k _ _ (.inl Z) e]
 |tup X=>obtain⟨z,i,r,O,e,c⟩:=x;exact#[z,i,r,O,k _ _ (.inl Z) e,c]
 |dK K=>obtain⟨z,y,V,r,O,E,g,e,c⟩:=x;exact#[z,y,V,r,O,E,g,k _ _ (.inl Z) e,c]
 |dT K=>
  obtain⟨z,y,X,r,O,E,g,e,c⟩:=x
  exact#[z,y,X,Paired.mapP r λp q z=>#[z.1,A _ _ z.2.1,z.2.2],O,E,g,k _ _ (.inl Z) e,c]
 |set S n=>obtain⟨O,E,g,t,e,c⟩:=x;exact#[O,E,g,t,k _ _ (.inl Z) e,c]
 |ins C D F=>
  obtain⟨d,z,N,e,m,⟨j,E,g,B,c⟩,r⟩:=x
  exact#[s _ d,z,N,k _ _ (.inl Z) e,m,#[j,E,g,k _ _ (.inr d) B,c],r]
 |own y=>obtain⟨O,e⟩:=x;exact#[O,k _ _ (.inl Z) e]
 |xd F=>obtain⟨m,⟨j,E,g,e,c⟩,r⟩:=x;exact#[m,#[j,E,g,k _ _ (.inl Z) e,c],r]
 |rng lo G=>obtain⟨t,u,v,e⟩:=x;exact#[t,u,v,k _ _ (.inl Z) e]
 |frz O u I=>obtain⟨e,q⟩:=x;exact#[k _ _ (.inl Z) e,I q]
 |tbl l=>
  have e:h.get? a=some { cls:=.none,data:=.fields l }:=x
  show h'.get? a=some { cls:=.none,data:=.fields l }
  exact k a _ (.inl Z) e
 |met f y=>
  have e:h.get? a=some (PySem.W.methodObj (.ref f) (.ref y)):=x
  show h'.get? a=some (PySem.W.methodObj (.ref f) (.ref y))
  exact k a _ (.inl Z) e
 |ext J=>obtain⟨p,⟨o,e⟩,st⟩:=x;exact#[st _ _ p λo q=>k _ _ (.inl Z) q,#[o,k _ _ (.inl Z) e],st]
theorem dR.lt(x:dR P w H h)(e:H a=some o):a < h.objs.size:=(x a o e).lt
theorem dR.fresh(x:dR P w H h)(e:h.objs.size<=a):H a=none:=by
 cases q:H a with
 |none=>rfl
 |some u=>exact absurd (Dr (x.lt q) e) (Ee _)
theorem dR.kept(x:dR P w H h)(k:∀b u,h.get? b=some u->h'.get? b=some u):dR P w H h':=λa o e=>
 (x a o e).stay (λb u _ q=>k b u q) (λ_ q=>q) λ_ _ q=>q
theorem dR.laid(x:dR P w H h)(k:∀b u,h.get? b=some u->h'.get? b=some u)(g:h.objs.size<=a)(n:aG P w (af H a o) h' a o):dR P w (af H a o) h':=λb u e=>by
 have d:=x.fresh g
 by_cases f:b=a
 ·subst f;rw[jc]at e;cases e;exact n
 ·rw[ji f]at e
  exact(x b u e).stay (λc v _ q=>k c v q) (λc q=>by rw[ji (jj q d)];exact q) λc X q=>by rw[ji (jj q d)];exact q
end
def Rd(H:Hp)(a:Addr)(u:HO):Prop:=H a=some u∨∃o,H a=some (.frz o u)
theorem Rd.ok{P:Program}(r:Rd H a u)(x:dR P w H h):aG P w H h a u:=by
 rcases r with r | ⟨o,r⟩
 ·exact x a u r
 ·obtain⟨_,q⟩:=x a _ r
  exact q
def A6:Option HO->Prop
 |some (.lst _)=>True
 |some (.dK _)=>True
 |some (.dT _)=>True
 |some (.set _ _)=>True
 |some (.ins _ _ _)=>True
 |some (.ext _)=>True
 |_=>False
section
variable {P:Program}{w:World}{H:Hp}{h h':Heap}{x e:Addr}{o':HO}
theorem dR.write(o:dR P w H h)(m:A6 (H x))(i:e=x∨H e=some (.own x))(k:∀b u,b≠e->h.get? b=some u->h'.get? b=some u)(f:∃u,h'.get? e=some u)
  (g:aG P w (af H x o') h' x o'):dR P w (af H x o') h':=λb u q=>by
 have n:∀c y,H c=some (.own y)->c≠x:=λc y r z=>by subst z;rw[r]at m;exact m
 have N:∀c X,H c=some (.tup X)->c≠x:=λc X r z=>by subst z;rw[r]at m;exact m
 by_cases d:b=x
 ·subst d;rw[jc]at q;cases q;exact g
 ·rw[ji d]at q
  by_cases a:b=e
  ·have Q:H b=some (.own x):=by
    rcases i with z |z
    ·exact absurd (a.trans z) d
    ·rw[a];exact z
   rw[q]at Q;cases Q
   obtain⟨v,j⟩:=f
   exact#[v,by rw[a];exact j]
  ·refine(o b u q).stay (λc v hc r=>k c v ?_ r) (λc r=>by rw[ji (n c b r)];exact r) λc X r=>by rw[ji (N c X r)];exact r
   rcases hc with rfl |hc
   ·exact a
   ·rintro rfl
    rcases i with z |z
    ·exact n c b hc z
    ·rw[hc]at z;cases z;exact d Z
end
structure Un(fs ex:List Addr)(H H':Hp)(h h':Heap):Prop where
 keep:∀b o,h.get? b=some o->H b=none->b∉fs->b∉ex->h'.get? b=some o
 slot:∀b o,h.get? b=some o->H b=none->b∈fs->b∉ex->∃sl,h'.get? b=some { o with slots:=sl }
 free:∀b o,h.get? b=some o->H b=none->b∉ex->H' b=none
 there:∀b o,h.get? b=some o->b∉ex->∃o',h'.get? b=some o'
 tups:∀b xs,H b=some (.tup xs)->H' b=some (.tup xs)
 frzs:∀b o u,H b=some (.frz o u)->H' b=some (.frz o u)
 tbls:∀b ps,H b=some (.tbl ps)->∃more,H' b=some (.tbl (ps++more))
section
variable {fs fs' ex ex':List Addr}{H H1 H2:Hp}{h h1 h2 h':Heap}{a x e:Addr}{o:HO}
theorem Un.any(u:Un fs ex H H1 h h1)(q:h.get? b=some O)(n:H b=none)(c:b∉ex):∃s,h1.get? b=some { O with slots:=s }:=by
 by_cases d:b∈fs
 ·exact u.slot b O q n d c
 ·exact#[O.slots,u.keep b O q n d c]
theorem Un.kept(k:∀b u,h.get? b=some u->h'.get? b=some u):Un fs ex H H h h':=
 #[λb O q _ _ _=>k b O q,λb O q _ _ _=>#[O.slots,k b O q],λ_ _ _ n _=>n,λb O q _=>#[O,k b O q],λ_ _ q=>q,λ_ _ _ q=>q,λ_ p q=>#[(List.toArray []),by rw[q];simp]]
theorem Un.refl:Un fs ex H H h h:=Un.kept λ_ _ q=>q
theorem Un.laid(k:∀b u,h.get? b=some u->h'.get? b=some u)(d:h.objs.size<=a)(c:H a=none):Un fs ex H (af H a o) h h' where
 keep:=λb u q _ _ _=>k b u q
 slot:=λb u q _ _ _=>#[u.slots,k b u q]
 free:=λb u q n _=>by rw[ji (Dp (Dr (Dm q) d))];exact n
 there:=λb u q _=>#[u,k b u q]
 tups:=λb X q=>by rw[ji (jj q c)];exact q
 frzs:=λb u X q=>by rw[ji (jj q c)];exact q
 tbls:=λb p q=>#[(List.toArray []),by rw[ji (jj q c),q];simp]
theorem Un.write(m:A6 (H x))(j:e=x∨H e=some (.own x))(k:∀b u,b≠e->h.get? b=some u->h'.get? b=some u)(d:∃u,h'.get? e=some u):Un fs ex H (af H x o) h h':=by
 have g:∀b,H b=none->b≠x:=λb n z=>by subst z;rw[n]at m;exact m
 have i:∀b,H b=none->b≠e:=λb n z=>by
  subst z
  rcases j with r |r
  ·exact g b n r
  ·rw[n]at r;cases r
 have f:∀b u,H b=some u->¬A6 (some u)->b≠x:=λb u q N z=>by subst z;rw[q]at m;exact N m
 refine#[λb u q n _ _=>k b u (i b n) q,λb u q n _ _=>#[u.slots,k b u (i b n) q],λb u q n _=>by rw[ji (g b n)];exact n,λb u q _=>?_,
  λb X q=>by rw[ji (f b _ q λz=>z)];exact q,λb u X q=>by rw[ji (f b _ q λz=>z)];exact q,λb p q=>#[(List.toArray []),by rw[ji (f b _ q λz=>z),q];simp]]
 by_cases c:b=e
 ·subst c;exact d
 ·exact#[u,k b u c q]
end
noncomputable def Bg(h:Heap)(H:Hp):List Addr:=(List.range h.objs.size).filter λa=>(H a).isSome
noncomputable def iM(h:Heap)(H:Hp):Heap:=PySem.W.hideAll h (Bg h H)
theorem YC(h:Heap)(H:Hp):(iM h H).objs.size=h.objs.size:=PySem.W.hideAll_size _ _
theorem Z1{h:Heap}{H:Hp}(e:h.get? b=some o)(n:H b=none):(iM h H).get? b=some o:=
 PySem.W.hideAll_get _ e λa=>by
  have q:(H b).isSome=true:=(List.mem_filter.mp a).2
  rw[n]at q;simp at q
theorem rV(e:(iM h H).get? b=some o):h.get? b=some o/\H b=none:=by
 have E:h.get? b=some o:=PySem.W.of_hideAll (Bg h H) e
 refine#[E,?_]
 cases q:H b with
 |none=>rfl
 |some x=>
  have a:b∈Bg h H:=List.mem_filter.mpr #[List.mem_range.mpr (Dm E),by simp [q]]
  have z:(iM h H).get? b=none:=PySem.W.hideAll_none (Bg h H) a
  rw[z]at e;cases e
end L2
namespace L2
open PySem PySem.Spec PyProof.Rows
structure Mod(K:Frag)(mg:Str->Option Value)(base:Heap):Prop where
 kin:K.In base
 glob:base.Ns mainGlobals mg
 blt:∃mb,base.Ns builtinsNs mb/\∀x:Str,x≠"__name__"->mb x=bootBuiltins x
 nolimit:base.NoLimit
structure Cx where
 prog:Program
 w:World
 K:Frag
 mg:Str->Option Value
 base:Heap
 A:Around
 N:List Str
 s₀:Shared
 H₀:Hp
 env:Env
 outer:List Env
 stack:List Env
 ex:List Addr
 fn:Str->Bool
 calm:Bool
 pn:List (Addr×Obj)
 xe:Value->Shared->Prop
noncomputable def gX(l:List Env):List Addr:=l.filterMap (·.frame)
noncomputable abbrev Cx.fs(X:Cx):List Addr:=gX X.outer
def Bc(s:Scope)(x:Str):Prop:=s.names.lookup x=some .local∨s.names.lookup x=some .cell∨s.names.lookup x=some .free
def px(s:Scope)(x:Str):Prop:=s.names.lookup x=some .local∨s.names.lookup x=some .cell
def BF(e:Env)(h:Heap)(m:Str->Option Value)(x:Str)(u:Value):Prop:=
 (e.kindOf x=some .local/\m x=some u)∨((e.kindOf x=some .cell∨e.kindOf x=some .free)/\∃c,e.cells.lookup x=some c/\h.IsCell c (some u))
structure Cx.Ok(X:Cx):Prop where
 mod:Mod X.K X.mg X.base
 kind:X.env.scope.kind= .function
 glob:X.env.globals=mainGlobals
 blt:X.env.builtins=builtinsNs
 above:X.s₀.heap.objs.size<=X.env.locals
 inj:∀x y c,X.env.cells.lookup x=some c->X.env.cells.lookup y=some c->x=y
 has:∀x,(X.env.kindOf x=some .cell∨X.env.kindOf x=some .free)->∃c,X.env.cells.lookup x=some c
 cab:∀x c,X.fn x=true->X.env.cells.lookup x=some c->X.s₀.heap.objs.size<=c
 hd:X.calm=true->X.A.handled=none
 frames:X.A.frames=some X.stack
 stk:X.stack=X.outer∨(X.stack=X.env::X.outer/\X.env.frame=some X.env.locals)
 exf:∀b∈X.ex,b≠X.env.locals/\∀x c,X.env.cells.lookup x=some c->c≠b
 bs:∀b o,X.base.get? b=some o->X.s₀.heap.get? b=some o/\X.H₀ b=none
 bsz:X.base.objs.size<=X.s₀.heap.objs.size
 noex:∀b o,X.base.get? b=some o->b∉X.ex
 exfs:∀b∈X.ex,b∉X.fs
 funs:X.s₀.heap.FunFrames X.base X.outer
 frf:∀b∈X.fs,X.H₀ b=none
structure ap(X:Cx)(pins:List (Addr×Obj))(σ:List (Option V))(H:Hp)(s:Shared):Prop where
 ok:X.Ok
 os:s.os=X.s₀.os
 bare:AllBare s.gens
 base:Un X.fs X.ex X.H₀ H X.s₀.heap s.heap
 loc:∃m,s.heap.Ns X.env.locals m/\∀(i:Nat) (x:Str) (v:V),X.N[i]?=some x->σ[i]?=some (some v)->Bc X.env.scope x->∃u,ay v u/\BF X.env s.heap m x u
 cell:∀x c,X.env.cells.lookup x=some c->∃v,s.heap.IsCell c v
 free:H X.env.locals=none
 freeC:∀x c,X.env.cells.lookup x=some c->H c=none
 pin:∀p∈X.pn++pins,s.heap.get? p.1=some p.2/\H p.1=none/\p.1≠X.env.locals/\p.1∉X.fs/\∀v,p.2.data≠ .cell v
 hok:dR X.prog X.w H s.heap
 len:σ.length=X.N.length
section
variable {X:Cx}{pins:List (Addr×Obj)}{σ:List (Option V)}{H H':Hp}{s:Shared}{h':Heap}
theorem Cx.Ok.nofr(O:X.Ok)(e:X.base.get? b=some o):b∉X.fs:=λh=>by
 have:=(O.funs.mem h).1
 rw[e]at this;cases this
theorem ap.bs(I:ap X pins σ H s):∀b o,X.base.get? b=some o->s.heap.get? b=some o/\H b=none:=λb o e=>
 #[I.base.keep b o (I.ok.bs b o e).1 (I.ok.bs b o e).2 (I.ok.nofr e) (I.ok.noex b o e),I.base.free b o (I.ok.bs b o e).1 (I.ok.bs b o e).2 (I.ok.noex b o e)]
theorem ap.bk(I:ap X pins σ H s):∀b o,X.base.get? b=some o->s.heap.get? b=some o:=λb o e=>(I.bs b o e).1
theorem ap.mod(I:ap X pins σ H s):Mod X.K X.mg X.base:=I.ok.mod
theorem ap.kIn(I:ap X pins σ H s):X.K.In s.heap:=I.ok.mod.kin.keeps I.bk
theorem ap.lt(I:ap X pins σ H s):X.env.locals < s.heap.objs.size:=let #[_,h,_]:=I.loc;h.lt
theorem ap.sz(I:ap X pins σ H s):X.s₀.heap.objs.size<=s.heap.objs.size:=Ds I.ok.above (Fq I.lt)
theorem ap.nofs(I:ap X pins σ H s)(h:s.heap.objs.size<=a):a∉X.fs:=λb=>by
 obtain⟨_,o,c,_⟩:=I.ok.funs.mem b
 exact absurd (Dr (Dm c) (Ds I.sz h)) (Ee _)
theorem ap.cne(I:ap X pins σ H s):∀x c,X.env.cells.lookup x=some c->c≠X.env.locals:=λx c e z=>by
 obtain⟨v,o,b,d⟩:=I.cell x c e
 obtain⟨m,⟨O,E,f,h,a,_⟩,_⟩:=I.loc
 rw[z,h]at b;cases b;rw[a]at d;cases d
theorem ap.funs(I:ap X pins σ H s):s.heap.FunFrames X.base X.outer:=by
 have all:∀(l:List Env),(∀b∈gX l,b∈X.fs)->X.s₀.heap.FunFrames X.base l->s.heap.FunFrames X.base l:=by
  intro l
  induction l with
  |nil=>intro _ _;trivial
  |cons E r i=>
   intro d f
   obtain⟨g,⟨L,o,h,j,k,m⟩,n⟩:=f
   have a:L∈X.fs:=d L (by unfold gX;rw[List.filterMap_cons,h];exact List.mem_cons_self)
   obtain⟨S,e⟩:=I.base.slot L o k (I.ok.frf L a) a λz=>I.ok.exfs L z a
   exact#[g,#[L,_,h,j,e,m],i (λb c=>d b (by unfold gX;rw[List.filterMap_cons,h];exact List.mem_cons_of_mem _ c)) n]
 exact all X.outer (λ_ c=>c) I.ok.funs
theorem ap.stack(I:ap X pins σ H s):s.heap.FunFrames X.base X.stack:=by
 rcases I.ok.stk with e | ⟨e,h⟩
 ·rw[e];exact I.funs
 ·rw[e]
  obtain⟨m,a,_⟩:=I.loc
  refine .cons (by rw[I.ok.kind];decide) h a ?_ I.funs
  exact Heap.get?_none_of_le (Ds I.ok.bsz I.ok.above)
theorem ap.stkSub(I:ap X pins σ H s):∀b∈gX X.stack,b∈X.env.locals::X.fs:=λb h=>by
 rcases I.ok.stk with e | ⟨e,a⟩
 ·rw[e]at h;exact DK _ h
 ·rw[e]at h
  unfold gX at h
  rw[GY,a]at h
  exact h
theorem ap.stkFree(I:ap X pins σ H s):∀b∈gX X.stack,H b=none:=λb hb=>by
 rcases List.mem_cons.mp (I.stkSub b hb) with e |hb
 ·rw[e];exact I.free
 ·obtain⟨_,o,h,_⟩:=I.ok.funs.mem hb
  exact I.base.free b o h (I.ok.frf b hb) λz=>I.ok.exfs b z hb
theorem ap.step{g':Array GenState}{d':Drawn}{ch:List Addr}(I:ap X pins σ H s)
  (a:∀b∈ch,(b∈X.ex∨X.s₀.heap.objs.size<=b)/\b≠X.env.locals/\(∀x c,X.env.cells.lookup x=some c->c≠b)/\∀p∈X.pn++pins,p.1≠b)
  (K:∀b o,b≠X.env.locals->b∉X.fs->b∉ch->s.heap.get? b=some o->H b=none->h'.get? b=some o)
  (S:∀b o,b≠X.env.locals->b∈X.fs->b∉ch->s.heap.get? b=some o->H b=none->∃J,h'.get? b=some { o with slots:=J }) (f:∀b o,b∉ch->s.heap.get? b=some o->H b=none->H' b=none)
  (t:∀b o,b∉ch->s.heap.get? b=some o->∃O,h'.get? b=some O)
  (T:∀b j,H b=some (.tup j)->H' b=some (.tup j)) (F:∀b o u,H b=some (.frz o u)->H' b=some (.frz o u)) (B:∀b P,H b=some (.tbl P)->∃M,H' b=some (.tbl (P++M)))
  (ns:∀m,s.heap.Ns X.env.locals m->h'.Ns X.env.locals m) (L:dR X.prog X.w H' h') (hg:AllBare g'):
  ap X pins σ H' { s with heap:=h',gens:=g',drawn:=d',toks:=t' }:=by
 have D:∀b o,X.s₀.heap.get? b=some o->b≠X.env.locals:=λb o e=>Dp (Dr (Dm e) I.ok.above)
 have g:∀b o,X.s₀.heap.get? b=some o->b∉X.ex->b∉ch:=λb o e h y=>by
  rcases(a b y).1 with z |z
  ·exact h z
  ·exact absurd (Dr (Dm e) z) (Ee _)
 have C:∀x c,X.env.cells.lookup x=some c->∀v,s.heap.IsCell c v->h'.IsCell c v:=λx c e v #[o,A,Q]=>by
  have N:c∉ch:=λz=>(a c z).2.2.1 x c e Z
  by_cases U:c∈X.fs
  ·obtain⟨J,q⟩:=S c o (I.cne x c e) U N A (I.freeC x c e)
   exact#[_,q,Q]
  ·exact#[o,K c o (I.cne x c e) U N A (I.freeC x c e),Q]
 refine#[I.ok,I.os,hg,#[λb o e n y h=>?_,λb o e n y h=>?_,λb o e n h=>?_,λb o e h=>?_,λb j e=>T b j (I.base.tups b j e),λb o j e=>F b o j (I.base.frzs b o j e),λb P e=>?_],?_,λx c e=>?_,?_,λx c e=>?_,λp W=>?_,L,I.len]
 ·exact K b o (D b o e) y (g b o e h) (I.base.keep b o e n y h) (I.base.free b o e n h)
 ·obtain⟨J,E⟩:=I.base.slot b o e n y h
  obtain⟨R,G⟩:=S b _ (D b o e) y (g b o e h) E (I.base.free b o e n h)
  exact#[R,G]
 ·obtain⟨O,E⟩:=I.base.there b o e h
  exact f b O (g b o e h) E (I.base.free b o e n h)
 ·obtain⟨O,E⟩:=I.base.there b o e h
  exact t b O (g b o e h) E
 ·obtain⟨m1,E⟩:=I.base.tbls b P e
  obtain⟨m2,G⟩:=B b _ E
  exact#[m1++m2,by rw[G,Array.append_assoc]]
 ·obtain⟨m,hn,hl⟩:=I.loc
  refine#[m,ns m hn,λi x v E G e3=>?_]
  obtain⟨u,r,l⟩:=hl i x v E G e3
  refine#[u,r,?_]
  rcases l with l | ⟨k,c,e,z⟩
  ·exact .inl l
  ·exact .inr #[k,c,e,C x c e _ z]
 ·obtain⟨v,z⟩:=I.cell x c e
  exact#[v,C x c e v z]
 ·obtain⟨m,⟨o,_,_,A,_⟩,_⟩:=I.loc
  exact f _ o (λz=>(a _ z).2.1 Z) A I.free
 ·obtain⟨v,o,A,Q⟩:=I.cell x c e
  exact f c o (λz=>(a c z).2.2.1 x c e Z) A (I.freeC x c e)
 ·obtain⟨e,n,Y,nf,d⟩:=I.pin p W
  have N:p.1∉ch:=λz=>(a p.1 z).2.2.2 p W Z
  exact#[K p.1 p.2 Y nf N e n,f p.1 p.2 N e n,Y,nf,d]
theorem ap.un{t':Nat}(I:ap X pins σ H s)(u:Un X.fs [] H H' s.heap h')(a:dR X.prog X.w H' h'):ap X pins σ H' { s with heap:=h',toks:=t' }:=by
 obtain⟨m,⟨o,j,k,f,r⟩,_⟩:=id I.loc
 obtain⟨S,g⟩:=u.any f I.free Ie
 exact I.step (g':=s.gens) (d':=s.drawn) (ch:=[]) (λ_ z=>nomatch z) (λb o _ c _ e n=>u.keep b o e n c Ie) (λb o _ c _ e n=>u.slot b o e n c Ie) (λb o _ e n=>u.free b o e n Ie) (λb o _ e=>u.there b o e Ie) u.tups u.frzs u.tbls (λM i=>by
  obtain⟨O,E,d,h,R⟩:=i
  rw[f]at h;cases h
  exact#[_,E,d,g,R]) a I.bare
theorem ap.call{g':Array GenState}{t':Nat}{d':Drawn}{ch:List Addr}(I:ap X pins σ H s)(u:Un (gX X.stack) ch H H' s.heap h')(f:dR X.prog X.w H' h')(k:AllBare g')
  (a:∀b∈ch,(b∈X.ex∨X.s₀.heap.objs.size<=b)/\b≠X.env.locals/\(∀x c,X.env.cells.lookup x=some c->c≠b)/\∀p∈X.pn++pins,p.1≠b):
  ap X pins σ H' { s with heap:=h',gens:=g',drawn:=d',toks:=t' }:=by
 obtain⟨m,⟨o,t,v,j,r⟩,_⟩:=id I.loc
 obtain⟨S,g⟩:=u.any j I.free λz=>(a _ z).2.1 Z
 exact I.step (ch:=ch) a (λb o g l h e n=>u.keep b o e n (λz=>(List.mem_cons.mp (I.stkSub b z)).elim g l) h) (λb o _ _ h e n=>u.any e n h) (λb o h e n=>u.free b o e n h) (λb o h e=>u.there b o e h) u.tups u.frzs u.tbls (λM q=>by
  obtain⟨O,E,i,d,R⟩:=q
  rw[j]at d;cases d
  exact#[_,E,i,g,R]) f k
theorem ap.turned{t':Nat}{it:Addr}(I:ap X pins σ H s)(k:∀b o,b≠it->s.heap.get? b=some o->h'.get? b=some o)(d:H it=none)(a:it≠X.env.locals)
  (f:it∈X.ex∨X.s₀.heap.objs.size<=it) (g:∀x c,X.env.cells.lookup x=some c->c≠it) (i:∀p∈X.pn++pins,p.1≠it):ap X pins σ H { s with heap:=h',toks:=t' }:=by
 have N:∀b u,H b=some u->b≠it:=λb u e z=>by rw[z,d]at e;cases e
 refine I.step (g':=s.gens) (d':=s.drawn) (ch:=[it]) (λb j=>?_) (λb o _ _ h e _=>k b o (λz=>h (by simp [z])) e) (λb o _ _ h e _=>#[o.slots,k b o (λz=>h (by simp [z])) e]) (λ_ _ _ _ n=>n)
  (λb o h e=>#[o,k b o (λz=>h (by simp [z])) e]) (λ_ _ e=>e) (λ_ _ _ e=>e) (λb P e=>#[(List.toArray []),by rw[e];simp]) (λm l=>?_) (λb u e=>?_) I.bare
 ·have e:b=it:=by simpa using j
  subst e
  exact#[f,a,g,i]
 ·obtain⟨o,E,t,w,r⟩:=l
  exact#[o,E,t,k _ o (DQ a) w,r]
 ·refine(I.hok b u e).stay (λc v h q=>k c v ?_ q) (λ_ q=>q) λ_ _ q=>q
  rcases h with z |z
  ·rw[z];exact N b u e
  ·exact N c _ z
theorem ap.tok(I:ap X pins σ H s)(t:Nat):ap X pins σ H { s with toks:=t }:=I.un (h':=s.heap) (t':=t) Un.refl I.hok
theorem ap.kept{t':Nat}(I:ap X pins σ H s)(k:∀b u,s.heap.get? b=some u->h'.get? b=some u):ap X pins σ H { s with heap:=h',toks:=t' }:=I.un (Un.kept k) (I.hok.kept k)
theorem ap.laid{a:Addr}{o:HO}{t':Nat}(I:ap X pins σ H s)(k:∀b u,s.heap.get? b=some u->h'.get? b=some u)(h:s.heap.objs.size<=a)(n:aG X.prog X.w (af H a o) h' a o):
  ap X pins σ (af H a o) { s with heap:=h',toks:=t' }:=I.un (Un.laid k h (I.hok.fresh h)) (I.hok.laid k h n)
theorem ap.write{x e:Addr}{o:HO}{t':Nat}(I:ap X pins σ H s)(m:A6 (H x))(a:e=x∨H e=some (.own x))(k:∀b u,b≠e->s.heap.get? b=some u->h'.get? b=some u)(h:∃u,h'.get? e=some u)
  (n:aG X.prog X.w (af H x o) h' x o):ap X pins σ (af H x o) { s with heap:=h',toks:=t' }:=I.un (Un.write m a k h) (I.hok.write m a k h n)
theorem ap.pins_of{pins':List (Addr×Obj)}(I:ap X pins σ H s)(h:∀p∈pins',s.heap.get? p.1=some p.2/\H p.1=none/\p.1≠X.env.locals/\p.1∉X.fs/\∀v,p.2.data≠ .cell v):ap X pins' σ H s:=
 #[I.ok,I.os,I.bare,I.base,I.loc,I.cell,I.free,I.freeC,λp a=>(List.mem_append.mp a).elim (λz=>I.pin p (Ep _ z)) (h p),I.hok,I.len]
theorem QN{N:List Str}(h:N.Nodup){i j:Nat}{x:Str}(a:N[i]?=some x)(b:N[j]?=some x):i=j:=by
 obtain⟨c,e⟩:=List.getElem?_eq_some_iff.mp a
 obtain⟨d,E⟩:=List.getElem?_eq_some_iff.mp b
 exact(List.getElem_inj h).mp (e.trans E.symm)
theorem KQ{v:V}{Q:Unit->Shared->Prop}(I:ap X pins σ H s)(hN:X.N.Nodup)(L:X.N[i]?=some x)(l:px X.env.scope x)(r:ay v u)
  (h:∀s',ap X pins (σ.set i (some v)) H s'->(∃a,Heap.SameBut a s.heap s'.heap/\(a=X.env.locals∨X.env.cells.lookup x=some a))->Q () s') (hf:X.fn x=true∨X.env.scope.names.lookup x=some .local:=by first |exact .inl Z |exact .inr Z |assumption):wpAny M A (storeName X.env x u) Q E s:=by
 obtain⟨m,hn,hl⟩:=id I.loc
 have O:(X.env.scope.kind== .class||(X.env.scope.kind== .module&&X.env.locals != X.env.globals))=false:=by rw[I.ok.kind];rfl
 have D:i < σ.length:=by rw[I.len];exact(List.getElem?_eq_some_iff.mp L).1
 have F:=I.cne
 have t:∀{a:Addr} {h':Heap},(∃o,s.heap.get? a=some o/\H a=none)->Heap.SameBut a s.heap h'->dR X.prog X.w H h':=λ{a h'} ha f b ob e=>by
  obtain⟨_,_,B⟩:=ha
  refine(I.hok b ob e).stay (λc W hc q=>(f.2 c ?_).trans q) (λ_ q=>q) λ_ _ q=>q
  rintro rfl
  rcases hc with rfl |hc
  ·rw[B]at e;cases e
  ·rw[B]at hc;cases hc
 rcases l with hk |hk
 ·refine wpAny_storeName_local hk hn (λh' h0 f=>?_) O
  obtain⟨oL,_,_,h1,_⟩:=id hn
  refine h _ #[I.ok,I.os,I.bare,#[λb o e n G l=>?_,λb o e n G l=>?_,I.base.free,λb o e l=>?_,I.base.tups,I.base.frzs,I.base.tbls],#[_,h0,λj y v' g C e3=>?_],λy c e=>?_,I.free,I.freeC,λp hp=>?_,t #[oL,h1,I.free] f,by simpa using I.len] #[_,f,.inl Z]
  ·exact(f.2 b (Dp (Dr (Dm e) I.ok.above))).trans (I.base.keep b o e n G l)
  ·obtain⟨sl,g⟩:=I.base.slot b o e n G l
   exact#[sl,(f.2 b (Dp (Dr (Dm e) I.ok.above))).trans g]
  ·obtain⟨o',g⟩:=I.base.there b o e l
   exact#[o',(f.2 b (Dp (Dr (Dm e) I.ok.above))).trans g]
  ·by_cases J:j=i
   ·subst J
    rw[L]at g;cases g
    rw[FQ D]at C
    cases C
    exact#[u,r,.inl #[hk,Ie]]
   ·rw[EX (DQ J)]at C
    obtain⟨u',r',q⟩:=hl j y v' g C e3
    refine#[u',r',?_]
    rcases q with ⟨k,e⟩ | ⟨k,c,e,z⟩
    ·refine .inl #[k,?_]
     have:y≠x:=λe=>J (QN hN g (e▸L))
     simp [this,e]
    ·exact .inr #[k,c,e,z.sameBut f (F y c e)]
  ·obtain⟨W,z⟩:=I.cell y c e
   exact#[W,z.sameBut f (F y c e)]
  ·obtain⟨e,n,U,nf,d⟩:=I.pin p hp
   exact#[(f.2 p.1 U).trans e,n,U,nf,d]
 ·have K:X.fn x=true:=by
   rcases hf with z |z
   ·exact z
   ·rw[z]at hk;cases hk
  obtain⟨c,hc⟩:=I.ok.has x (.inl hk)
  obtain⟨W,z⟩:=I.cell x c hc
  refine wpAny_storeName_cell I.ok.kind hk hc z (λh' P f=>?_)
  obtain⟨oc,R,S⟩:=id z
  refine h { s with heap:=h' } #[I.ok,I.os,I.bare,#[λb o e n G l=>?_,λb o e n G l=>?_,I.base.free,λb o e l=>?_,I.base.tups,I.base.frzs,I.base.tbls],#[m,hn.sameBut f (DQ (F x c hc)),λj y v' g C e3=>?_],λy Y e=>?_,I.free,I.freeC,λp hp=>?_,t #[oc,R,I.freeC x c hc] f,by simpa using I.len] #[c,f,.inr hc]
  ·exact(f.2 b (Dp (Dr (Dm e) (I.ok.cab x c K hc)))).trans (I.base.keep b o e n G l)
  ·obtain⟨sl,g⟩:=I.base.slot b o e n G l
   exact#[sl,(f.2 b (Dp (Dr (Dm e) (I.ok.cab x c K hc)))).trans g]
  ·obtain⟨o',g⟩:=I.base.there b o e l
   exact#[o',(f.2 b (Dp (Dr (Dm e) (I.ok.cab x c K hc)))).trans g]
  ·by_cases J:j=i
   ·subst J
    rw[L]at g;cases g
    rw[FQ D]at C
    cases C
    exact#[u,r,.inr #[.inl hk,c,hc,P]]
   ·rw[EX (DQ J)]at C
    obtain⟨u',r',q⟩:=hl j y v' g C e3
    refine#[u',r',?_]
    rcases q with q | ⟨k,Y,e,z'⟩
    ·exact .inl q
    ·refine .inr #[k,Y,e,z'.sameBut f ?_]
     rintro rfl
     exact J (QN hN g (I.ok.inj _ _ _ e hc▸L))
  ·by_cases T:Y=c
   ·subst T;exact#[_,P]
   ·obtain⟨w2,z2⟩:=I.cell y Y e
    exact#[w2,z2.sameBut f T]
  ·obtain⟨e,n,U,nf,d⟩:=I.pin p hp
   refine#[(f.2 p.1 ?_).trans e,n,U,nf,d]
   intro q
   rw[q,R]at e
   have q':oc=p.2:=DT e
   exact d W (by rw[<- q'];exact S)
theorem zh{Q:Unit->Shared->Prop}(I:ap X pins σ H s)(a:X.N.Nodup)(b:X.N[i]?=some x)(c:px X.env.scope x)(r:ay v u)
  (h:∀S,ap X pins (σ.set i (some v)) H S->Q () S) (d:X.fn x=true∨X.env.scope.names.lookup x=some .local:=by first |exact .inl Z |exact .inr Z |assumption):wpAny M A (storeName X.env x u) Q E s:=
 KQ I a b c r (λS e _=>h S e) d
theorem ap.call'{S:Shared}{ch:List Addr}(I:ap X pins σ H s)(d:S.os=s.os)(u:Un (gX X.stack) ch H H' s.heap S.heap)(h:dR X.prog X.w H' S.heap)(f:AllBare S.gens)
  (a:∀b∈ch,(b∈X.ex∨X.s₀.heap.objs.size<=b)/\b≠X.env.locals/\(∀x c,X.env.cells.lookup x=some c->c≠b)/\∀p∈X.pn++pins,p.1≠b):ap X pins σ H' S:=by
 obtain⟨h',g',d',t',o⟩:=S
 have e:o=s.os:=d
 subst e
 exact I.call (g':=g') (t':=t') (d':=d') u h f a
end
abbrev XK:=Value->Option Addr->Hp->Prop
abbrev St:=List (Option V)
abbrev VK:=V->Hp->Prop
abbrev TE:=St->Hp->VK->Prop
abbrev TT:=St->Hp->(Bool->Hp->Prop)->Prop
abbrev TA:=St->Hp->(List V->Hp->Prop)->Prop
structure be where
 nx:St->Hp->Prop
 rt:VK
 bk:St->Hp->Prop:=λ_ _=>False
 ct:St->Hp->Prop:=λ_ _=>False
abbrev TS:=be->St->Hp->Prop
def EP(X:Cx)(p:List (Addr×Obj))(a:St)(Q:VK)(u:Value)(s:Shared):Prop:=∃v H,ap X p a H s/\ay v u/\Q v H
def TP(X:Cx)(p:List (Addr×Obj))(a:St)(Q:Bool->Hp->Prop)(b:Bool)(s:Shared):Prop:=∃H,ap X p a H s/\Q b H
def AP(X:Cx)(p:List (Addr×Obj))(a:St)(Q:List V->Hp->Prop)(u:List Value)(s:Shared):Prop:=∃v H,ap X p a H s/\au v u/\Q v H
def SP(X:Cx)(p:List (Addr×Obj))(D:be)(f:Flow)(s:Shared):Prop:=
 match f with
 | .next=>∃a H,ap X p a H s/\D.nx a H
 | .brk=>∃a H,ap X p a H s/\D.bk a H
 | .cont=>∃a H,ap X p a H s/\D.ct a H
 | .ret u=>∃v a H,ap X p a H s/\ay v u/\D.rt v H
def PE(X:Cx)(e:Expr)(t:TE):Prop:=
 ∀(p:List (Addr×Obj)) (s:Shared) (a:St) (H:Hp) (Q:VK),ap X p a H s->t a H Q->wpAny (model X.prog X.w) X.A (eval e X.env) (EP X p a Q) X.xe s
def PT(X:Cx)(e:Expr)(t:TT):Prop:=
 ∀(p:List (Addr×Obj)) (s:Shared) (a:St) (H:Hp) (Q:Bool->Hp->Prop),ap X p a H s->t a H Q->wpAny (model X.prog X.w) X.A (isTrue e X.env (eval e X.env)) (TP X p a Q) X.xe s
def PW(X:Cx)(e:Expr)(t:TT):Prop:=
 ∀(W:Sem Value) (p:List (Addr×Obj)) (s:Shared) (a:St) (H:Hp) (Q:Bool->Hp->Prop),ap X p a H s->t a H Q->wpAny (model X.prog X.w) X.A (isTrue e X.env W) (TP X p a Q) X.xe s
theorem PW.pt{X:Cx}{e:Expr}{t:TT}(h:PW X e t):PT X e t:=h _
def PA(X:Cx)(e:List Expr)(t:TA):Prop:=
 ∀(P:Pos) (p:List (Addr×Obj)) (s:Shared) (a:St) (H:Hp) (Q:List V->Hp->Prop),ap X p a H s->t a H Q->wpAny (model X.prog X.w) X.A (spliced (backTo P (starEach e X.env))) (AP X p a Q) X.xe s
def PS(X:Cx)(st:Stmt)(t:TS):Prop:=
 ∀(p:List (Addr×Obj)) (s:Shared) (a:St) (H:Hp) (D:be),ap X p a H s->t D a H->wpAny (model X.prog X.w) X.A (exec st X.env) (SP X p D) X.xe s
def iS(X:Cx)(st:List Stmt)(t:TS):Prop:=
 ∀(p:List (Addr×Obj)) (s:Shared) (a:St) (H:Hp) (D:be),ap X p a H s->t D a H->wpAny (model X.prog X.w) X.A (execs st X.env) (SP X p D) X.xe s
theorem aL{b:Type}{t:Sem b}{Q q:b->Shared->Prop}{M:Model}{A:Around}{E:Value->Shared->Prop}{s:Shared}(h:wpAny M A t Q E s)(H:∀a s,Q a s->q a s):wpAny M A t q E s:=Eh h H λ_ _ x=>x
section
variable {X:Cx}
def aU(i:Nat):TE:=λa H Q=>∃v,a[i]?=some (some v)/\Q v H
def tC(v:V):TE:=λ_ H Q=>Q v H
theorem wb(j:X.N[i]?=some x)(k:Bc X.env.scope x)(b:(x==("__debug__":Str))=false:=by decide)(d:(x==("__classdict__":Str))=false:=by decide):PE X (.Name x n) (aU i):=by
 intro p s o H Q I h
 obtain⟨v,e,h⟩:=h
 obtain⟨m,q,t⟩:=I.loc
 obtain⟨u,r,l⟩:=t i x v j e k
 have f:EP X p o Q u s:=#[v,H,I,r,h]
 rcases l with ⟨hk,w⟩ | ⟨hk,c,g,a⟩
 ·exact wpAny_Name (wpAny_loadName_local I.ok.kind hk q w f) b
 ·rcases hk with hk |hk
  ·exact wpAny_Name (wpAny_loadName_cell I.ok.kind hk g a f) b
  ·exact wpAny_Name (wpAny_loadName_free I.ok.kind hk g a f d) b
theorem jf{i j p}:PE X (.Constant (.int i) j p) (tC (.int i)):=λ_ _ _ H _ I h=>wpAny_Constant_int #[.int i,H,I.tok _,#[_,Z],h]
theorem vg{b j p}:PE X (.Constant (.bool b) j p) (tC (.bl b)):=λ_ _ _ H _ I h=>Constant_bool #[.bl b,H,I,Z,h]
theorem Xl{j p}:PE X (.Constant .none j p) (tC .non):=λ_ _ _ H _ I h=>Constant_none #[.non,H,I,Z,h]
theorem jk{x j p}:PE X (.Constant (.str x) j p) (tC (.str x)):=λ_ _ _ H _ I h=>Calls.Constant_str #[.str x,H,I.tok _,#[_,Z],h]
def Gl(X:Cx)(x:Str):Prop:=X.env.kindOf x=some .globalImplicit
theorem kX{Q:Value->Shared->Prop}(I:ap X p e H s)(a:Gl X x)(b:X.mg x=some u)(h:Q u s)
  (c:(x==("__debug__":Str))=false:=by decide):wpAny (model X.prog X.w) X.A (eval (.Name x d) X.env) Q E s:=
 Calls.Name_function_global I.ok.kind a (Calls.loadGlobal_global (by rw[I.ok.glob];exact I.mod.glob.keeps I.bk) b h) c
theorem zu{Q:Value->Shared->Prop}(I:ap X p j H s)(a:Gl X x)(b:X.mg x=none)(c:bootBuiltins x=some u)(h:Q u s)
  (d:x≠"__name__":=by decide) (e:(x==("__debug__":Str))=false:=by decide):wpAny (model X.prog X.w) X.A (eval (.Name x f) X.env) Q E s:=by
 obtain⟨m,g,i⟩:=I.mod.blt
 exact Calls.Name_function_global I.ok.kind a (Calls.loadGlobal_builtin (by rw[I.ok.glob];exact I.mod.glob.keeps I.bk) b (by rw[I.ok.blt];exact g.keeps I.bk) ((i x d).trans c) h) e
theorem qD{v:V}(a:Gl X x)(b:X.mg x=some u)(r:ay v u)(c:(x==("__debug__":Str))=false:=by decide):PE X (.Name x p) (tC v):=
 λ_ _ _ H _ I h=>kX I a b #[v,H,I,r,h] c
theorem Qq{v:V}(a:Gl X x)(b:X.mg x=none)(c:bootBuiltins x=some u)(r:ay v u)(d:x≠"__name__":=by decide)(e:(x==("__debug__":Str))=false:=by decide):PE X (.Name x p) (tC v):=
 λ_ _ _ H _ I h=>zu I a b c #[v,H,I,r,h] d e
variable {a b:Expr}{ta tb:TE}{pos:Pos}
def PC(X:Cx)(o:CmpOp)(a b:Expr)(t:TE):Prop:=
 ∀(p:List (Addr×Obj)) (s:Shared) (d:St) (H:Hp) (Q:VK),ap X p d H s->t d H Q->
  wpAny (model X.prog X.w) X.A (eval a X.env) (λv S=>wpAny (model X.prog X.w) X.A (eval b X.env) (λu c=>wpAny (model X.prog X.w) X.A (compareOp o v u) (EP X p d Q) X.xe c) X.xe S) X.xe s
def BE(ta:TE):TE:=λc H Q=>ta c H λx h=>Q (.bl (decide (x= .non))) h
theorem ay.none_iff(r:ay x v):(v==Value.none)=decide (x= .non):=by
 cases x with
 |non=>cases r;rfl
 |bl _=>cases r;rfl
 |int _=>obtain⟨t,rfl⟩:=r;rfl
 |str _=>obtain⟨t,rfl⟩:=r;rfl
 |byt _=>obtain⟨t,rfl⟩:=r;rfl
 |flt _=>obtain⟨t,rfl⟩:=r;rfl
 |ref _=>cases r;rfl
 |ty _=>cases r;rfl
theorem vW{j p}(c:PE X a ta):PC X .Is a (.Constant .none j p) (BE ta):=by
 intro P s d H Q I h
 refine aL (c P s d H _ I h) λv S #[x,e,i,r,q]=>?_
 exact Constant_none (is_none_gen #[.bl _,e,i,by rw[r.none_iff];rfl,q])
def tB(t:TE):TT:=λd H Q=>t d H λx h=>∃c,x= .bl c/\Q c h
theorem ZA(h:PC X o a b t)(e:behindInMarks o b=false:=by first |exact n _ Ib Ib |rfl):PT X (.Compare a [o] [b] pos) (tB t):=by
 intro p s f H Q I g
 refine wpAny_isTrue_Compare1 (aL (h p s f H _ I g) λv S e=>aL e λu m i=>aL i λc w #[x,j,k,r,l]=>?_) e
 obtain⟨d,rfl,q⟩:=l
 cases r
 exact Fc #[j,k,q]
theorem ZB(h:PE X e t)(c:∀w,isTrue e X.env w=(do let v <- w;standAt e.pos;holding [v] (truthy v)):=by intro _;rfl):PT X e (tB t):=by
 intro p s f H Q I g
 refine isTrue_plain (aL (h p s f H _ I g) λv S #[x,i,j,r,k]=>?_) (c _)
 obtain⟨d,rfl,q⟩:=k
 cases r
 exact Fc #[i,j,q]
variable {tA tB':TT}{rest:List Expr}
def Bx(t u:TT):TT:=λd H Q=>t d H λc h=>if c=true then u d h Q else Q false h
def C7(t u:TT):TT:=λd H Q=>t d H λc h=>if c=true then Q true h else u d h Q
def Ch(t:TT):TT:=λd H Q=>t d H λc h=>Q (!c) h
theorem qE(d:PT X a tA):PW X (.BoolOp .And [a] pos) tA:=by
 intro w p s f H Q I h
 refine isTrue_and (aL (d p s f H Q I h) λc S e=>?_)
 cases c with
 |true=>exact isTrue_and_nil e
 |false=>exact e
theorem qY(d:PT X a tA):PW X (.BoolOp .Or [a] pos) tA:=by
 intro w p s f H Q I h
 refine isTrue_or (aL (d p s f H Q I h) λc S e=>?_)
 cases c with
 |false=>exact isTrue_or_nil e
 |true=>exact e
theorem JU(f:PT X a tA)(g:PW X (.BoolOp .And (b::rest) pos) tB'):PW X (.BoolOp .And (a::b::rest) pos) (Bx tA tB'):=by
 intro w p s d H Q I h
 refine isTrue_and (aL (f p s d H _ I h) λc S #[e,i,q]=>?_)
 cases c with
 |true=>exact g w p S d e Q i q
 |false=>exact#[e,i,q]
theorem KK(f:PT X a tA)(g:PW X (.BoolOp .Or (b::rest) pos) tB'):PW X (.BoolOp .Or (a::b::rest) pos) (C7 tA tB'):=by
 intro w p s d H Q I h
 refine isTrue_or (aL (f p s d H _ I h) λc S #[e,i,q]=>?_)
 cases c with
 |true=>exact#[e,i,q]
 |false=>exact g w p S d e Q i q
theorem ZC(d:PT X a tA):PT X (.UnaryOp .Not a pos) (Ch tA):=by
 intro p s e H Q I h
 exact isTrue_not (d p s e H (λc f=>Q (!c) f) I h)
def At(ta tb:TE):TE:=λd H Q=>ta d H λx h=>∃c,x= .bl c/\if c=true then tb d h Q else Q (.bl false) h
def A8(ta:TE):TE:=λd H Q=>ta d H λx h=>∃c,x= .bl c/\Q (.bl (!c)) h
theorem ZD(h:PE X a t):PE X (.BoolOp o [a] pos) t:=λp s c H Q I d=>BoolOp_one (h p s c H Q I d)
theorem Qj(f:PE X a ta)(g:PE X (.BoolOp .And (b::rest) pos) tb):PE X (.BoolOp .And (a::b::rest) pos) (At ta tb):=by
 intro p s d H Q I h
 refine BoolOp_and (aL (f p s d H _ I h) λv S #[x,e,i,r,q]=>?_)
 obtain⟨c,rfl,q⟩:=q
 cases r
 refine Fc ?_
 cases c with
 |true=>exact g p S d e Q i q
 |false=>exact#[.bl false,e,i,Z,q]
theorem xO(d:PE X a ta):PE X (.UnaryOp .Not a pos) (A8 ta):=by
 intro p s e H Q I h
 refine UnaryOp_ (aL (d p s e H _ I h) λv S #[x,f,i,r,q]=>?_)
 obtain⟨c,rfl,q⟩:=q
 cases r
 exact not_of (Fc #[.bl (!c),f,i,Z,q])
def C3(t:TT)(ta tb:TE):TE:=λd H Q=>t d H λc h=>if c=true then ta d h Q else tb d h Q
theorem kP(g:PT X c tA)(j:PE X a ta)(k:PE X b tb):PE X (.IfExp c a b pos) (C3 tA ta tb):=by
 intro p s e H Q I h
 refine wpAny_IfExp (aL (g p s e H _ I h) λd S #[f,i,q]=>?_)
 cases d with
 |true=>exact j p S e f Q i q
 |false=>exact k p S e f Q i q
end
def aE(K:Frag)(H:Hp)(a:Addr)(x:List V):Prop:=
 Rd H a (.lst x)∨
  ∃(o:Obj) (i:Array Value) (n:Nat),K.lookup a=some o/\o.cls= .type "list"/\o.dict=none/\o.data= .seq i n/\i.size<=sizeLine/\au x i.toList
def aA(K:Frag)(H:Hp)(a:Addr)(x:List V):Prop:=
 Rd H a (.tup x)∨
  ∃(o:Obj) (i:Array Value) (n:Nat),K.lookup a=some o/\o.cls= .type "tuple"/\o.data= .seq i n/\i.size<=sizeLine/\au x i.toList
noncomputable def BL:Value->Option V
 | .none=>some .non
 | .bool b=>some (.bl b)
 | .int i _=>some (.int i)
 | .str x _=>some (.str x)
 | .bytes b _=>some (.byt b)
 | .float b _=>some (.flt b)
 | .ref a=>some (.ref a)
 | .type n=>some (.ty n)
 |_=>none
theorem ay.abs(r:ay x u):BL u=some x:=by
 cases x with
 |non=>cases r;rfl
 |bl _=>cases r;rfl
 |int _=>obtain⟨t,rfl⟩:=r;rfl
 |str _=>obtain⟨t,rfl⟩:=r;rfl
 |byt _=>obtain⟨t,rfl⟩:=r;rfl
 |flt _=>obtain⟨t,rfl⟩:=r;rfl
 |ref _=>cases r;rfl
 |ty _=>cases r;rfl
theorem ay.inj{x:V}(r:ay x u)(q:ay y u):x=y:=DT (r.abs.symm.trans q.abs)
theorem au.inj:∀{x y:List V} {u:List Value},au x u->au y u->x=y
 |_,_,_,.nil,.nil=>rfl
 |_,_,_,.cons r t,.cons R T=>by rw[r.inj R,au.inj t T]
section
variable {X:Cx}{pins:List (Addr×Obj)}{σ:St}{H:Hp}{s:Shared}{a:Addr}{xs ys:List V}
theorem aE.of{K:Frag}(h:H a=some (.lst xs)):aE K H a xs:=.inl (.inl h)
theorem aA.of{K:Frag}(h:H a=some (.tup xs)):aA K H a xs:=.inl (.inl h)
theorem ap.list(I:ap X pins σ H s)(h:aE X.K H a xs):∃i:List Value,au xs i/\PlainL s.heap a i.toArray/\xs.length<=sizeLine:=by
 rcases h with h | ⟨o,i,n,b,c,d,f,g,r⟩
 ·obtain⟨z,i,n,r,e⟩:=h.ok I.hok
  exact#[i,r,#[_,n,e,Z,Z,Z],z]
 ·refine#[i.toList,r,#[o,n,I.kIn a o b,c,d,by simpa using f],?_]
  have e:=r.length
  simp only[DF]at e
  omega
theorem ap.tuple(I:ap X pins σ H s)(h:aA X.K H a xs):∃i:List Value,au xs i/\IsTup s.heap a i.toArray/\xs.length<=sizeLine:=by
 rcases h with h | ⟨o,i,n,b,c,d,f,r⟩
 ·obtain⟨z,i,r,p⟩:=h.ok I.hok
  exact#[i,r,p,z]
 ·refine#[i.toList,r,#[o,I.kIn a o b,c,n,by simpa using d],?_]
  have e:=r.length
  simp only[DF]at e
  omega
theorem ap.list_inj(I:ap X pins σ H s)(h:aE X.K H a xs)(c:aE X.K H a ys):xs=ys:=by
 obtain⟨b,r,⟨o,n,e,_,_,d⟩,_⟩:=I.list h
 obtain⟨i,R,⟨O,N,E,_,_,D⟩,_⟩:=I.list c
 rw[e]at E;cases E
 rw[d]at D
 injection D with f _
 have:b=i:=by simpa using El Array.toList f
 subst this
 exact r.inj R
theorem ap.tuple_inj(I:ap X pins σ H s)(h:aA X.K H a xs)(c:aA X.K H a ys):xs=ys:=by
 obtain⟨b,r,⟨o,e,_,n,d⟩,_⟩:=I.tuple h
 obtain⟨i,R,⟨O,E,_,N,D⟩,_⟩:=I.tuple c
 rw[e]at E;cases E
 rw[d]at D
 injection D with f _
 have:b=i:=by simpa using El Array.toList f
 subst this
 exact r.inj R
end
noncomputable abbrev Cx.wish(X:Cx)(E:Value->Shared->Prop):Cx:={ X with xe:=E }
noncomputable abbrev Cx.nox(X:Cx):Cx:=X.wish λ_ _=>False
theorem Cx.Ok.wish{X:Cx}(o:X.Ok)(E:Value->Shared->Prop):(X.wish E).Ok:=
 #[o.mod,o.kind,o.glob,o.blt,o.above,o.inj,o.has,o.cab,o.hd,o.frames,o.stk,o.exf,o.bs,o.bsz,o.noex,o.exfs,o.funs,o.frf]
theorem Cx.Ok.unwish{X:Cx}(o:(X.wish E).Ok):X.Ok:=
 #[o.mod,o.kind,o.glob,o.blt,o.above,o.inj,o.has,o.cab,o.hd,o.frames,o.stk,o.exf,o.bs,o.bsz,o.noex,o.exfs,o.funs,o.frf]
section
variable {X:Cx}{pins:List (Addr×Obj)}{σ:St}{H:Hp}{s:Shared}{E:Value->Shared->Prop}
theorem ap.wish(I:ap X pins σ H s)(E:Value->Shared->Prop):ap (X.wish E) pins σ H s:=#[I.ok.wish E,I.os,I.bare,I.base,I.loc,I.cell,I.free,I.freeC,I.pin,I.hok,I.len]
theorem ap.unwish(I:ap (X.wish E) pins σ H s):ap X pins σ H s:=#[I.ok.unwish,I.os,I.bare,I.base,I.loc,I.cell,I.free,I.freeC,I.pin,I.hok,I.len]
theorem SP.unwish(h:SP (X.wish E) pins D f c):SP X pins D f c:=by
 cases f with
 |next=>obtain⟨a,b,I,q⟩:=h;exact#[a,b,I.unwish,q]
 |brk=>obtain⟨a,b,I,q⟩:=h;exact#[a,b,I.unwish,q]
 |cont=>obtain⟨a,b,I,q⟩:=h;exact#[a,b,I.unwish,q]
 |ret u=>obtain⟨v,a,b,I,r,q⟩:=h;exact#[v,a,b,I.unwish,r,q]
theorem iS.nox{st:List Stmt}(h:iS X.nox st t):iS X st t:=λpins s σ H D I a=>
 Eh (h pins s σ H D (I.wish _) a) (λ_ _ q=>q.unwish) λ_ _ z=>False.elim z
end
section
variable {X:Cx}{st:Stmt}{rest:List Stmt}{t u:TS}{e:Expr}{te:TE}{pos:Pos}
def re:TS:=λD a H=>D.nx a H
def eZ(t u:TS):TS:=λD a H=>t { D with nx:=u D } a H
theorem jm:iS X [] re:=λ_ _ a H _ I h=>FS #[a,H,I,h]
theorem jd(b:PS X st t)(c:iS X rest u):iS X (st::rest) (eZ t u):=by
 intro p s d H D I h
 refine HQ (aL (b p s d H { D with nx:=u D } I h) λf S q=>?_)
 cases f with
 |next=>
  obtain⟨a,g,i,q⟩:=q
  exact c p S a g D i q
 |ret v=>exact q
 |brk=>exact q
 |cont=>exact q
theorem jg(a:PS X st t):iS X [st] t:=by
 intro p s b H D I h
 refine HQ (aL (a p s b H D I h) λf S q=>?_)
 cases f with
 |next=>exact FS q
 |ret v=>exact q
 |brk=>exact q
 |cont=>exact q
theorem ap.quiet(I:ap X p a H s):interactive X.env=false:=by simp [interactive,I.ok.kind]
def mh(te:TE):TS:=λD a H=>te a H λ_ h=>D.nx a h
theorem jN(b:PE X e te)(c:swapsWith e none pos.line X.env=pure false:=by rfl):PS X (.Expr e pos) (mh te):=by
 intro p s a H D I h
 exact wpAny_Expr_any (aL (b p s a H _ I h) λv S #[x,d,i,r,q]=>#[a,d,i,q]) I.quiet c
def gM(te:TE):TS:=λD a H=>te a H D.rt
theorem jl(b:PE X e te):PS X (.Return (some e) pos) (gM te):=by
 intro p s a H D I h
 exact wpAny_Return_some (aL (b p s a H _ I h) λv S #[x,c,i,r,q]=>#[x,a,c,i,r,q])
def gu(c:TT)(t u:TS):TS:=λD a H=>c a H λb h=>if b=true then t D a h else u D a h
theorem jv{c:Expr}{a b:List Stmt}{T:TT}(j:PT X c T)(k:iS X a t)(l:iS X b u):PS X (.If c a b pos) (gu T t u):=by
 intro p s f H D I h
 refine wpAny_If (aL (j p s f H _ I h) λd S #[g,i,q]=>?_)
 cases d with
 |true=>exact k p S f g D i q
 |false=>exact l p S f g D i q
end
abbrev TG:=V->St->Hp->(St->Hp->Prop)->Prop
abbrev rK:=List V->St->Hp->(St->Hp->Prop)->Prop
def PG(X:Cx)(T:Expr)(t:TG):Prop:=
 ∀(p:List (Addr×Obj)) (s:Shared) (b:St) (H:Hp) (v:V) (u:Value) (Q:St->Hp->Prop),ap X p b H s->ay v u->t v b H Q->
  wpAny (model X.prog X.w) X.A (assign T X.env u) (λ_ S=>∃a h,ap X p a h S/\Q a h) X.xe s
def yH(X:Cx)(T:List Expr)(t:rK):Prop:=
 ∀(p:List (Addr×Obj)) (s:Shared) (b:St) (H:Hp) (v:List V) (u:List Value) (Q:St->Hp->Prop),ap X p b H s->au v u->t v b H Q->
  wpAny (model X.prog X.w) X.A (assignInOrder ((assignEach T X.env).map (·.2)) u) (λ_ S=>∃a h,ap X p a h S/\Q a h) X.xe s
abbrev yA:=V->V->V->Hp->(Hp->Prop)->Prop
def Af(X:Cx)(t:yA):Prop:=
 ∀(p:List (Addr×Obj)) (s:Shared) (a:St) (H:Hp) (o i v:V) (O I u:Value) (Q:Hp->Prop),ap X p a H s->ay o O->ay i I->ay v u->t o i v H Q->
  wpAny (model X.prog X.w) X.A (setItem O I u) (λ_ S=>∃h,ap X p a h S/\Q h) X.xe s
abbrev Bp:=V->V->Hp->VK->Prop
def Cw(X:Cx)(o:Operator)(t:Bp):Prop:=
 ∀(p:List (Addr×Obj)) (s:Shared) (a:St) (H:Hp) (x y:V) (v u:Value) (Q:VK),ap X p a H s->ay x v->ay y u->t x y H Q->
  wpAny (model X.prog X.w) X.A (inplaceOp o v u) (EP X p a Q) X.xe s
section
variable {X:Cx}{pos:Pos}
def bf(i:Nat):TG:=λv a H Q=>Q (a.set i (some v)) H
theorem ju{i:Nat}{x:Str}(a:X.N.Nodup)(b:X.N[i]?=some x)(c:px X.env.scope x)(d:X.fn x=true∨X.env.scope.names.lookup x=some .local:=by first |exact .inl Z |exact .inr Z |assumption):PG X (.Name x pos) (bf i):=by
 intro p s f H v u Q I r h
 exact wpAny_assign_Name (zh I a b c r (λS e=>#[_,H,e,h]) d)
def uL:rK:=λv a H Q=>v=[]/\Q a H
def dF(t:TG)(u:rK):rK:=λV b H Q=>∃v r,V=v::r/\t v b H λa h=>u r a h Q
theorem j8:yH X [] uL:=by
 intro p s a H v u Q I r h
 obtain⟨e,h⟩:=h
 subst e
 cases r
 exact assignInOrder_nil #[a,H,I,h]
theorem jx(b:PG X e t)(c:yH X E u)
  (d:(assignEach (e::E) X.env).map (·.2)=assign e X.env::(assignEach E X.env).map (·.2):=by rfl):yH X (e::E) (dF t u):=by
 intro p s f H V U Q I r h
 obtain⟨v,k,g,h⟩:=h
 subst g
 cases r with
 |cons r R=>
  rw[d]
  refine assignInOrder_cons (aL (b p s f H _ _ _ I r h) λ_ S #[a,i,j,q]=>?_)
  exact c p S a i _ _ Q j R q
def sI(K:Frag)(n:Nat)(t:rK):TG:=λv b H Q=>∃a x,v= .ref a/\aA K H a x/\x.length=n/\t x b H Q
theorem zc{n:Nat}(g:X.calm=true)(h:yH X E t)
  (i:(assignEach E X.env).length=n:=by rfl) (c:(assignEach E X.env).findIdx? (·.1)=none:=by rfl):PG X (.Tuple E k pos) (sI X.K n t):=by
 intro p s f H v u Q I r d
 obtain⟨a,x,j,l,m,d⟩:=d
 subst j
 cases r
 obtain⟨q,R,w,B⟩:=I.tuple l
 refine assign_Tuple_tuple (I.ok.hd g) w (by simp [i,<- m,R.length]) c λy z=>?_
 have A:ap X p f H { s with heap:=y }:=I.kept (t':=s.toks) λb o e=>z b o (Dp (Dm e)) e
 exact h p _ f H x _ Q A (by simpa using R) d
def yB(T b:TE)(t:yA):TG:=λv a H Q=>T a H λo h=>b a h λi c=>t o i v c λd=>Q a d
theorem zR{o i:Expr}{T c:TE}{t:yA}(d:PE X o T)(e:PE X i c)(f:Af X t)
  (g:∀v,assign (.Subscript o i pos) X.env v=(do
   let O <- holding [v] (eval o X.env)
   let a <- holding [v,O] (eval i X.env)
   standAt pos
   holding [v,O,a] (setItem O a v)
   release [v,O,a] []):=by intro _;rfl):PG X (.Subscript o i pos) (yB T c t):=by
 intro p s b H v u Q I r h
 rw[g]
 refine Dc (DI (aL (d p s b H _ I h) λO S #[x,j,k,R,q]=>?_))
 refine Dc (DI (aL (e p S b j _ k q) λa l #[y,m,n,w,z]=>?_))
 refine Dc (Fp (Dc (DI (aL (f p l b m x y v O a u _ n R w r z) λ_ D #[A,B,C]=>?_))))
 exact wpAny_release #[b,A,B,C]
def dD(t:TE)(g:TG):TS:=λD a H=>t a H λx h=>g x a h D.nx
theorem kL{t e:Expr}{T:TE}{g:TG}(b:PE X e T)(c:PG X t g)(d:swapsWithSole [t] e pos.line X.env=pure false:=by rfl)(f:swappedStores [t] e X.env=pure none:=by rfl)
  (i:(assignEach [t] X.env).map (·.2)=[assign t X.env]:=by rfl):PS X (.Assign [t] e pos) (dD T g):=by
 intro p s a H D I h
 refine wpAny_Assign_stores (aL (b p s a H _ I h) λv S #[x,j,k,r,Q]=>?_) d f
 rw[i]
 exact aL (c p S a j x v _ k r Q) λ_ l q=>q
theorem kA{i:Nat}{x:Str}{e:Expr}{t:TE}{p:Pos}(a:X.N.Nodup)(b:X.N[i]?=some x)(c:px X.env.scope x)(d:PE X e t)(f:swapsWith e (some (.Name x p)) pos.line X.env=pure false:=by rfl)(g:X.fn x=true∨X.env.scope.names.lookup x=some .local:=by first |exact .inl Z |exact .inr Z |assumption):
  PS X (.Assign [.Name x p] e pos) (dD t (bf i)):=by
 intro P s j H D I h
 refine wpAny_Assign_Name (aL (d P s j H _ I h) λv S #[y,k,l,r,q]=>?_) f
 exact zh l a b c r (λn m=>#[_,k,m,q]) g
def Cp(i:Nat)(t:TE)(T:Bp):TS:=λD a H=>∃x,a[i]?=some (some x)/\t a H λy h=>T x y h λz b=>D.nx (a.set i (some z)) b
theorem wz{i:Nat}(n:X.N.Nodup)(f:X.N[i]?=some x)(d:px X.env.scope x)(q:PE X e t)(B:Cw X o T)(C:X.fn x=true∨X.env.scope.names.lookup x=some .local:=by first |exact .inl Z |exact .inr Z |assumption):
  PS X (.AugAssign (.Name x g) o e pos) (Cp i t T):=by
 intro p s j H D I h
 obtain⟨v,E,h⟩:=h
 obtain⟨m,F,J⟩:=I.loc
 have V:Bc X.env.scope x:=by rcases d with k |k;exact .inl k;exact .inr (.inl k)
 obtain⟨u,r,l⟩:=J i x v f E V
 refine wpAny_AugAssign_Name ?_
 have G:wpAny (model X.prog X.w) X.A (eval e X.env) (λw S=>wpAny (model X.prog X.w) X.A (inplaceOp o u w) (λr b=>wpAny (model X.prog X.w) X.A (storeName X.env x r) (λ_=>SP X p D .next) X.xe b) X.xe S) X.xe s:=by
  refine aL (q p s j H _ I h) λw K #[y,L,M,R,Q]=>?_
  refine aL (B p K j L v y u w _ M r R Q) λz s2 #[zv,O,P,U,W]=>?_
  exact zh P n f d U (λs3 Y=>#[_,O,Y,W]) C
 rcases l with ⟨hk,hm⟩ | ⟨hk,c,hc,a⟩
 ·exact wpAny_loadName_local I.ok.kind hk F hm G
 ·rcases hk with hk |hk
  ·exact wpAny_loadName_cell I.ok.kind hk hc a G
  ·rcases d with k |k
   ·have:X.env.scope.names.lookup x=some .free:=hk
    rw[k]at this;cases this
   ·have:X.env.scope.names.lookup x=some .free:=hk
    rw[k]at this;cases this
def C9(f:Int->Int->Int):Bp:=λx y H Q=>∃i j,x= .int i/\y= .int j/\Q (.int (f i j)) H
theorem xF:Cw X .Add (C9 λi j=>i+j):=by
 intro p s a H x y v u Q I r R h
 obtain⟨i,j,e,E,q⟩:=h
 subst e;subst E
 obtain⟨t,rfl⟩:=r
 obtain⟨T,rfl⟩:=R
 exact iadd_int #[.int _,H,I.tok _,#[_,Z],q]
end
section
variable {X:Cx}{pos:Pos}
def oI(c:TT)(t:TS):TS:=λD a H=>∃W:Nat->St->Hp->Prop,(∃m,W m a H)/\∀m a H,W m a H->
 c a H λb h=>if b=true then ∃N:St->Hp->Prop,(∀d e,N d e->∃M,M < m/\W M d e)/\t { D with nx:=N,ct:=N,bk:=D.nx } a h else D.nx a h
theorem QO(o:PassesOwn (model X.prog X.w) X.A X.env X.xe)(C:PT X c T)(E:iS X B G):PS X (.While c B [] pos) (oI T G):=by
 intro p s F H D I h
 obtain⟨W,⟨M,J⟩,t⟩:=h
 refine wpAny_While (codeAny_whileLoop (λn S=>∃e r,ap X p e r S/\W n e r) ?_ M #[F,H,I,J])
 rintro n K ⟨d,u,L,O⟩
 refine Fk o (aL (C p K d u _ L (t n d u O)) λb P #[x,y,q]=>?_)
 cases b with
 |true=>
  obtain⟨N,z,q⟩:=q
  rw[DB Z]
  refine Fk o (aL (E p P d x _ y q) λf R Q=>?_)
  cases f with
  |next=>
   obtain⟨a,g,i,j⟩:=Q
   obtain⟨m,k,l⟩:=z a g j
   exact#[m,k,a,g,i,l]
  |cont=>
   obtain⟨a,g,i,j⟩:=Q
   obtain⟨m,k,l⟩:=z a g j
   exact#[m,k,a,g,i,l]
  |brk=>exact Q
  |ret v=>exact Q
 |false=>
  rw[DC Do]
  exact FS #[d,x,y,q]
end
structure It where
 go:Nat->Hp->Prop
 yld:Nat->Hp->V->Hp->Prop
 stop:Nat->Hp->Prop
def eK(X:Cx)(P:List (Addr×Obj))(H:Hp)(b:Addr):Prop:=
 H b=none/\b≠X.env.locals/\b∉X.fs/\(b∈X.ex∨X.s₀.heap.objs.size<=b)/\(∀x c,X.env.cells.lookup x=some c->c≠b)/\∀p∈X.pn++P,p.1≠b
theorem ap.fpOk{X:Cx}{d:Hp}(I:ap X a i H s)(h:s.heap.objs.size<=b)(f:d b=none):eK X a d b:=by
 refine#[f,D6 (Dr I.lt h),I.nofs h,.inr (Ds I.sz h),λx c e z=>?_,λp g z=>?_]
 ·obtain⟨v,q⟩:=I.cell x c e
  exact absurd (Dr q.lt (by rw[z];exact h)) (Ee _)
 ·exact absurd (Dr (Dm (I.pin p g).1) (by rw[z];exact h)) (Ee _)
structure iY(P:Program)(w:World)(K:Frag)(tg:Expr)(J:It)(fp:List Addr)(it:Addr)(tn:Nat->Heap->Prop):Prop where
 mem:it∈fp
 obj:∀i h,tn i h->∀b∈fp,∃o,h.get? b=some o/\∀v,o.data≠ .cell v
 keep:∀i h h',tn i h->(∀b∈fp,∀o,h.get? b=some o->h'.get? b=some o)->tn i h'
 item:∀(X:Cx),X.prog=P->X.w=w->X.K=K->X.calm=true->∀(i:Nat) (pins:List (Addr×Obj)) (s:Shared) (σ:St) (H:Hp) (E:Value->Shared->Prop),ap X pins σ H s->(∀b∈fp,eK X pins H b)->tn i s.heap->J.go i H->
  wpAny (model P w) X.A (pyNext (.ref it)) (λr s1=>∃u,r=some u/\
   wpAny (model P w) X.A (letOwnedTupleGo tg (.ref it) u) (λ_ s2=>∃x H',ap X pins σ H' s2/\ay x u/\J.yld i H x H'/\tn (i+1) s2.heap/\∀b∈fp,H' b=none) E s1) E s
 done:∀(X:Cx),X.prog=P->X.w=w->X.K=K->X.calm=true->∀(i:Nat) (pins:List (Addr×Obj)) (s:Shared) (σ:St) (H:Hp) (E:Value->Shared->Prop),ap X pins σ H s->(∀b∈fp,eK X pins H b)->tn i s.heap->J.stop i H->
  wpAny (model P w) X.A (pyNext (.ref it)) (λr s1=>r=none/\ap X pins σ H s1) E s
 self:∀(A:Around) (i:Nat) (s:Shared) (Q:Value->Shared->Prop) (E:Value->Shared->Prop),tn i s.heap->Q (.ref it) s->wpAny (model P w) A (pyIter (.ref it)) Q E s
abbrev TI:=St->Hp->(It->Hp->Prop)->Prop
def CJ(X:Cx)(p:List (Addr×Obj))(a:St)(T:Expr)(R:It->Hp->Prop)(i:Value)(s:Shared):Prop:=
 ∃(I:Addr) (f:List Addr) (t:Nat->Heap->Prop) (J:It) (H:Hp),i= .ref I/\ap X p a H s/\iY X.prog X.w X.K T J f I t/\t 0 s.heap/\(∀b∈f,eK X p H b)/\R J H
def PI(X:Cx)(t iter:Expr)(W:TI):Prop:=
 ∀(p:List (Addr×Obj)) (s:Shared) (a:St) (H:Hp) (R:It->Hp->Prop),ap X p a H s->W a H R->
  wpAny (model X.prog X.w) X.A (eval iter X.env) (λv S=>wpAny (model X.prog X.w) X.A (pyIter v) (CJ X p a t R) X.xe S) X.xe s
theorem X5{s : Shared}{n : String}{Q : Unit -> Shared -> Prop}(a : s.heap.get? i = some o)(b : o.cls = .type n)(c : o.data = .fields v)
    (d : ["enumerate", "zip", "dict_itemiterator", "dict_reverseitemiterator", "odict_iterator", "itertools.zip_longest", "itertools.pairwise"].contains n = false) (H : Q () s) : wpAny M A (letOwnedTupleGo t (.ref i) u) Q E s := by
  unfold letOwnedTupleGo
  cases t <;> first
    | exact De H
    | (cases u <;> first
        | exact De H
        | (refine Dc (wpAny_load a ?_)
           rw [b, c]
           show wpAny M A (if (["enumerate", "zip", "dict_itemiterator", "dict_reverseitemiterator", "odict_iterator", "itertools.zip_longest", "itertools.pairwise"].contains n && v[0]? == some (rawInt _)) = true then _ else _) Q E s
           rw [DC (by intro h; rw [d, Bool.false_and] at h; cases h)]
           exact De H))
noncomputable def uQ(K:Frag)(a:Addr):It:=
 #[λi H=>∃X x,aE K H a X/\X[i]?=some x,λi H x h=>h=H/\∀X,aE K H a X->X[i]?=some x,λi H=>∃X,aE K H a X/\X.length<=i]
noncomputable def uf(K:Frag)(a:Addr):It:=
 #[λi H=>∃X x,aA K H a X/\X[i]?=some x,λi H x h=>h=H/\∀X,aA K H a X->X[i]?=some x,λi H=>∃X,aA K H a X/\X.length<=i]
noncomputable def tX(lo:Int)(n:Nat):It:=#[λi _=>i < n,λi H x h=>h=H/\x= .int (lo+i),λi _=>n<=i]
theorem YD{P:Program}{K:Frag}(a g:Addr):iY P w K tg (uQ K a) [g] g (λi h=>h.IsListIter g a i) where
 mem:=by simp
 obj:=λi h st b j=>by
  have e:b=g:=by simpa using j
  subst e
  obtain⟨o,e,c,d⟩:=st
  exact#[o,e,λv z=>by rw[d]at z;cases z]
 keep:=λi h l st k=>st.at λo e=>k g Ie o e
 item:=by
  intro X q r t L i f s M H E I m st y
  subst q r t
  obtain⟨N,x,n,A⟩:=y
  obtain⟨B,R,p,O⟩:=I.list n
  obtain⟨u,Q,T⟩:=R.get A
  obtain⟨F,C,U,D,G,J⟩:=m g Ie
  refine wpAny_pyNext_list_item st p.isList (x:=u) (by simpa using Q) λl S V=>?_
  have W:ap X f M H { s with heap:=l }:=I.turned (t':=s.toks) (λb o j e=>(V.2 b j).trans e) F C D G J
  obtain⟨o,e,c,d⟩:=id S
  exact#[u,Z,X5 (s:={ s with heap:=l }) e c d Ib #[x,H,W,T,#[Z,λys Y=>by rw[I.list_inj Y n];exact A],S,λb j=>(m b j).1]]
 done:=by
  intro X q r t L i f s M H E I m st y
  subst q r t
  obtain⟨N,n,A⟩:=y
  obtain⟨B,R,p,O⟩:=I.list n
  obtain⟨F,C,U,D,G,J⟩:=m g Ie
  have hl:=R.length
  exact wpAny_pyNext_list_end (I.ok.hd L) st p.isList (by simp;omega) λl eb=>#[Z,I.turned (t':=s.toks) (λb o j e=>eb b o j e) F C D G J]
 self:=λ_ _ _ _ _ st h=>wpAny_pyIter_listiter st h
theorem Xq{P:Program}{K:Frag}(a g:Addr):iY P w K tg (uf K a) [g] g (λi h=>h.IsTupleIter g a i) where
 mem:=by simp
 obj:=λi h st b j=>by
  have e:b=g:=by simpa using j
  subst e
  obtain⟨o,e,c,d⟩:=st
  exact#[o,e,λv z=>by rw[d]at z;cases z]
 keep:=λi h m st k=>st.at λo e=>k g Ie o e
 item:=by
  intro X r t y L i f s M H E I n st A
  subst r t y
  obtain⟨N,x,q,B⟩:=A
  obtain⟨l,R,p,O⟩:=I.tuple q
  obtain⟨u,Q,T⟩:=R.get B
  obtain⟨F,C,U,D,G,J⟩:=n g Ie
  refine wpAny_pyNext_tuple_item st (show s.heap.IsTuple a l.toArray from p) (x:=u) (by simpa using Q) λm S V=>?_
  have W:ap X f M H { s with heap:=m }:=I.turned (t':=s.toks) (λb o j e=>(V.2 b j).trans e) F C D G J
  obtain⟨o,e,c,d⟩:=id S
  exact#[u,Z,X5 (s:={ s with heap:=m }) e c d Ib #[x,H,W,T,#[Z,λys Y=>by rw[I.tuple_inj Y q];exact B],S,λb j=>(n b j).1]]
 done:=by
  intro X r t y L i f s M H E I n st A
  subst r t y
  obtain⟨N,q,B⟩:=A
  obtain⟨l,R,p,O⟩:=I.tuple q
  obtain⟨F,C,U,D,G,J⟩:=n g Ie
  have hl:=R.length
  exact wpAny_pyNext_tuple_end (I.ok.hd L) st (show s.heap.IsTuple a l.toArray from p) (by simp;omega) λm eb=>#[Z,I.turned (t':=s.toks) (λb o j e=>eb b o j e) F C D G J]
 self:=λ_ _ _ _ _ st h=>wpAny_pyIter_tupleiter st h
theorem Xr{P:Program}{K:Frag}(a:Addr)(lo:Int)(n:Nat):iY P w K M (tX lo n) [a] a (λi h=>IsRangeIter h a (lo+(i:Nat)*1) ((n:Int) - (i:Nat)) 1) where
 mem:=by simp
 obj:=λi h st b c=>by
  have e:b=a:=by simpa using c
  subst e
  exact#[_,st,λv z=>by
   have B:Data.fields _=Data.cell v:=z
   cases B]
 keep:=λi h d st k=>k a Ie _ st
 item:=by
  intro X g j l m i p s A H E I f st q
  subst g j l
  obtain⟨F,r,C,u,x,y⟩:=f a Ie
  have W:=Walks.range (prog:=X.prog) (w:=X.w) (I.ok.hd m) a lo 1 n
  refine W.item i s _ _ q st λv d T D S G=>?_
  obtain⟨t,rfl⟩:=D
  have J:ap X p A H { s with heap:=d,toks:=T }:=I.turned (λb o c e=>G b o (by simpa using c) e) F r u x y
  refine#[_,Z,X5 (s:={ s with heap:=d,toks:=T }) (n:="range_iterator") S Z Z Ib #[.int (lo+i),H,J,#[t,?_],#[Z,Z],S,λb c=>(f b c).1]]
  rw[Int.mul_one]
 done:=by
  intro X g j l m i p s A H E I f st q
  subst g j l
  obtain⟨F,r,C,u,x,y⟩:=f a Ie
  exact wpAny_pyNext_range_end (I.ok.hd m) st (by have:n<=i:=q;omega) λd L=>#[Z,I.turned (t':=s.toks) (λb o c e=>L b o c e) F r u x y]
 self:=λ_ _ _ _ _ st h=>wpAny_pyIter_rangeiter st h
section
variable {X:Cx}{tg:Expr}
def uY(K:Frag)(t:TE):TI:=λb H R=>t b H λx h=>∃a,x= .ref a/\(∃c,aE K h a c)/\R (uQ K a) h
def BB(K:Frag)(t:TE):TI:=λb H R=>t b H λx h=>∃a,x= .ref a/\(∃c,aA K h a c)/\R (uf K a) h
theorem qf(c:PE X l t):PI X tg l (uY X.K t):=by
 intro P s d H R I h
 refine aL (c P s d H _ I h) λv S #[x,f,i,r,Q]=>?_
 obtain⟨a,e,⟨m,g⟩,q⟩:=Q
 subst e
 cases r
 obtain⟨j,n,p,u⟩:=i.list g
 refine FX p.isList ?_
 refine#[S.heap.objs.size,[S.heap.objs.size],_,_,f,Z,i.kept (t':=S.toks) λb o e=>Dg _ e,YD a _,#[_,Dl _ Z,Z,Z],λb k=>?_,q]
 have e:b=S.heap.objs.size:=by simpa using k
 subst e
 exact i.fpOk (Dk _) (i.hok.fresh (Dk _))
theorem zS(d:PE X l t):PI X tg l (BB X.K t):=by
 intro P s f H R I h
 refine aL (d P s f H _ I h) λv S #[x,g,i,r,Q]=>?_
 obtain⟨a,e,⟨m,j⟩,q⟩:=Q
 subst e
 cases r
 obtain⟨c,n,p,u⟩:=i.tuple j
 refine FT (show S.heap.IsTuple a c.toArray from p) ?_
 refine#[S.heap.objs.size,[S.heap.objs.size],_,_,g,Z,i.kept (t':=S.toks) λb o e=>Dg _ e,Xq a _,#[_,Dl _ Z,Z,Z],λb k=>?_,q]
 have e:b=S.heap.objs.size:=by simpa using k
 subst e
 exact i.fpOk (Dk _) (i.hok.fresh (Dk _))
theorem Z2{R:It->Hp->Prop}{lo:Int}(I:ap X p a H s)(c: -(2 ^ 62)<=lo)(d:lo < 2 ^ 62)(f: -(2 ^ 62)<=h)(g:h < 2 ^ 62)
  (q:R (tX lo (h - lo).toNat) H):wpAny (model X.prog X.w) X.A (pyIter (.ref s.heap.objs.size)) (CJ X p a tg R) E { s with heap:=s.heap.push { cls:=.type "range",data:=.fields (List.toArray [.int lo t,.int h u,.int 1 v]) },toks:=T }:=by
 refine wpAny_pyIter_range (IsRange.new ..) (small_one c d f g) ?_
 have i:ap X p a H { s with heap:=s.heap.push { cls:=.type "range",data:=.fields (List.toArray [.int lo t,.int h u,.int 1 v]) },toks:=T }:=I.kept λb o e=>Dg _ e
 refine#[(s.heap.push { cls:=.type "range",data:=.fields (List.toArray [.int lo t,.int h u,.int 1 v]) }).objs.size,[(s.heap.push { cls:=.type "range",data:=.fields (List.toArray [.int lo t,.int h u,.int 1 v]) }).objs.size],_,_,H,Z,
  i.kept (t':=T) λb o e=>Dg _ e,Xr _ lo (h - lo).toNat,?_,λb j=>?_,q]
 ·have k:lo+((0:Nat):Int)*1=lo:=by simp
  have l:(((h - lo).toNat:Nat):Int) - ((0:Nat):Int)=Builtin.Range.rangeSize lo h 1:=by rw[rangeSize_one];split<;>omega
  show IsRangeIter _ _ (lo+((0:Nat):Int)*1) ((((h - lo).toNat:Nat):Int) - ((0:Nat):Int)) 1
  rw[k,l]
  exact Dl _ Z
 ·have e:b=(s.heap.push { cls:=.type "range",data:=.fields (List.toArray [.int lo t,.int h u,.int 1 v]) }).objs.size:=by simpa using j
  subst e
  exact i.fpOk (Dk _) (i.hok.fresh (Dk _))
def A7(t:TA):TI:=λa H R=>t a H λv h=>∃j:Int,v=[.int j]/\ -(2 ^ 62)<=j/\j < 2 ^ 62/\R (tX 0 j.toNat) h
theorem jZ{a:Expr}{T:TA}{p P:Pos}(c:Gl X "range")(d:X.mg "range"=none)(f:PA X [a] T)(g:starEach [a] X.env=[(false,eval a X.env)]:=by rfl):PI X tg (.Call (.Name "range" p) [a] [] P) (A7 T):=by
 intro b s i H R I h
 refine Call_ (zu I c d boot_range (D3 (aL (f P b s i H _ I h) λu S #[v,o,k,l,Q]=>?_) g Z))
 obtain⟨j,e,Q,m,q⟩:=Q
 subst e
 cases l with
 |cons r n=>
  cases n
  obtain⟨t,rfl⟩:=r
  exact call_range_1 (Z2 k Ic Ic Q m (by simpa using q))
def yC(w:TI)(g:TG)(t:TS):TS:=λD a H=>w a H λJ d=>∃W:Nat->Nat->St->Hp->Prop,(∃m,W 0 m a d)/\∀i m a H,W i m a H->
 (J.stop i H/\D.nx a H)∨(J.go i H/\∃N:St->Hp->Prop,(∀b h,N b h->∃M,M < m/\W (i+1) M b h)/\∀x h,J.yld i H x h->g x a h λc e=>t { D with nx:=N,ct:=N,bk:=D.nx } c e)
noncomputable def im(f:List Addr)(h:Heap):List (Addr×Obj):=f.filterMap λb=>(h.get? b).map λo=>(b,o)
theorem kN{h:Heap}(H:b∈f)(e:h.get? b=some o):(b,o)∈im f h:=List.mem_filterMap.mpr #[b,H,by rw[e];rfl]
theorem YE(H:p∈im f h):p.1∈f/\h.get? p.1=some p.2:=by
 obtain⟨b,a,e⟩:=List.mem_filterMap.mp H
 cases q:h.get? b with
 |none=>rw[q]at e;cases e
 |some o=>
  rw[q]at e
  have E:(b,o)=p:=DT e
  subst E
  exact#[a,q]
theorem ap.pinned(I:ap X a c H s)(g:∀b∈f,eK X a H b)(i:∀b∈f,∃o,s.heap.get? b=some o/\∀v,o.data≠ .cell v):ap X (a++im f s.heap) c H s:=
 I.pins_of λp j=>(List.mem_append.mp j).elim (λz=>I.pin p (Dv _ z)) λz=>by
  obtain⟨h,e⟩:=YE z
  obtain⟨F,k,l,_⟩:=g p.1 h
  obtain⟨o,E,d⟩:=i p.1 h
  rw[e]at E;cases E
  exact#[e,F,k,l,d]
theorem ap.unpinned(I:ap X (a++c) b H s):ap X a b H s:=I.pins_of λp h=>I.pin p (Dv _ (Ep _ h))
theorem ke{iter:Expr}{B:List Stmt}{wi:TI}{g:TG}{tb:TS}{P:Pos}(z:PassesOwn (model X.prog X.w) X.A X.env X.xe)(hc:X.calm=true)(hi:PI X tg iter wi)(hg:PG X tg g)(c:iS X B tb)
  (hs:∀x,foldedSetIterable iter X.env x=pure x:=by intro _;rfl):PS X (.For tg iter B [] P) (yC wi g tb):=by
 intro p s σ H D I h
 refine wpAny_For (aL (hi p s σ H _ I h) λv s1 h1=>aL h1 λi0 s2 h2=>?_) hs
 obtain⟨it,F,tn,J,H2,e,I2,T,M,f2,W,⟨m0,w0⟩,C⟩:=h2
 subst e
 have S:∀{t:Hp},(∀b∈F,t b=none)->∀b∈F,eK X p t b:=λhn b c=>#[hn b c,(f2 b c).2]
 refine codeAny_forLoop_any (λn s'=>∃i j t,ap X p j t s'/\tn i s'.heap/\(∀b∈F,t b=none)/\W i n j t) ?_ m0 #[0,σ,H2,I2,M,λb c=>(f2 b c).1,w0]
 rintro n s3 ⟨i,k,L,I3,E,G,w3⟩
 rcases C i n k L w3 with ⟨stop,qn⟩ | ⟨go,N,hN,step⟩
 ·refine Fk z (aL (T.done X Z Z Z hc i p s3 k L X.xe I3 (S G) E stop) λr s4 #[O,I4]=>?_)
  subst O
  exact FS #[k,L,I4,qn]
 ·refine Fk z (aL (T.item X Z Z Z hc i p s3 k L X.xe I3 (S G) E go) λr s4 #[u,O,h4]=>?_)
  subst O
  refine Fk z (aL h4 λ_ s5 #[x,H5,I5,r5,y5,y,R]=>?_)
  have U:=I5.pinned (S R) (T.obj _ _ y)
  refine Fk z (aL (hg _ s5 k H5 x u _ U r5 (step x H5 y5)) λ_ s6 #[V,H6,I6,q6]=>?_)
  refine Fk z (aL (c _ s6 V H6 _ I6 q6) λf Y Q=>?_)
  have again:∀{a:St} {l:Hp},ap X (p++im F s5.heap) a l Y->N a l->∃m,m < n/\∃i j t,ap X p j t Y/\tn i Y.heap/\(∀b∈F,t b=none)/\W i m j t:=λ{a l} q K=>by
   obtain⟨m',hm,w7⟩:=hN a l K
   refine#[m',hm,i+1,a,l,q.unpinned,T.keep _ _ _ y λb c o e=>(q.pin (b,o) (Dv _ (Dv _ (kN c e)))).1,λb c=>?_,w7]
   obtain⟨o,e,d⟩:=T.obj _ _ y b c
   exact(q.pin (b,o) (Dv _ (Dv _ (kN c e)))).2.1
  cases f with
  |next=>obtain⟨a,l,q,K⟩:=Q;exact again q K
  |cont=>obtain⟨a,l,q,K⟩:=Q;exact again q K
  |brk=>obtain⟨a,l,q,Q⟩:=Q;exact#[a,l,q.unpinned,Q]
  |ret v=>obtain⟨x7,a,l,q,r7,Q⟩:=Q;exact#[x7,a,l,q.unpinned,r7,Q]
end
theorem Z3{K:Frag}{a:Addr}{X:List V}{g:TG}{t:TS}{D:be}{b:St}{H:Hp}(Pv:Nat->St->Hp->Prop)(k:Pv 0 b H)(l:∀i b H,i<=X.length->Pv i b H->aE K H a X)
  (n:∀i x b H,X[i]?=some x->Pv i b H->g x b H λc j=>t { D with nx:=Pv (i+1),ct:=Pv (i+1),bk:=D.nx } c j) (o:∀b H,Pv X.length b H->D.nx b H):
  ∃W:Nat->Nat->St->Hp->Prop,(∃m,W 0 m b H)/\∀i m b H,W i m b H->
   ((uQ K a).stop i H/\D.nx b H)∨((uQ K a).go i H/\∃N:St->Hp->Prop,(∀d h,N d h->∃M,M < m/\W (i+1) M d h)/\∀x h,(uQ K a).yld i H x h->g x b h λc j=>t { D with nx:=N,ct:=N,bk:=D.nx } c j):=by
 refine#[λi m b H=>m=X.length - i/\i<=X.length/\Pv i b H,#[X.length,Ie,Dt _,k],?_]
 rintro i m b H ⟨rfl,r,p⟩
 have q:=l i b H r p
 by_cases f:i < X.length
 ·refine .inr #[#[X,X[i],q,by simp [f]],Pv (i+1),λd h P=>#[X.length - (i+1),Ic,Z,f,P],λx h y=>?_]
  obtain⟨e,y⟩:=y
  subst e
  exact n i x b _ (y X q) p
 ·have e:i=X.length:=by omega
  subst e
  exact .inl #[#[X,q,Dk _],o b H p]
theorem tj{K:Frag}{a:Addr}{X:List V}{g:TG}{t:TS}{D:be}{b:St}{H:Hp}(Pv:Nat->St->Hp->Prop)(k:Pv 0 b H)(l:∀i b H,i<=X.length->Pv i b H->aA K H a X)
  (n:∀i x b H,X[i]?=some x->Pv i b H->g x b H λc j=>t { D with nx:=Pv (i+1),ct:=Pv (i+1),bk:=D.nx } c j) (o:∀b H,Pv X.length b H->D.nx b H):
  ∃W:Nat->Nat->St->Hp->Prop,(∃m,W 0 m b H)/\∀i m b H,W i m b H->
   ((uf K a).stop i H/\D.nx b H)∨((uf K a).go i H/\∃N:St->Hp->Prop,(∀d h,N d h->∃M,M < m/\W (i+1) M d h)/\∀x h,(uf K a).yld i H x h->g x b h λc j=>t { D with nx:=N,ct:=N,bk:=D.nx } c j):=by
 refine#[λi m b H=>m=X.length - i/\i<=X.length/\Pv i b H,#[X.length,Ie,Dt _,k],?_]
 rintro i m b H ⟨rfl,r,p⟩
 have q:=l i b H r p
 by_cases f:i < X.length
 ·refine .inr #[#[X,X[i],q,by simp [f]],Pv (i+1),λd h P=>#[X.length - (i+1),Ic,Z,f,P],λx h y=>?_]
  obtain⟨e,y⟩:=y
  subst e
  exact n i x b _ (y X q) p
 ·have e:i=X.length:=by omega
  subst e
  exact .inl #[#[X,q,Dk _],o b H p]
theorem KR{lo:Int}{n:Nat}{g:TG}{t:TS}{D:be}{a:St}{H:Hp}(Pv:Nat->St->Hp->Prop)(j:Pv 0 a H)
  (k:∀i a H,i < n->Pv i a H->g (.int (lo+i)) a H λb f=>t { D with nx:=Pv (i+1),ct:=Pv (i+1),bk:=D.nx } b f) (l:∀a H,Pv n a H->D.nx a H):
  ∃W:Nat->Nat->St->Hp->Prop,(∃m,W 0 m a H)/\∀i m a H,W i m a H->
   ((tX lo n).stop i H/\D.nx a H)∨((tX lo n).go i H/\∃N:St->Hp->Prop,(∀c h,N c h->∃M,M < m/\W (i+1) M c h)/\∀x h,(tX lo n).yld i H x h->g x a h λb f=>t { D with nx:=N,ct:=N,bk:=D.nx } b f):=by
 refine#[λi m a H=>m=n - i/\i<=n/\Pv i a H,#[n,Ie,Dt _,j],?_]
 rintro i m a H ⟨rfl,o,p⟩
 by_cases d:i < n
 ·refine .inr #[d,Pv (i+1),λc h P=>#[n - (i+1),Ic,Z,d,P],λx h y=>?_]
  obtain⟨e,y⟩:=y
  subst e y
  exact k i a _ d p
 ·have e:i=n:=by omega
  subst e
  exact .inl #[Dk _,l a H p]
abbrev R2:=V->V->Hp->VK->Prop
def eW(X:Cx)(f:Value->Value->Sem Value)(r:R2):Prop:=
 ∀(p:List (Addr×Obj)) (s:Shared) (a:St) (H:Hp) (x y:V) (v u:Value) (Q:VK),ap X p a H s->ay x v->ay y u->r x y H Q->
  wpAny (model X.prog X.w) X.A (f v u) (EP X p a Q) X.xe s
def BD(X:Cx)(f:Value->Sem Value)(r:V->Hp->VK->Prop):Prop:=
 ∀(p:List (Addr×Obj)) (s:Shared) (a:St) (H:Hp) (x:V) (v:Value) (Q:VK),ap X p a H s->ay x v->r x H Q->
  wpAny (model X.prog X.w) X.A (f v) (EP X p a Q) X.xe s
def dy(X:Cx)(f:Value)(r:List V->Hp->VK->Prop):Prop:=
 ∀(p:List (Addr×Obj)) (s:Shared) (a:St) (H:Hp) (x:List V) (u:List Value) (Q:VK),ap X p a H s->au x u->r x H Q->
  wpAny (model X.prog X.w) X.A (call f u) (EP X p a Q) X.xe s
def Cm(X:Cx)(r:V->Hp->(Bool->Hp->Prop)->Prop):Prop:=
 ∀(p:List (Addr×Obj)) (s:Shared) (a:St) (H:Hp) (x:V) (v:Value) (Q:Bool->Hp->Prop),ap X p a H s->ay x v->r x H Q->
  wpAny (model X.prog X.w) X.A (truthy v) (TP X p a Q) X.xe s
def dw(r:R2)(t T:TE):TE:=λa H Q=>t a H λx h=>T a h λy b=>r x y b Q
def C8(r:V->Hp->VK->Prop)(t:TE):TE:=λa H Q=>t a H λx h=>r x h Q
def rI(C:Int->Int->Prop)(g:Int->Int->V):R2:=λx y H Q=>∃i j,x= .int i/\y= .int j/\C i j/\Q (g i j) H
def uA(g:Int->Int->V):R2:=λx y H Q=>∃i j,x= .int i/\y= .int j/\Q (g i j) H
def rU(g:Int->V):V->Hp->VK->Prop:=λx H Q=>∃i,x= .int i/\Q (g i) H
section
variable {X:Cx}{a b c:Expr}{ta tb tc:TE}{pos:Pos}
theorem v6(k:PE X a ta)(l:PE X b tb){R:V->V->Hp->Prop}(I:ap X p e H s)
  (h:ta e H λx j=>tb e j λy d=>R x y d)  {f:Value->Value->Sem Value}
  (m:∀v u i x y d,ap X p e d i->ay x v->ay y u->R x y d->wpAny (model X.prog X.w) X.A (f v u) Q X.xe i):
  wpAny (model X.prog X.w) X.A (eval a X.env) (λv S=>wpAny (model X.prog X.w) X.A (eval b X.env) (λu g=>wpAny (model X.prog X.w) X.A (f v u) Q X.xe g) X.xe S) X.xe s:=by
 refine aL (k p s e H _ I h) λv n #[x,j,o,r,q]=>?_
 refine aL (l p n e j _ o q) λu i #[y,d,t,z,B]=>?_
 exact m v u i x y d t r z B
theorem jr{o:Operator}{r:R2}(d:eW X (binaryOp o) r)(e:PE X a ta)(f:PE X b tb):PE X (.BinOp a o b pos) (dw r ta tb):=by
 intro p s g H Q I h
 exact wpAny_BinOp (v6 e f I h λv u S x y i j R k q=>d p S g i x y v u Q j R k q)
theorem uP(e:BD X (unaryOp o) r)(f:PE X a ta):PE X (.UnaryOp o a pos) (C8 r ta):=by
 intro p s d H Q I h
 exact UnaryOp_ (aL (f p s d H _ I h) λv S #[x,g,i,R,q]=>e p S d g x v Q i R q)
theorem Bk{f:Value->Value->Sem Value}{C:Int->Int->Prop}{g:Int->Int->Int}
  (rule:∀(i j:Int) (t u:Tok) (s:Shared) (Q:Value->Shared->Prop) (E:Value->Shared->Prop),C i j->Q (.int (g i j) s.toks) { s with toks:=s.toks+1 }->wpAny (model X.prog X.w) X.A (f (.int i t) (.int j u)) Q E s):
  eW X f (rI C λi j=>.int (g i j)):=by
 intro p s e H x y v u Q I r R h
 obtain⟨i,j,rfl,rfl,d,q⟩:=h
 obtain⟨t,rfl⟩:=r
 obtain⟨T,rfl⟩:=R
 exact rule i j t T s _ _ d #[.int (g i j),H,I.tok _,#[_,Z],q]
theorem Ae{f:Value->Value->Sem Value}{g:Int->Int->Int}
  (rule:∀(i j:Int) (t u:Tok) (s:Shared) (Q:Value->Shared->Prop) (E:Value->Shared->Prop),Q (.int (g i j) s.toks) { s with toks:=s.toks+1 }->wpAny (model X.prog X.w) X.A (f (.int i t) (.int j u)) Q E s):
  eW X f (uA λi j=>.int (g i j)):=by
 intro p s d H x y v u Q I r R h
 obtain⟨i,j,rfl,rfl,q⟩:=h
 obtain⟨t,rfl⟩:=r
 obtain⟨T,rfl⟩:=R
 exact rule i j t T s _ _ #[.int (g i j),H,I.tok _,#[_,Z],q]
theorem yj{f:Value->Value->Sem Value}{g:Int->Int->Bool}
  (rule:∀(i j:Int) (t u:Tok) (s:Shared) (Q:Value->Shared->Prop) (E:Value->Shared->Prop),Q (.bool (g i j)) s->wpAny (model X.prog X.w) X.A (f (.int i t) (.int j u)) Q E s):
  eW X f (uA λi j=>.bl (g i j)):=by
 intro p s d H x y v u Q I r R h
 obtain⟨i,j,rfl,rfl,q⟩:=h
 obtain⟨t,rfl⟩:=r
 obtain⟨T,rfl⟩:=R
 exact rule i j t T s _ _ #[.bl (g i j),H,I,Z,q]
def Cn(i j:Int):Prop:=0<=j/\j<=1000000/\i.natAbs < 2 ^ 64
def sO(i j:Int):Prop:=(-(2 ^ 64) < i/\i < 2 ^ 64)∨(-(2 ^ 64) < j/\j < 2 ^ 64)
theorem sO.ok(h:sO i j):IntMulOk i j:=by
 rcases h with ⟨H,d⟩ | ⟨H,d⟩
 ·exact .of_left (intBits_le_64 H d)
 ·exact .of_right (intBits_le_64 H d)
theorem jV:eW X (binaryOp .Add) (uA λi j=>.int (i+j)):=Ae λ_ _ _ _ _ _ _ q=>add_int q
theorem kB:eW X (binaryOp .Sub) (uA λi j=>.int (i - j)):=Ae λ_ _ _ _ _ _ _ q=>sub_int q
theorem zd:eW X (binaryOp .Mult) (rI sO λi j=>.int (i*j)):=Bk λ_ _ _ _ _ _ _ h q=>mul_int q h.ok
theorem kM:eW X (binaryOp .Mod) (rI (λ_ j=>0 < j) λi j=>.int (i % j)):=Bk λi j _ _ _ _ _ h q=>by
 have H:(0:Int) < j:=h
 exact mod_int' Ic (by rw[Int.fmod_eq_emod_of_nonneg i Ic];exact q)
theorem JV:eW X (binaryOp .Pow) (rI Cn λi j=>.int (i ^ j.toNat)):=Bk λ_ _ _ _ _ _ _ h q=>pow_int_small h.1 h.2.1 h.2.2 q
theorem Db{f:Value->Sem Value}{g:Int->Int}
  (rule:∀(i:Int) (t:Tok) (s:Shared) (Q:Value->Shared->Prop) (E:Value->Shared->Prop),Q (.int (g i) s.toks) { s with toks:=s.toks+1 }->wpAny (model X.prog X.w) X.A (f (.int i t)) Q E s):
  BD X f (rU λi=>.int (g i)):=by
 intro p s d H x v Q I r h
 obtain⟨i,rfl,q⟩:=h
 obtain⟨t,rfl⟩:=r
 exact rule i t s _ _ #[.int (g i),H,I.tok _,#[_,Z],q]
theorem ZE:BD X (unaryOp .USub) (rU λi=>.int (-i)):=Db λ_ _ _ _ _ q=>neg_int q
end
noncomputable def yO:V->V->Bool
 | .non,.non=>true | .non,.int _=>true | .int _,.non=>true | .non,.bl _=>true | .bl _,.non=>true | .non,.str _=>true | .str _,.non=>true
 | .int _,.int _=>true | .bl _,.bl _=>true | .str _,.str _=>true | .byt _,.byt _=>true
 | .int _,.str _=>true | .str _,.int _=>true | .bl _,.str _=>true | .str _,.bl _=>true
 |_,_=>false
def Am:R2:=λx y H Q=>yO x y=true/\Q (.bl (decide (x=y))) H
def C1:R2:=λx y H Q=>yO x y=true/\Q (.bl (!decide (x=y))) H
theorem X9:decide (V.int i=V.int j)=(i==j):=by
 rw[GG]
 simp
theorem ZF:decide (V.bl i=V.bl j)=(i==j):=by
 rw[GG]
 simp
theorem Ya:decide (V.str i=V.str j)=(i==j):=by
 rw[GG]
 simp
theorem Yb:decide (V.byt i=V.byt j)=(i.toList==j.toList):=by
 rw[GG]
 cases i
 cases j
 simp
section
variable {X:Cx}{a b c:Expr}{ta tb tc:TE}{pos:Pos}
theorem jG{Q:VK}(I:ap X p d H s)(q:Q (.bl k) H)(e:k=f):EP X p d Q (.bool f) s:=by
 subst e
 exact#[.bl k,H,I,Z,q]
theorem Jl:eW X (compareOp .Eq) Am:=by
 intro p s e H x y v u Q I R r h
 obtain⟨d,q⟩:=h
 cases x with
 |non=>
  cases R
  cases y with
  |non=>cases r;exact PySem.EqNone.eq_none_none (jG I q Ie)
  |bl j=>cases r;exact PySem.EqNone.eq_none_bool (jG I q Ie)
  |int j=>obtain⟨T,rfl⟩:=r;exact PySem.EqNone.eq_none_int (jG I q Ie)
  |str j=>obtain⟨T,rfl⟩:=r;exact PySem.EqNone.eq_none_str (jG I q Ie)
  |_=>exact absurd (show false=true from d) Do
 |bl i=>
  cases R
  cases y with
  |non=>cases r;exact PySem.EqNone.eq_bool_none (jG I q Ie)
  |bl j=>cases r;exact eq_bool (jG I q ZF)
  |str j=>obtain⟨T,rfl⟩:=r;exact PySem.EqMixed.eq_bool_str (jG I q Ie)
  |_=>exact absurd (show false=true from d) Do
 |int i=>
  obtain⟨t,rfl⟩:=R
  cases y with
  |non=>cases r;exact PySem.EqNone.eq_int_none (jG I q Ie)
  |int j=>obtain⟨T,rfl⟩:=r;exact eq_int (jG I q X9)
  |str j=>obtain⟨T,rfl⟩:=r;exact PySem.EqMixed.eq_int_str (jG I q Ie)
  |_=>exact absurd (show false=true from d) Do
 |str i=>
  obtain⟨t,rfl⟩:=R
  cases y with
  |non=>cases r;exact PySem.EqNone.eq_str_none (jG I q Ie)
  |bl j=>cases r;exact PySem.EqMixed.eq_str_bool (jG I q Ie)
  |int j=>obtain⟨T,rfl⟩:=r;exact PySem.EqMixed.eq_str_int (jG I q Ie)
  |str j=>obtain⟨T,rfl⟩:=r;exact eq_str (jG I q Ya)
  |_=>exact absurd (show false=true from d) Do
 |byt i=>
  obtain⟨t,rfl⟩:=R
  cases y with
  |byt j=>obtain⟨T,rfl⟩:=r;exact PySem.W.eq_bytes (jG I q Yb)
  |_=>exact absurd (show false=true from d) Do
 |_=>cases y<;>exact absurd (show false=true from d) Do
theorem uT:eW X (compareOp .NotEq) C1:=by
 intro p s e H x y v u Q I R r h
 obtain⟨d,q⟩:=h
 cases x with
 |non=>
  cases R
  cases y with
  |non=>cases r;exact PySem.EqNone.ne_none_none (jG I q Ie)
  |bl j=>cases r;exact PySem.EqNone.ne_none_bool (jG I q Ie)
  |int j=>obtain⟨T,rfl⟩:=r;exact PySem.EqNone.ne_none_int (jG I q Ie)
  |str j=>obtain⟨T,rfl⟩:=r;exact PySem.EqNone.ne_none_str (jG I q Ie)
  |_=>exact absurd (show false=true from d) Do
 |bl i=>
  cases R
  cases y with
  |non=>cases r;exact PySem.EqNone.ne_bool_none (jG I q Ie)
  |bl j=>cases r;exact ne_bool (jG I q (El not ZF))
  |str j=>obtain⟨T,rfl⟩:=r;exact PySem.EqMixed.ne_bool_str (jG I q Ie)
  |_=>exact absurd (show false=true from d) Do
 |int i=>
  obtain⟨t,rfl⟩:=R
  cases y with
  |non=>cases r;exact PySem.EqNone.ne_int_none (jG I q Ie)
  |int j=>obtain⟨T,rfl⟩:=r;exact ne_int (jG I q (El not X9))
  |str j=>obtain⟨T,rfl⟩:=r;exact PySem.EqMixed.ne_int_str (jG I q Ie)
  |_=>exact absurd (show false=true from d) Do
 |str i=>
  obtain⟨t,rfl⟩:=R
  cases y with
  |non=>cases r;exact PySem.EqNone.ne_str_none (jG I q Ie)
  |bl j=>cases r;exact PySem.EqMixed.ne_str_bool (jG I q Ie)
  |int j=>obtain⟨T,rfl⟩:=r;exact PySem.EqMixed.ne_str_int (jG I q Ie)
  |str j=>obtain⟨T,rfl⟩:=r;exact ne_str (jG I q (El not Ya))
  |_=>exact absurd (show false=true from d) Do
 |byt i=>
  obtain⟨t,rfl⟩:=R
  cases y with
  |byt j=>obtain⟨T,rfl⟩:=r;exact PySem.W.ne_bytes (jG I q (El not Yb))
  |_=>exact absurd (show false=true from d) Do
 |_=>cases y<;>exact absurd (show false=true from d) Do
theorem Jm:eW X (compareOp .Lt) (uA λi j=>.bl (decide (i < j))):=yj λ_ _ _ _ _ _ _ q=>lt_int q
theorem qA:eW X (compareOp .Gt) (uA λi j=>.bl (decide (j < i))):=yj λ_ _ _ _ _ _ _ q=>gt_int q
theorem Zu:eW X (compareOp .GtE) (uA λi j=>.bl (decide (j<=i))):=yj λ_ _ _ _ _ _ _ q=>ge_int q
theorem aF(b:Expr)(h:o≠ .In:=by decide)(H:o≠ .NotIn:=by decide):behindInMarks o b=false:=by
 have e:(o==CmpOp.In)=false:=by cases o<;>first |rfl |exact absurd Z h
 have E:(o==CmpOp.NotIn)=false:=by cases o<;>first |rfl |exact absurd Z H
 cases b<;>simp [behindInMarks,e,E]
theorem qg(d:eW X (compareOp o) r)(e:PE X a ta)(f:PE X b tb)(g:behindInMarks o b=false):PE X (.Compare a [o] [b] pos) (dw r ta tb):=by
 intro p s i H Q I h
 exact wpAny_Compare1 (v6 e f I h λv u S x y j k R l q=>d p S i j x y v u Q k R l q) g
def gU(t:TE):TT:=λd H Q=>t d H λx h=>∃k,x= .bl k/\Q k h
theorem jz{o:CmpOp}{r:R2}(f:eW X (compareOp o) r)(g:PE X a ta)(i:PE X b tb)(j:behindInMarks o b=false):PT X (.Compare a [o] [b] pos) (gU (dw r ta tb)):=by
 intro p s d H Q I h
 refine wpAny_isTrue_Compare1 (aL (g p s d H _ I h) λv S #[x,l,m,R,q]=>aL (i p S d l _ m q) λu n #[y,t,w,A,B]=>
  aL (f p n d t x y v u _ w R A B) λc G #[z,C,D,E,k,e,F]=>?_) j
 subst e
 cases E
 exact Fc #[C,D,F]
def A3(K:Frag)(x:V)(H:Hp)(k:Bool):Prop:=
 match x with
 | .non=>k=false
 | .bl b=>k=b
 | .int i=>k=(i != 0)
 | .str y=>y.length<=sizeLine/\k=((y.length:Int) != 0)
 | .byt y=>y.size<=sizeLine/\k=((y.size:Int) != 0)
 | .ref p=>(∃d,aE K H p d/\k=!d.isEmpty)∨(∃d,aA K H p d/\k=!d.isEmpty)∨∃e,H p=some (.dK e)/\k=!e.isEmpty
 |_=>False
theorem Xt{d:Type}{k:List (d×V)}{v:List (d×Value)}(r:KV k v):(!v.isEmpty)=!k.isEmpty:=by
 cases r<;>rfl
theorem Kc(r:au x i):(!i.toArray.isEmpty)=!x.isEmpty:=by
 cases r<;>simp
theorem dE:(sizeLine:Nat) < 2 ^ 63:=by rw[Hh];decide
theorem xN:Cm X (λx H Q=>∃k,A3 X.K x H k/\Q k H):=by
 intro o s B H x v Q I R h
 obtain⟨k,e,q⟩:=h
 have C:=dE
 have D:sizeLine=16777216:=Hh
 cases x with
 |non=>
  cases R
  have E:k=false:=e
  subst E
  exact truthy_none #[H,I,q]
 |bl b=>
  cases R
  have E:k=b:=e
  subst E
  exact Fc #[H,I,q]
 |int i=>
  obtain⟨t,rfl⟩:=R
  have E:k=(i != 0):=e
  subst E
  exact PySem.P.truthy_int #[H,I,q]
 |str y=>
  obtain⟨t,rfl⟩:=R
  obtain⟨z,E⟩:y.length<=sizeLine/\k=((y.length:Int) != 0):=e
  subst E
  exact PySem.P.truthy_str Ic #[H,I.tok _,q]
 |byt y=>
  obtain⟨t,rfl⟩:=R
  obtain⟨z,E⟩:y.size<=sizeLine/\k=((y.size:Int) != 0):=e
  subst E
  exact PySem.W.truthy_bytes Ic #[H,I.tok _,q]
 |ref p=>
  cases R
  have E:(∃g,aE X.K H p g/\k=!g.isEmpty)∨(∃g,aA X.K H p g/\k=!g.isEmpty)∨∃d,H p=some (.dK d)/\k=!d.isEmpty:=e
  rcases E with ⟨g,j,E⟩ | ⟨g,j,E⟩ | ⟨d,j,E⟩
  ·subst E
   obtain⟨l,r,n,u⟩:=I.list j
   have f:=r.length
   exact wpAny_truthy_list n.isList (by simp only[Dn];omega) #[H,I.tok _,by rw[Kc r];exact q]
  ·subst E
   obtain⟨l,r,n,u⟩:=I.tuple j
   have f:=r.length
   exact truthy_tuple n (by simp only[Dn];omega) #[H,I.tok _,by rw[Kc r];exact q]
  ·subst E
   obtain⟨u,A,V,r,m⟩:d.length<=sizeLine/\(p==sysModules)=false/\∃V,KV d V/\s.heap.DictOf (aN X.prog X.w) p V:=I.hok p _ j
   have f:d.length=V.length:=Paired.length r
   exact wpAny_truthy_dict A m Ic #[H,I.tok _,by rw[Xt r];exact q]
 |_=>exact(show False from e).elim
theorem Z4(f:PE X a ta)(g:∀w,isTrue a X.env w=(do let v <- w;standAt a.pos;holding [v] (truthy v))):
  PT X a (λd H Q=>ta d H λx e=>∃k,A3 X.K x e k/\Q k e):=by
 intro p s d H Q I h
 exact isTrue_plain (aL (f p s d H _ I h) λv S #[x,i,j,r,q]=>xN p S d i x v Q j r q) (g _)
theorem zo:eW X (binaryOp .Add) (λx y H Q=>∃i j,x= .str i/\y= .str j/\i.length+j.length<=sizeLine/\Q (.str (i++j)) H):=by
 intro p s e H x y v u Q I r R h
 obtain⟨i,j,rfl,rfl,d,q⟩:=h
 obtain⟨t,rfl⟩:=r
 obtain⟨T,rfl⟩:=R
 exact add_str (λT f=>#[.str (i++j),H,I.tok _,#[_,Z],q]) d
theorem dQ(r:au [x] U):∃u,U=[u]/\ay x u:=by
 cases r with
 |cons R d=>cases d;exact#[_,Z,R]
theorem AT(r:au [x,y] U):∃u w,U=[u,w]/\ay x u/\ay y w:=by
 cases r with
 |cons R d=>
  cases d with
  |cons e f=>cases f;exact#[_,_,Z,R,e]
theorem Je:dy X (.type "int") (λx H Q=>(∃i,x=[.int i]/\Q (.int i) H)∨∃k,x=[.bl k]/\Q (.int (if k then 1 else 0)) H):=by
 intro p s d H x U Q I r h
 rcases h with ⟨i,rfl,q⟩ | ⟨k,rfl,q⟩
 ·obtain⟨u,rfl,t,rfl⟩:=dQ r
  exact call_int_int #[.int i,H,I,#[_,Z],q]
 ·obtain⟨u,rfl,R⟩:=dQ r
  cases R
  exact call_int_bool #[.int (if k then 1 else 0),H,I.tok _,#[_,Z],q]
end
structure lR(h:Heap)(x dx C:Addr)(mA:Str->Option Value):Prop where
 obj:h.get? x=some (instObj C dx)
 ns:h.Ns1 dx mA
 ne:dx≠x
theorem YF{h:Heap}(n:h.Ns1 d m):∃O,h.get? d=some O/\∀name,lookIn name O=some (m name):=by
 obtain⟨o,E,j,b,c,f,_,g⟩:=n
 refine#[o,b,λname=>?_]
 have e:=g name
 unfold nsFind findBy at e
 rw[<- Array.find?_toList]at e
 unfold lookIn
 rw[c]
 dsimp only
 split
 ·rename_i y q
  rw[q]at e
  exact El some e
 ·rename_i q
  rw[q]at e
  have a:E.toList.any (·.refKey)=false:=by
   rw[List.any_eq_false]
   intro y i
   obtain⟨z,t,H⟩:=f y (Array.mem_toList_iff.mp i)
   simp [DictEntry.refKey,H]
  have A:¬E.toList.any (·.refKey)=true:=by rw[a];exact Do
  rw[DC A]
  exact El some e
theorem lR.look(I:lR h x d C m):∃o,PySem.W.InstAt h x (instObj C d) C (some o)/\∀name,lookIn name o=some (m name):=
 let #[o,H,a]:=YF I.ns
 #[o,#[I.obj,Z,Z,H],a]
section
variable {prog:Program}{w:World}{A:Around}{E:Value->Shared->Prop}{s:Shared}{K:Frag}{x dx C f:Addr}{mA:Str->Option Value}{name:Str}{v:Value}
theorem rN{Q:Value->Shared->Prop}(X:K.In s.heap)(I:lR s.heap x dx C mA)(a:plainGet K C name=true)(b:hasDictIn K C=true)
  (c:findIn K (.ref C) name=some none) (d:mA name=some v) (H:PySem.W.handedIn v=true) (h:Q v { s with toks:=s.toks+1 }):
  wpAny (model prog w) A (getAttr (.ref x) name e) Q E s:=by
 obtain⟨o,J,g⟩:=I.look
 exact PySem.W.get_value X J (GV a).1 (PySem.W.findObj_own b c Z (by rw[g,d])) H h
theorem Z5{Q:Value×List Value->Shared->Prop}(X:K.In s.heap)(I:lR s.heap x dx C mA)(H:plainGet K C name=true)
  (a:findIn K (.ref C) name=some (some (.ref f))) (b:isFn K (.ref f)=true) (c:mA name=none) (h:Q (.ref f,[.ref x]) s):
  wpAny (model prog w) A (getMethod (.ref x) name p) Q E s:=by
 obtain⟨o,J,d⟩:=I.look
 exact PySem.W.method_fn X J (GV H).1 (GV H).2 a (beq_iff_eq.mp b) (by show(lookIn name o).map (·.isSome)=some false;rw[d,c];rfl) h
theorem sr{Q:Unit->Shared->Prop}(X:K.In s.heap)(I:lR s.heap x dx C mA)
  (k:findIn K (.ref C) "__setattr__"=some (some (.builtin "object.__setattr__"))) (l:PySem.W.plainOver K C=true) (m:PySem.W.takerIn K C name=some none) (n:hasDictIn K C=true)
  (o:PySem.Within mA N) (p:N.length<=sizeLine)
  (h:∀d,lR d x dx C (λy=>if y=name then some v else mA y)->Heap.SameBut dx s.heap d->Q () { s with heap:=d,toks:=s.toks+2 }):
  wpAny (model prog w) A (setAttr (.ref x) name v) Q E s:=by
 obtain⟨O,J,B⟩:=I.look
 refine PySem.W.set_plain X J k (PySem.W.osa_open (s:={ s with toks:=s.toks+1 }) (r:=none) X J l m λb=>?_)
 obtain⟨D,q,e⟩:=PySem.W.any_some n
 have t:s.heap.get? x=some #[.ref C,some dx,.plain,(List.toArray [])]:=I.obj
 refine Dc (De (Dc (Dc (Hf t (Dc (PySem.W.Looks.here (s:={ s with toks:=s.toks+1 }) (PySem.W.looks_clsIn X q) ?_))))))
 rw[e]
 refine De (a:=some dx) (Dc (De (Dc ?_)))
 refine wpAny_nsSet1 (s:={ s with toks:=s.toks+1 }) I.ns λd H c=>?_
 obtain⟨F,u,z,g,i,j⟩:=H.count (PySem.Within.cons name v o)
 refine Dc (wpAny_lookBehind g (by rw[i];exact pastItsLine_dict (Ds j (by rw[DU];omega))) ?_)
 exact De (h _ #[(c.2 _ (DQ I.ne)).trans I.obj,H,I.ne] c)
theorem Z6{R:Result->Shared->Prop}(X:K.In s.heap)(H:PySem.W.makesIn K C=true)
  (b:findIn K (.ref C) "__init__"=some (some (.ref f))) (c:typeIn K (.ref f)=some (.type "function"))
  (h:codeAny (model prog w) (A.under (.builtin "type.__call__" #[.ref C::a,k])) (.call (.ref f) #[.ref (s.heap.objs.size+1)::a,k]) (PySem.W.InitBack (s.heap.objs.size+1) R)
   { s with heap:=(s.heap.push emptyDict).push (instObj C s.heap.objs.size) }):
  codeAny (model prog w) A (.call (.ref C) #[a,k]) R s:=by
 obtain⟨e,g,d,t,os⟩:=s
 exact PySem.W.make_core (PySem.W.makes_of X H) (PySem.W.looks_findIn X b) (λS=>PySem.W.bind_fn X S c) (.inl Z) h
end
noncomputable def dH(f:Str)(v:V):List (Str×V)->List (Str×V)
 | []=>[(f,v)]
 | (g,x)::r=>if g=f then (g,v)::r else (g,x)::dH f v r
theorem Jp(f g:Str)(v:V):∀F:List (Str×V),(dH f v F).lookup g=if g=f then some v else F.lookup g
 | []=>by
  show List.lookup g [(f,v)]=_
  by_cases h:g=f
  ·have H:(g==f)=true:=beq_iff_eq.mpr h
   simp only[List.lookup,H,DB h]
  ·have H:(g==f)=false:=beq_eq_false_iff_ne.mpr h
   simp only[List.lookup,H,DC h]
 | (k,x)::r=>by
  have i:=Jp f g v r
  rw[show dH f v ((k,x)::r)=(if k=f then (k,v)::r else (k,x)::dH f v r) from Z]
  by_cases a:k=f
  ·rw[DB a]
   by_cases h:g=k
   ·have H:(g==k)=true:=beq_iff_eq.mpr h
    simp only[List.lookup,H,DB (h.trans a)]
   ·have H:(g==k)=false:=beq_eq_false_iff_ne.mpr h
    simp only[List.lookup,H,DC (λe:g=f=>h (e.trans a.symm))]
  ·rw[DC a]
   by_cases h:g=k
   ·have H:(g==k)=true:=beq_iff_eq.mpr h
    simp only[List.lookup,H,DC (λe:g=f=>a (h.symm.trans e))]
   ·have H:(g==k)=false:=beq_eq_false_iff_ne.mpr h
    simp only[List.lookup,H]
    exact i
theorem Jf(f:Str)(v:V):∀F:List (Str×V),f∈(dH f v F).map (·.1)/\∀g,g∈F.map (·.1)->g∈(dH f v F).map (·.1)
 | []=>#[by simp [dH],λg h=>by simp at h]
 | (k,x)::r=>by
  obtain⟨i,I⟩:=Jf f v r
  rw[show dH f v ((k,x)::r)=(if k=f then (k,v)::r else (k,x)::dH f v r) from Z]
  by_cases H:k=f
  ·rw[DB H]
   subst H
   exact#[Ie,λg h=>by simpa using h]
  ·rw[DC H]
   refine#[?_,λg h=>?_]
   ·rw[Et]
    exact DK _ i
   ·rw[Et]at h ⊢
    rcases List.mem_cons.mp h with e |e
    ·exact List.mem_cons.mpr (.inl e)
    ·exact DK _ (I g e)
theorem Jq(f:Str)(v:V):∀F:List (Str×V),(dH f v F).length<=F.length+1
 | []=>by simp [dH]
 | (k,x)::r=>by
  have i:=Jq f v r
  rw[show dH f v ((k,x)::r)=(if k=f then (k,v)::r else (k,x)::dH f v r) from Z]
  by_cases h:k=f
  ·rw[DB h,DU,DU];omega
  ·rw[DC h,DU,DU];omega
theorem dB.some_of{v:V}{o:Option Value}(r:dB (some v) o):∃u,o=some u/\ay v u:=by
 cases o with
 |none=>exact(show False from r).elim
 |some u=>exact#[u,Z,r]
theorem dB.none_of(r:dB none o):o=none:=by
 cases o with
 |none=>rfl
 |some u=>exact(show False from r).elim
theorem YG(r:ay v u):PySem.W.handedIn u=true:=by
 cases v with
 |non=>cases (show u=Value.none from r);rfl
 |bl b=>cases (show u=Value.bool b from r);rfl
 |int i=>obtain⟨t,e⟩:=(show ∃t,u=Value.int i t from r);cases e;rfl
 |str x=>obtain⟨t,e⟩:=(show ∃t,u=Value.str x t from r);cases e;rfl
 |byt b=>obtain⟨t,e⟩:=(show ∃t,u=Value.bytes b t from r);cases e;rfl
 |flt b=>obtain⟨t,e⟩:=(show ∃t,u=Value.float b t from r);cases e;rfl
 |ref a=>cases (show u=Value.ref a from r);rfl
 |ty n=>cases (show u=Value.type n from r);rfl
section
variable {P:Program}{w:World}{H H':Hp}{h h':Heap}{a C dx:Addr}{fs fs':List (Str×V)}
theorem JD(b:dR P w H h)(e:H a=some (.ins C dx fs)):∃m,lR h a dx C m/\(∀f,dB (fs.lookup f) (m f))/\PySem.Within m (fs.map (·.1))/\fs.length<=1000/\H dx=some (.own a):=by
 obtain⟨d,z,N,o,m,n,r,q⟩:=(show aG P w H h a (.ins C dx fs) from b a _ e)
 exact#[m,#[o,n,N],r,q,z,d]
end
structure mY(K:Frag)(C:Addr):Prop where
 pg:plainGet K C Str.empty=true
 hd:hasDictIn K C=true
 po:PySem.W.plainOver K C=true
 sa:findIn K (.ref C) "__setattr__"=some (some (.builtin "object.__setattr__"))
theorem mY.get{K:Frag}(c:mY K C)(f:Str):plainGet K C f=true:=c.pg
def bj(K:Frag)(C:Addr)(f:Str):Prop:=findIn K (.ref C) f=some none
theorem bj.taker{K:Frag}(n:bj K C f):PySem.W.takerIn K C f=some none:=by
 unfold PySem.W.takerIn
 rw[show findIn K (.ref C) f=some none from n]
 rfl
structure bK(K:Frag)(C:Addr)(m:Str)(f:Addr):Prop where
 at_:findIn K (.ref C) m=some (some (.ref f))
 fn:isFn K (.ref f)=true
 kp:keepIn K (.ref f)=true
section
variable {X:Cx}{pins:List (Addr×Obj)}{σ:St}{H:Hp}{s:Shared}{a C dx:Addr}{fs:List (Str×V)}{f:Str}{v:V}{A:Around}{E:Value->Shared->Prop}
theorem Kd{Q:Value->Shared->Prop}(I:ap X pins σ H s)(e:H a=some (.ins C dx fs))(c:mY X.K C)(n:bj X.K C f)(l:fs.lookup f=some v)
  (h:∀u S,ap X pins σ H S->ay v u->Q u S):wpAny (model X.prog X.w) A (getAttr (.ref a) f b) Q E s:=by
 obtain⟨m,O,r,_,_,_⟩:=JD I.hok e
 obtain⟨u,d,R⟩:=dB.some_of (v:=v) (o:=m f) (by rw[<- l];exact r f)
 exact rN I.kIn O (c.get f) c.hd n d (YG R) (h u _ (I.tok _) R)
theorem Ke{Q:Value×List Value->Shared->Prop}(I:ap X pins σ H s)(e:H a=some (.ins C dx fs))(c:mY X.K C)(k:bK X.K C m g)(l:fs.lookup m=none)
  (h:Q (.ref g,[.ref a]) s):wpAny (model X.prog X.w) A (getMethod (.ref a) m p) Q E s:=by
 obtain⟨M,O,r,_,_,_⟩:=JD I.hok e
 have b:M m=none:=dB.none_of (by rw[<- l];exact r m)
 exact Z5 I.kIn O (c.get m) k.at_ k.fn b h
theorem Kf{Q:Unit->Shared->Prop}(I:ap X pins σ H s)(e:H a=some (.ins C dx fs))(c:mY X.K C)(n:bj X.K C f)(F:fs.length < 1000)(R:ay y u)
  (h:∀S,ap X pins σ (af H a (.ins C dx (dH f y fs))) S->Q () S):wpAny (model X.prog X.w) A (setAttr (.ref a) f u) Q E s:=by
 obtain⟨m,O,r,W,_,i⟩:=JD I.hok e
 have j:(fs.map (·.1)).length<=sizeLine:=by rw[Di,Hh];omega
 refine sr I.kIn O c.sa c.po n.taker c.hd W j λk d l=>h _ ?_
 have p:∃o,k.get? dx=some o:=let #[o,_,_,t,_]:=d.ns;#[o,t]
 refine I.write (x:=a) (e:=dx) (by rw[e];exact True.intro) (.inr i) (λb q B z=>(l.2 b B).trans z) p ?_
 refine#[by rw[ji O.ne];exact i,?_,O.ne,d.obj,_,d.ns,λg=>?_,λg D=>?_]
 ·have:=Jq f y fs;omega
 ·show dB ((dH f y fs).lookup g) (if g=f then some u else m g)
  rw[Jp]
  by_cases q:g=f
  ·rw[DB q,DB q];exact R
  ·rw[DC q,DC q];exact r g
 ·by_cases q:g=f
  ·rw[q];exact(Jf f y fs).1
  ·refine(Jf f y fs).2 g (W g λz=>D ?_)
   show(if g=f then some u else m g)=none
   rw[DC q];exact z
theorem ap.made(I:ap X pins σ H s):ap X pins σ (af (af H s.heap.objs.size (.own (s.heap.objs.size+1))) (s.heap.objs.size+1) (.ins C s.heap.objs.size []))
  { s with heap:=(s.heap.push emptyDict).push (instObj C s.heap.objs.size) }:=by
 have c:(s.heap.push emptyDict).get? s.heap.objs.size=some emptyDict:=Dl s.heap Z
 have d:((s.heap.push emptyDict).push (instObj C s.heap.objs.size)).get? (s.heap.objs.size+1)=some (instObj C s.heap.objs.size):=by
  have:=Dl (s.heap.push emptyDict) (o:=instObj C s.heap.objs.size) Z
  rwa [D5]at this
 have g:(s.heap.push emptyDict).Ns s.heap.objs.size (λ_=>none):=#[emptyDict,(List.toArray []),_,c,Z,(λe h=>absurd h Ie),λ_=>Z]
 have i:=I.laid (a:=s.heap.objs.size) (o:=.own (s.heap.objs.size+1)) (h':=s.heap.push emptyDict) (t':=s.toks) (λb u q=>Dg _ q) (Dk _) #[_,c]
 refine i.laid (a:=s.heap.objs.size+1) (o:=.ins C s.heap.objs.size []) (t':=s.toks) (λb u q=>Dg _ q) (Hl (D5 _ _)) ?_
 have n:s.heap.objs.size≠s.heap.objs.size+1:=Dp (Eo _)
 refine#[by rw[ji n,jc],Dt _,n,d,λ_=>none,(Heap.Ns1.of_empty g).at λo q=>Dg _ q,λ_=>True.intro,λy j=>absurd Z j]
theorem ue(c:attributeBase e f b (eval e b)=eval e b)
  (h:wpAny (model p w) A (eval e b) (λo S=>wpAny (model p w) A (getAttr o f true) Q E S) E s):wpAny (model p w) A (eval (.Attribute e f d) b) Q E s:=
 Attribute_any_ h (by rw[arm_eval_Attribute,c])
end
def Cq(K:Frag)(t:TE)(f:Str):TE:=λb H Q=>t b H λx h=>∃a C d F v,x= .ref a/\h a=some (.ins C d F)/\mY K C/\bj K C f/\F.lookup f=some v/\Q v h
def B0(K:Frag)(t T:TE)(f:Str):TS:=λD b H=>T b H λy c=>t b c λx h=>∃a C d F,x= .ref a/\h a=some (.ins C d F)/\mY K C/\bj K C f/\F.length < 1000/\
 D.nx b (af h a (.ins C d (dH f y F)))
def A5(X:Cx)(o:Operator)(r:V->V->Hp->VK->Prop):Prop:=
 ∀(p:List (Addr×Obj)) (s:Shared) (a:St) (H:Hp) (x y:V) (u v:Value) (Q:VK),ap X p a H s->ay x u->ay y v->r x y H Q->wpAny (model X.prog X.w) X.A (inplaceOp o u v) (EP X p a Q) X.xe s
def sS(K:Frag)(t T:TE)(r:V->V->Hp->VK->Prop)(f:Str):TS:=λD b H=>t b H λx h=>∃a C g c v,x= .ref a/\h a=some (.ins C g c)/\mY K C/\bj K C f/\c.lookup f=some v/\
 T b h λy i=>r v y i λz e=>∃d F,e a=some (.ins C d F)/\F.length < 1000/\D.nx b (af e a (.ins C d (dH f z F)))
section
variable {X:Cx}{o e value:Expr}{f:Str}{pos pos' tpos:Pos}{ta tv:TE}
theorem ze(b:PE X e ta)(d:attributeBase e f X.env (eval e X.env)=eval e X.env):PE X (.Attribute e f pos) (Cq X.K ta f):=by
 intro p s g H Q I h
 refine ue d (aL (b p s g H _ I h) λu S #[x,i,j,r,a,C,D,F,v,E,k,c,n,l,q]=>?_)
 subst E
 obtain rfl:u=Value.ref a:=r
 exact Kd j k c n l λU t m R=>#[v,i,m,R,q]
theorem qr(d:PE X o ta)(g:PE X value tv)(i:swapsWith value (some (.Attribute o f pos')) pos.line X.env=pure false):PS X (.Assign [.Attribute o f pos'] value pos) (B0 X.K ta tv f):=by
 intro p s b H D I h
 refine plainObj_wpAny_Assign_Attribute (aL (g p s b H _ I h) λu S #[y,j,k,r,q]=>aL (d p S b j _ k q) λO w #[x,z,m,R,a,C,A,F,E,t,c,n,l,Q]=>?_) i
 subst E
 obtain rfl:O=Value.ref a:=R
 exact Kf m t c n l r λB v=>#[b,_,v,Q]
theorem YH{O:Operator}{r:V->V->Hp->VK->Prop}(g:PE X o ta)(i:PE X value tv)(d:A5 X O r):PS X (.AugAssign (.Attribute o f tpos) O value pos) (sS X.K ta tv r f):=by
 intro p s b H D I h
 refine wpAny_AugAssign_AttributeAny (aL (g p s b H _ I h) λj s1 #[x,k,m,R,a,C,dx,fs,v,t,w,c,n,l,q]=>?_)
 subst t
 obtain rfl:j=Value.ref a:=R
 refine Kd m w c n l λu S A B=>aL (i p S b k _ A q) λW F #[y,G,J,L,Q]=>aL (d p F b G v y u W _ J B L Q) λw4 s4 #[z,H3,M,N,P,T,E,U,Y]=>?_
 exact Kf M E c n U N λs5 I5=>#[b,_,I5,Y]
def BV:V->V->Hp->VK->Prop:=λx y H Q=>∃i j,x= .int i/\y= .int j/\Q (.int (i+j)) H
theorem vO:A5 X .Add BV:=by
 rintro p s a H x y u v Q I r R ⟨i,j,rfl,rfl,q⟩
 obtain⟨t,rfl⟩:=(show ∃t,u=Value.int i t from r)
 obtain⟨T,rfl⟩:=(show ∃T,v=Value.int j T from R)
 exact PyProof.Rows.iadd_int #[.int (i+j),H,I.tok _,#[_,Z],q]
end
section
variable {X:Cx}{pins:List (Addr×Obj)}{σ:St}{H:Hp}{s:Shared}{A:Around}{E:Value->Shared->Prop}{Q:Value->Shared->Prop}{c:Value}{b:Bool}
inductive dG(K:Frag)(H:Hp):V->Value->Prop where
 |non:dG K H .non (.type "NoneType")
 |bl (x:Bool):dG K H (.bl x) (.type "bool")
 |int (i:Int):dG K H (.int i) (.type "int")
 |str (x:Str):dG K H (.str x) (.type "str")
 |flt (x:UInt64):dG K H (.flt x) (.type "float")
 |lst {a:Addr} {xs:List V} (e:H a=some (.lst xs)):dG K H (.ref a) (.type "list")
 |frz {a:Addr} {o:Obj} {xs:List V} (e:H a=some (.frz o (.lst xs))):dG K H (.ref a) (.type "list")
 |tup {a:Addr} {xs:List V} (e:H a=some (.tup xs)):dG K H (.ref a) (.type "tuple")
 |dK {a:Addr} {kvs:List (aY×V)} (e:H a=some (.dK kvs)):dG K H (.ref a) (.type "dict")
 |dT {a:Addr} {kvs:List (List aY×V)} (e:H a=some (.dT kvs)):dG K H (.ref a) (.type "dict")
 |ins {a C dx:Addr} {fs:List (Str×V)} (e:H a=some (.ins C dx fs)) (cl:mY K C) (ha:findIn K (.ref C) "__class__"=some (some (.builtin "object.__class__")))
   (hn:specialIn K (.builtin "object.__class__") "__get__"=some (some (.builtin "getset_descriptor.__get__"))) (htk:PySem.W.takesIn K (.builtin "object.__class__")=some true)
   (hm:mroIn K C (.type "object")=some true):dG K H (.ref a) (.ref C)
theorem YI(I:ap X pins σ H s)(r:ay x u)(T:dG X.K H x t)(e:kitOne X.K t c=some b)(h:∀v,Q (.bool b) { s with toks:=v }):
  wpAny (model X.prog X.w) A (call (.builtin "isinstance") [u,c]) Q E s:=by
 cases T with
 |non=>cases (show u=Value.none from r);exact Gm PySem.W.kitx_none I.kIn True.intro e (λz=>nomatch z) h
 |bl y=>cases (show u=Value.bool y from r);exact Gm PySem.W.kitx_bool I.kIn True.intro e (λz=>nomatch z) h
 |int i=>obtain⟨t,q⟩:=(show ∃t,u=Value.int i t from r);cases q;exact Gm PySem.W.kitx_int I.kIn True.intro e (λz=>nomatch z) h
 |str y=>obtain⟨t,q⟩:=(show ∃t,u=Value.str y t from r);cases q;exact Gm PySem.W.kitx_str I.kIn True.intro e (λz=>nomatch z) h
 |flt y=>obtain⟨t,q⟩:=(show ∃t,u=Value.float y t from r);cases q;exact Gm PySem.W.kitx_float I.kIn True.intro e (λz=>nomatch z) h
 | @lst a g d=>
  cases (show u=Value.ref a from r)
  obtain⟨_,_,n,_,f⟩:=(show aG X.prog X.w H s.heap a (.lst g) from I.hok a _ d)
  exact Gm PySem.W.kitx_list I.kIn #[_,f,Z] e (λz=>nomatch z) h
 | @frz a B g d=>
  cases (show u=Value.ref a from r)
  obtain⟨_,_,_,n,_,f⟩:=(show aG X.prog X.w H s.heap a (.frz B (.lst g)) from I.hok a _ d)
  exact Gm PySem.W.kitx_list I.kIn #[_,f,Z] e (λz=>nomatch z) h
 | @tup a g d=>
  cases (show u=Value.ref a from r)
  obtain⟨_,_,_,p⟩:=(show aG X.prog X.w H s.heap a (.tup g) from I.hok a _ d)
  obtain⟨o,f,j,_⟩:=p
  exact Gm PySem.W.kitx_tuple I.kIn #[o,f,j] e (λz=>nomatch z) h
 | @dK a k d=>
  cases (show u=Value.ref a from r)
  obtain⟨_,_,V,_,p⟩:=(show aG X.prog X.w H s.heap a (.dK k) from I.hok a _ d)
  obtain⟨o,D,F,f,j,_⟩:=p
  exact Gm PySem.W.kitx_dict I.kIn #[o,f,j.1] e (λz=>nomatch z) h
 | @dT a k d=>
  cases (show u=Value.ref a from r)
  obtain⟨_,_,g,_,o,D,F,f,j,_⟩:=(show aG X.prog X.w H s.heap a (.dT k) from I.hok a _ d)
  exact Gm PySem.W.kitx_dict I.kIn #[o,f,j.1] e (λz=>nomatch z) h
 | @ins a C N P d m G L l M=>
  cases (show u=Value.ref a from r)
  obtain⟨R,O,_⟩:=JD I.hok d
  obtain⟨S,J,_⟩:=O.look
  exact Gm (PySem.W.kitx_own (m.get _) m.hd G L l M) I.kIn J e (λz=>nomatch z) h
end
structure bq(k:Nat)(A:Around):Prop where
 hd:A.handled=none
 dp:A.depth+3*k+5 < recursionLimit
 un:A.units+16*k+200 < cLine
theorem bq.mono(r:bq k A)(h:j<=k):bq j A:=#[r.hd,by have:=r.dp;omega,by have:=r.un;omega]
theorem bq.deeper(r:bq (k+1) A)(e:Env):bq k (A.deeper e):=
 #[r.hd,by have:=r.dp;show A.depth+1+3*k+5 < _;omega,by have:=r.un;show A.units+3+16*k+200 < _;omega]
theorem Xu{A:Around}:(A.under (.builtin "type.__call__" #[.ref C::u,k])).depth=A.depth+1:=by
 first |rfl |simp [Around.under,Code.weight,Code.isCreation,Code.isGuard,Code.isCaller,Code.frames,Code.isFrame,guardIds]
theorem Xv{A:Around}:(A.under (.builtin "type.__call__" #[.ref C::u,k])).units=A.units+1:=by
 first |rfl |simp [Around.under,Code.cUnits,Code.frames,Code.isFrame]
theorem bq.make(r:bq (k+1) A)(C:Addr)(u:List Value)(K:List (Str×Value)):bq k (A.under (.builtin "type.__call__" #[.ref C::u,K])):=
 #[r.hd,by have:=r.dp;rw[Xu];omega,by have:=r.un;rw[Xv];omega]
theorem bq.depth(r:bq k A):A.depth < recursionLimit:=by have:=r.dp;omega
theorem bq.units(r:bq k A):A.units+64 < cLine:=by have:=r.un;omega
def aI:TA:=λ_ H Q=>Q [] H
def al(t:TE)(T:TA):TA:=λa H Q=>t a H λx h=>T a h λX b=>Q (x::X) b
section
variable {X:Cx}{e:Expr}{es:List Expr}{te:TE}{t:TA}{pos:Pos}
theorem jb:PA X [] aI:=λ_ _ _ _ H Q I h=>Ft #[[],H,I,.nil,h]
theorem ja(b:PE X e te)(c:PA X es t)(d:starEach (e::es) X.env=(false,eval e X.env)::starEach es X.env:=by rfl):PA X (e::es) (al te t):=by
 intro pos p s a H Q I h
 rw[d]
 show wpAny _ _ (spliced ((false,eval e X.env)::backTo pos (starEach es X.env))) _ _ s
 refine EY (aL (b p s a H _ I h) λu S #[x,f,i,r,q]=>?_)
 exact aL (c pos p S a f _ i q) λU m #[g,j,k,R,l]=>#[x::g,j,k,.cons r R,l]
def bE(t:TA):TE:=λa H Q=>t a H λx h=>x.length<=sizeLine/\∀p,h p=none->Q (.ref p) (af h p (.tup x))
def i7(t:TA):TE:=λa H Q=>t a H λx h=>x.length<=sizeLine/\∀p,h p=none->Q (.ref p) (af h p (.lst x))
theorem jh{x}(h:PA X es t):PE X (.Tuple es x pos) (bE t):=by
 intro p s c H Q I d
 refine wpAny_Tuple_spliced (aL (h pos p s c H _ I d) λU S #[f,a,i,r,z,q]=>#[by rw[<- r.length];exact z,?_])
 have g:a S.heap.objs.size=none:=i.hok.fresh (Dk _)
 refine#[.ref S.heap.objs.size,af a S.heap.objs.size (.tup f),i.laid (t':=S.toks) (λb u e=>Dg _ e) (Dk _) ?_,Z,q _ g]
 exact#[z,U,r,#[_,Dl _ Z,Z,_,Z]]
theorem jC(h:PA X es t):PE X (.List es pos) (i7 t):=by
 intro p s c H Q I d
 refine wpAny_List_spliced (aL (h pos p s c H _ I d) λU S #[x,a,i,r,z,q]=>#[by rw[<- r.length];exact z,?_])
 have f:a S.heap.objs.size=none:=i.hok.fresh (Dk _)
 refine#[.ref S.heap.objs.size,af a S.heap.objs.size (.lst x),i.laid (t':=S.toks) (λb u e=>Dg _ e) (Dk _) ?_,Z,q _ f]
 exact#[z,U,0,r,Dl _ Z]
end
abbrev Sp:=List V->Hp->VK->XK->Prop
abbrev mX:=List Env->Hp->Shared->XK->Value->Shared->Prop
structure lX(P:Program)(w:World)(K:Frag)(mg:Str->Option Value)(base:Heap)(A:Around)(outer:List Env)(s:Shared)(H:Hp):Prop where
 frames:A.frames=some outer
 mod:Mod K mg base
 bs:∀b o,base.get? b=some o->s.heap.get? b=some o/\H b=none
 bsz:base.objs.size<=s.heap.objs.size
 funs:s.heap.FunFrames base outer
 frf:∀b∈gX outer,H b=none
 hok:dR P w H s.heap
 bare:AllBare s.gens
def CE(o:List Env)(P:Program)(w:World)(H:Hp)(s:Shared)(Q:VK)(u:Value)(S:Shared):Prop:=
 ∃v h,S.os=s.os/\AllBare S.gens/\Un (gX o) [] H h s.heap S.heap/\dR P w h S.heap/\ay v u/\Q v h
def CR(C:mX)(o:List Env)(P:Program)(w:World)(H:Hp)(s:Shared)(Q:VK)(E:XK)(r:Result)(S:Shared):Prop:=
 match r with
 | .ok (.ret u)=>CE o P w H s Q u S
 | .ok _=>False
 | .error e=>C o H s E e S
structure ai(P:Program)(w:World)(K:Frag)(mg:Str->Option Value)(base:Heap)(CX:mX)(k:Nat)(f:Addr)(fd:FuncData)(ps:List Str)(sp:Sp):Prop where
 len:∀vs H Q E,sp vs H Q E->vs.length=ps.length
 run:∀(A:Around) (outer:List Env) (s:Shared) (H:Hp) (args:Args) (us:List Value) (vs:List V) (Q:VK) (E:XK),bq k A->lX P w K mg base A outer s H->BindsTo s fd args (ps.zip us)->au vs us->sp vs H Q E->
  codeAny (model P w) A (.call (.ref f) args) (CR CX outer P w H s Q E) s
theorem lX.make{P:Program}{K:Frag}(e:lX P w K m b A o s H)(C:Addr)(u:List Value)(k:List (Str×Value)):
  lX P w K m b (A.under (.builtin "type.__call__" #[.ref C::u,k])) o s H:=#[by first |exact e.frames | (simpa [Around.under,Code.envs,Code.isFrame,pushEnvs] using e.frames),e.mod,e.bs,e.bsz,e.funs,e.frf,e.hok,e.bare]
section
variable {X:Cx}{pins:List (Addr×Obj)}{σ:St}{H:Hp}{s s':Shared}
theorem ap.env0(I:ap X pins σ H s):lX X.prog X.w X.K X.mg X.base X.A X.stack s H:=
 #[I.ok.frames,I.ok.mod,I.bs,Ds I.ok.bsz I.sz,I.stack,I.stkFree,I.hok,I.bare]
theorem ap.after(I:ap X pins σ H s)(h:CE X.stack X.prog X.w H s Q u s'):EP X pins σ Q u s':=by
 obtain⟨v,c,os,B,U,a,r,q⟩:=h
 obtain⟨e,g,d,t,o⟩:=s'
 obtain rfl:o=s.os:=os
 exact#[v,c,I.call (h':=e) (g':=g) (d':=d) (t':=t) (ch:=[]) U a B (λb z=>absurd z Ie),r,q]
end
def dq(s:Sp)(d:List V)(E:XK)(t:TA):TE:=λa H Q=>t a H λv h=>s (v++d) h Q E
def oN(C:Addr)(m:Str)(s:Sp)(d:List V)(E:XK)(T:TE)(t:TA):TE:=λb H Q=>T b H λx h=>∃a D f,x= .ref a/\h a=some (.ins C D f)/\f.lookup m=none/\
 t b h λv c=>s (x::(v++d)) c Q E
def Ag(C:Addr)(s:Sp)(D:List V)(E:XK)(t:TA):TE:=λa H Q=>t a H λb h=>∀x d,h x=none->h d=none->d≠x->
 s (.ref x::(b++D)) (af (af h d (.own x)) x (.ins C d [])) (λv c=>v= .non/\Q (.ref x) c) E
def aw(K:Frag)(f:FuncData)(p:List Str)(d:List Value):Prop:=
 ∀(s:Shared) (u:List Value),K.In s.heap->(u++d).length=p.length->BindsTo s f #[u,[]] (p.zip (u++d))
theorem aw.all{K:Frag}{p:List Str}(h:∀u:List Value,u.length=p.length->bindArgs f #[u,[]]=pure (p.zip u)):aw K f p []:=λs u _ H=>by
 rw[GF]at H ⊢
 exact .of_eq (h u H)
def cV(C:mX)(X:Cx)(E:XK):Prop:=∀(p:List (Addr×Obj)) (a:St) (H:Hp) (s:Shared) (e:Value) (S:Shared),ap X p a H s->C X.stack H s E e S->X.xe e S
section
variable {X:Cx}{CX:mX}{k:Nat}{f C:Addr}{fd:FuncData}{ps:List Str}{sp:Sp}{dvs:List V}{ds:List Value}{E:XK}{x m:Str}{p pos apos:Pos}{e o:Expr}{es:List Expr}{ta:TE}{t:TA}
theorem Qk{us:List Value}{vs:List V}(F:ai X.prog X.w X.K X.mg X.base CX k f fd ps sp)(d:bq k X.A)(g:aw X.K fd ps ds)(i:au dvs ds)(j:cV CX X E)
  (I:ap X a c H s) (r:au vs us) (h:sp (vs++dvs) H Q E):wpAny (model X.prog X.w) X.A (call (.ref f) us) (EP X a c Q) X.xe s:=by
 have R:au (vs++dvs) (us++ds):=r.append i
 have l:(us++ds).length=ps.length:=by rw[<- R.length];exact F.len _ _ _ _ h
 refine wpAny_call (FF (F.run X.A X.stack s H #[us,[]] (us++ds) (vs++dvs) Q E d I.env0 (g s us I.kIn l) R h) λr S b=>?_)
 cases r with
 |error e=>exact j a c H s e S I b
 |ok n=>
  cases n with
  |ret u=>exact I.after b
  |next=>exact False.elim b
  |brk=>exact False.elim b
  |cont=>exact False.elim b
theorem kl(F:ai X.prog X.w X.K X.mg X.base CX k f fd ps sp)(c:bq k X.A)(d:Gl X x)(g:X.mg x=some (.ref f))(j:keepIn X.K (.ref f)=true)(l:aw X.K fd ps ds)(n:au dvs ds)(u:cV CX X E)
  (v:PA X (e::es) t) (a:(x==("__debug__":Str))=false:=by decide) (y:starEach (e::es) X.env=(false,eval e X.env)::starEach es X.env:=by rfl) (b:(backTo pos (starEach es X.env)).any (·.1)=false:=by rfl):
  PE X (.Call (.Name x p) (e::es) [] pos) (dq sp dvs E t):=by
 intro P s z H Q I h
 refine Ed (kX I d g ?_ a)
 refine HK (h₀:=X.base) I.ok.mod.kin j (aL (v pos P s z H _ I h) λU S #[B,D,i,r,q]=>#[i.kIn,?_]) y b
 exact Qk F c l n u i r q
theorem kJ(v:PE X o ta)(c:mY X.K C)(g:bK X.K C m f)(F:ai X.prog X.w X.K X.mg X.base CX k f fd ps sp)(y:bq k X.A)(z:aw X.K fd ps ds)(B:au dvs ds)(D:cV CX X E)(G:PA X (e::es) t)
  (b:starEach (e::es) X.env=(false,eval e X.env)::starEach es X.env:=by rfl) (d:(backTo pos (starEach es X.env)).any (·.1)=false:=by rfl)
  (J:eval (.Call (.Attribute o m apos) (e::es) [] pos) X.env=(do
   let O <- eval o X.env
   standAt apos.atName
   let (f,first) <- holding [O] (getMethod O m pl)
   callWith pos f first (backTo pos (starEach (e::es) X.env)) (backToKw pos (keywordEach [] X.env))):=by rfl):
  PE X (.Call (.Attribute o m apos) (e::es) [] pos) (oN C m sp dvs E ta t):=by
 intro P s i H Q I h
 refine GJ (pl:=pl) (aL (v P s i H _ I h) λu S #[x,L,j,R,a,U,W,M,N,l,q]=>?_) J
 subst M
 obtain rfl:u=Value.ref a:=R
 refine Ke j N c g l ?_
 refine HK (first:=[.ref a]) (h₀:=X.base) I.ok.mod.kin g.kp (aL (G pos P S i L _ j q) λus Y #[vs,H2,n,r,T]=>#[n.kIn,?_]) b d
 exact Qk (us:=.ref a::us) (vs:=.ref a::vs) F y z B D n (.cons Z r) T
theorem Z7(d:PE X o ta)(c:mY X.K C)(b:bK X.K C m f)(F:ai X.prog X.w X.K X.mg X.base CX k f fd ps sp)(g:bq k X.A)(j:aw X.K fd ps ds)(n:au dvs ds)(r:cV CX X E)
  (v:eval (.Call (.Attribute o m apos) [] [] pos) X.env=(do
   let O <- eval o X.env
   standAt apos.atName
   let (f,first) <- holding [O] (getMethod O m pl)
   callWith pos f first (backTo pos (starEach [] X.env)) (backToKw pos (keywordEach [] X.env))):=by rfl):
  PE X (.Call (.Attribute o m apos) [] [] pos) (oN C m sp dvs E ta aI):=by
 intro P s y H Q I h
 refine GJ (pl:=pl) (aL (d P s y H _ I h) λu S #[x,D,i,R,a,G,J,z,B,l,q]=>?_) v
 subst z
 obtain rfl:u=Value.ref a:=R
 refine Ke i B c b l ?_
 exact PySem.W.callWith_K0 (first:=[.ref a]) i.kIn b.kp (Qk (us:=[.ref a]) (vs:=[.ref a]) F g j n r i (.cons Z .nil) q)
structure Mk(K:Frag)(C f:Addr):Prop where
 makes:PySem.W.makesIn K C=true
 init:findIn K (.ref C) "__init__"=some (some (.ref f))
 fn:isFn K (.ref f)=true
 kp:keepIn K (.ref C)=true
theorem Z8(M:Mk X.K C f)(F:ai X.prog X.w X.K X.mg X.base CX k f fd ps sp)(l:bq (k+1) X.A)(n:aw X.K fd ps ds)(q:au dvs ds)
  (y:cV CX X E) (I:ap X b c H s) (r:au g U)
  (h:∀x d,H x=none->H d=none->d≠x->sp (.ref x::(g++dvs)) (af (af H d (.own x)) x (.ins C d [])) (λv z=>v= .non/\Q (.ref x) z) E):
  wpAny (model X.prog X.w) X.A (call (.ref C) U) (EP X b c Q) X.xe s:=by
 have j:=h (s.heap.objs.size+1) s.heap.objs.size (I.hok.fresh (EA _)) (I.hok.fresh (Dk _)) (Dp (Eo _))
 have i:=ap.made (C:=C) I
 have R:au (V.ref (s.heap.objs.size+1)::(g++dvs)) (Value.ref (s.heap.objs.size+1)::(U++ds)):=.cons Z (r.append q)
 have B:(Value.ref (s.heap.objs.size+1)::U++ds).length=ps.length:=by
  have e:=R.length
  rw[F.len _ _ _ _ j]at e
  exact e.symm
 refine wpAny_call (Z6 (f:=f) I.kIn M.makes M.init (beq_iff_eq.mp M.fn) (FF (F.run _ X.stack _ _ #[Value.ref (s.heap.objs.size+1)::U,[]] (Value.ref (s.heap.objs.size+1)::(U++ds)) _ _ E (l.make C U [])
  (i.env0.make C U []) (n _ (Value.ref (s.heap.objs.size+1)::U) i.kIn B) R j) λr S a=>?_))
 cases r with
 |error e=>exact y b c _ _ e S i a
 |ok D=>
  cases D with
  |ret u=>
   obtain⟨v,G,J,L,N,O⟩:=i.after a
   subst N
   exact#[L,#[V.ref (s.heap.objs.size+1),G,J,Z,O]]
  |next=>exact False.elim a
  |brk=>exact False.elim a
  |cont=>exact False.elim a
theorem Yc(M:Mk X.K C f)(F:ai X.prog X.w X.K X.mg X.base CX k f fd ps sp)(c:bq (k+1) X.A)(d:Gl X x)(g:X.mg x=some (.ref C))(j:aw X.K fd ps ds)(l:au dvs ds)(n:cV CX X E)
  (u:PA X (e::es) t) (a:(x==("__debug__":Str))=false:=by decide) (v:starEach (e::es) X.env=(false,eval e X.env)::starEach es X.env:=by rfl) (b:(backTo pos (starEach es X.env)).any (·.1)=false:=by rfl):
  PE X (.Call (.Name x p) (e::es) [] pos) (Ag C sp dvs E t):=by
 intro P s y H Q I h
 refine Ed (kX I d g ?_ a)
 refine HK (h₀:=X.base) I.ok.mod.kin M.kp (aL (u pos P s y H _ I h) λU S #[z,B,i,r,q]=>#[i.kIn,?_]) v b
 exact Z8 M F c j l n i r q
end
structure aj(N P:List Str)(sc:Scope):Prop where
 kind:sc.kind= .function
 co:sc.isCoroutine=false
 gen:sc.isGenerator=false
 nd:N.Nodup
 pre:N.take P.length=P
 par:∀x∈P,sc.names.lookup x=some .local∨sc.names.lookup x=some .cell
 nofree:∀y∈sc.names,y.2≠ .free
theorem KS{kindOf:Str->Option NameKind}:∀{b:List (Str×Value)} {m:Str->Option Value},(∀v,(x,v)∉b)->bindL kindOf b m x=m x
 | [],_,_=>rfl
 | (n,v)::r,m,h=>by
  unfold bindL
  rw[KS λw H=>h w (DK _ H)]
  split
  ·have:x≠n:=by rintro rfl;exact h v DA
   simp [this]
  ·rfl
theorem KU{kindOf:Str->Option NameKind}:∀{b:List (Str×Value)} {m:Str->Option Value},(∀v,(x,v)∉b)->bindC kindOf b m x=m x
 | [],_,_=>rfl
 | (n,v)::r,m,h=>by
  unfold bindC
  rw[KU λw H=>h w (DK _ H)]
  split
  ·rfl
  ·have:x≠n:=by rintro rfl;exact h v DA
   simp [this]
theorem KW{kindOf:Str->Option NameKind}:∀{P:List Str} {V:List Value} {i:Nat} {m:Str->Option Value},P.Nodup->P[i]?=some x->V[i]?=some v->kindOf x=some .local->
  bindL kindOf (P.zip V) m x=some v
 | [],_,_,_,_,h,_,_=>by simp at h
 |_::_,[],_,_,_,_,h,_=>by simp at h
 |p::P,w::V,0,m,n,H,a,b=>by
  simp at H a;subst H;subst a
  show bindL kindOf ((p,w)::P.zip V) m p=_
  unfold bindL
  rw[KS λv c=>(List.nodup_cons.mp n).1 (Gx c).1,DB b]
  simp
 |p::P,w::V,i+1,m,n,H,a,b=>by
  show bindL kindOf ((p,w)::P.zip V) m x=_
  unfold bindL
  exact KW (i:=i) (List.nodup_cons.mp n).2 (by simpa using H) (by simpa using a) b
theorem KY{kindOf:Str->Option NameKind}:∀{P:List Str} {V:List Value} {i:Nat} {m:Str->Option Value},P.Nodup->P[i]?=some x->V[i]?=some v->kindOf x≠some .local->
  bindC kindOf (P.zip V) m x=some v
 | [],_,_,_,_,h,_,_=>by simp at h
 |_::_,[],_,_,_,_,h,_=>by simp at h
 |p::P,w::V,0,m,n,H,a,b=>by
  simp at H a;subst H;subst a
  show bindC kindOf ((p,w)::P.zip V) m p=_
  unfold bindC
  rw[KU λv c=>(List.nodup_cons.mp n).1 (Gx c).1,DC b]
  simp
 |p::P,w::V,i+1,m,n,H,a,b=>by
  show bindC kindOf ((p,w)::P.zip V) m x=_
  unfold bindC
  exact KY (i:=i) (List.nodup_cons.mp n).2 (by simpa using H) (by simpa using a) b
noncomputable def eS(N:List Str)(v:List V):St:=v.map some++List.replicate (N.length - v.length) none
noncomputable def eB(C:mX)(P:Program)(w:World)(K:Frag)(mg:Str->Option Value)(base:Heap)(N:List Str)(q:Str)(S:Scope)(f:Addr)(c:Value)(A:Around)(outer:List Env)(s:Shared)(H:Hp)(E:XK):Cx where
 prog:=P
 w:=w
 K:=K
 mg:=mg
 base:=base
 A:=A.deeper (envOfC q S s.heap.objs.size f c)
 N:=N
 s₀:=s
 H₀:=H
 env:=envOfC q S s.heap.objs.size f c
 outer:=outer
 stack:=envOfC q S s.heap.objs.size f c::outer
 ex:=[]
 calm:=true
 fn:=λ_=>true
 pn:=[]
 xe:=λe b=>wpAny (model P w) (A.deeper (envOfC q S s.heap.objs.size f c)) (leaving (envOfC q S s.heap.objs.size f c) e) (λ_ a=>C outer H s E e a) (λd a=>C outer H s E d a) b
theorem QP{s:Scope}{n:Nat}(h:s.names.lookup x=some .cell):∃c,(cellsFrom n s.names []).lookup x=some c:=by
 have q:=PySem.W.cellsFrom_some s.names n [] (.inl h)
 exact Option.isSome_iff_exists.mp q
theorem YJ{P:Program}{K:Frag}{A:Around}{l:List V}
  (S:aj N t d) (O:A.handled=none) (j:lX P w K M B A o s H) (hl:l.length=t.length) (r:au l U)
  (x:InCallC s s.heap.objs.size (bindL (envOfC Q d s.heap.objs.size f I).kindOf (t.zip U) λ_=>none) (cellsFrom (s.heap.objs.size+1) d.names []) (bindC (envOfC Q d s.heap.objs.size f I).kindOf (t.zip U) λ_=>none) T):
  ap (eB Y P w K M B N Q d f I A o s H E) [] (eS N l) H T:=by
 have R:t.length<=N.length:=by have:=El List.length S.pre;rw[DG]at this;omega
 obtain⟨F,tk,rfl,J⟩:=x.done
 have m:∀b:Addr,b∉(eB Y P w K M B N Q d f I A o s H E).ex:=λb z=>absurd (show b∈([]:List Addr) from z) Ie
 refine#[#[j.mod,S.kind,Z,Z,Dk _,λy z c F g=>?_,λy hy=>?_,λy c _ h=>?_,λ_=>O,Around.frames_deeper j.frames,.inr #[Z,Z],λb z=>absurd z (m b),j.bs,j.bsz,λb _ _=>m b,λb z=>absurd z (m b),j.funs,j.frf],
  rfl,j.bare,Un.kept J,#[_,x.toInCall.ns,λi y v F g h3=>?_],λy c h=>#[_,x.cell y c h],j.hok.fresh (Dk _),λy c h=>?_,λp C=>absurd (show p∈([]:List (Addr×Obj)) from C) Ie,j.hok.kept J,?_]
 ·exact name_of_addr x.apart (Ew F) (Ew g)
 ·have hy:d.names.lookup y=some .cell∨d.names.lookup y=some .free:=hy
  rcases hy with hy |hy
  ·exact QP hy
  ·exact absurd Z (S.nofree _ (Ew hy))
 ·exact Fq (x.above y c (Ew h))
 ·have G:i < l.length:=by
   unfold eS at g
   by_cases G:i < l.length
   ·exact G
   ·rw[EM (by simpa using G)]at g
    rw[HY]at g
    split at g<;>cases g
  have W:l[i]?=some v:=by
   unfold eS at g
   rw[ER (by simpa using G),DE]at g
   cases e:l[i]? with
   |none=>rw[e]at g;cases g
   |some a=>rw[e]at g;cases g;rfl
  obtain⟨u,L,X⟩:=r.get W
  have C:t[i]?=some y:=by
   rw[<- S.pre,List.getElem?_take_of_lt Ic];exact F
  have D:t.Nodup:=by rw[<- S.pre];exact S.nd.sublist (EW _ _)
  refine#[u,X,?_]
  rcases S.par y (Dx C) with k |k
  ·exact .inl #[k,KW D C L k]
  ·obtain⟨c,e⟩:=QP (n:=s.heap.objs.size+1) k
   refine .inr #[.inl k,c,e,?_]
   have q:=x.cell y c e
   rw[KY D C L (by show d.names.lookup y≠_;rw[k];decide)]at q
   exact q
 ·exact j.hok.fresh (Fq (x.above y c (Ew h)))
 ·unfold eS
  show _=N.length
  rw[Dj,Di,GQ]
  omega
theorem vt{P:Program}{K:Frag}{kV:Value}
    {G:Sp} (lk:K.lookup f=some #[oc,od,.func (fnOf name c p h a dV kV L pm an C ct),o1]) (M:codeIn K C c=true) (S:aj N T a)
  (len:∀d H Q E,G d H Q E->d.length=T.length)
  (j:∀(A:Around) (O:List Env) (s:Shared) (H:Hp) (d:List V) (Q:VK) (E:XK),bq k (A.deeper (envOfC c a s.heap.objs.size f C))->G d H Q E->
   ∃t,iS (eB U P w K Y B N c a f C A O s H E) h t/\t { nx:=λ_ i=>Q .non i,rt:=Q } (eS N d) H):
  ai P w K Y B U (k+1) f (fnOf name c p h a dV kV L pm an C ct) T G:=by
 refine#[len,λA O s H a0 us d Q E R z hb r D=>?_]
 have hl:=len _ _ _ _ D
 have KX:K.In s.heap:=z.mod.kin.keeps λb o e=>(z.bs b o e).1
 have X:s.heap.NoLimit:=z.mod.nolimit.keeps λb o e=>(z.bs b o e).1
 have l:∀y∈T.zip us,a.names.lookup y.1=some .local∨(a.names.lookup y.1=some .cell/\((cellsFrom (s.heap.objs.size+1) a.names []).lookup y.1).isSome=true):=λ#[n,v] hy=>by
  rcases S.par n (Gx hy).1 with q |q
  ·exact .inl q
  ·exact .inr #[q,PySem.W.cellsFrom_some _ _ _ (.inl q)]
 refine codeAny_call_function R.depth (KX _ _ lk) Z S.co S.gen Z (PySem.W.codeRec_of KX M) (hb _ _ _ _ ?_)
 refine wpAny_newFunctionEnv_cells S.kind l λe1 he s1 x=>?_
 subst he
 refine#[X.keeps x.toInCall.keep,codeAny_func ?_]
 obtain⟨t,ht,hq⟩:=j A O s H d Q E (R.deeper _) D
 have I:ap (eB U P w K Y B N c a f C A O s H E) [] (eS N d) H s1:=YJ S R.hd z hl r x
 refine Eh (ht [] s1 (eS N d) H _ I hq) (λfl s' m=>?_) λe s' m=>m
 have F:∀{g:St} {i:Hp} {v:V} {u:Value},ap (eB U P w K Y B N c a f C A O s H E) [] g i s'->ay v u->Q v i->CE O P w H s Q u s':=
  λ{g i v u} J rv q=>#[v,i,J.os,J.bare,J.base,J.hok,rv,q]
 cases fl with
 |ret u=>
  obtain⟨v,g,i,J,rv,q⟩:=m
  exact F J rv q
 |next=>
  obtain⟨g,i,J,q⟩:=m
  exact F (v:=V.non) (u:=Value.none) J Z q
 |brk=>
  obtain⟨_,_,_,q⟩:=m
  exact False.elim q
 |cont=>
  obtain⟨_,_,_,q⟩:=m
  exact False.elim q
section
variable {X:Cx}{x:Str}{p pos:Pos}{e:Expr}{es:List Expr}{t:TA}{id T:String}{r:List V->Hp->VK->Prop}
def A9(r:List V->Hp->VK->Prop)(t:TA):TE:=λa H Q=>t a H λv h=>r v h Q
theorem jJ(d:dy X (.builtin id) r)(f:Gl X x)(g:X.mg x=none)(i:bootBuiltins x=some (.builtin id))(j:PA X (e::es) t)(k:x≠"__name__":=by decide)(a:(x==("__debug__":Str))=false:=by decide)
  (l:starEach (e::es) X.env=(false,eval e X.env)::starEach es X.env:=by rfl) (b:(backTo pos (starEach es X.env)).any (·.1)=false:=by rfl):PE X (.Call (.Name x p) (e::es) [] pos) (A9 r t):=by
 intro P s c H Q I h
 refine Ed (zu I f g i ?_ k a)
 exact PyProof.Rows.callWith_builtin1 (aL (j pos P s c H _ I h) λu S #[v,m,n,R,q]=>d P S c m v u Q n R q) l b
theorem jB(d:dy X (.type T) r)(f:Gl X x)(g:X.mg x=none)(i:bootBuiltins x=some (.type T))(j:PA X (e::es) t)(k:x≠"__name__":=by decide)(a:(x==("__debug__":Str))=false:=by decide)
  (l:starEach (e::es) X.env=(false,eval e X.env)::starEach es X.env:=by rfl) (b:(backTo pos (starEach es X.env)).any (·.1)=false:=by rfl):PE X (.Call (.Name x p) (e::es) [] pos) (A9 r t):=by
 intro P s c H Q I h
 refine Ed (zu I f g i ?_ k a)
 exact D3 (aL (j pos P s c H _ I h) λu S #[v,m,n,R,q]=>d P S c m v u Q n R q) l b
end
end L2
namespace HT
open PySem PyProof.Rows
theorem eqAt_int(A:Around)(s:Shared)(a:Int)(t:Tok)(c:Int)(u:Tok):∃e,SeqAt.EqAt A s (.int a t) (.int c u) e/\(e=true↔a=c):=
 #[(a==c),SeqAt.EqAt.int_int a t c u,Ie]
section
variable {prog:Program}{w:World}{A:Around}{E:Value->Shared->Prop}{s:Shared}
theorem cat_tup{v W:List Value}{Q:Value->Shared->Prop}(m:IsTup s.heap t v.toArray)(o:IsTup s.heap b W.toArray)(i:v≠[])
  (p:W=[]->Q (.ref t) s) (q:W≠[]->Q (.ref s.heap.objs.size) { s with heap:=s.heap.push { cls:=.type "tuple",data:=.seq (v++W).toArray } })
  (g:v.length+W.length<=sizeLine):wpAny (model prog w) A (binaryOp .Add (.ref t) (.ref b)) Q E s:=by
 obtain⟨⟨cls,D,data,j⟩,c,k,n,l⟩:=id m
 obtain⟨⟨C,d,data2,S⟩,h,H,N,a⟩:=id o
 simp only at k l H a
 subst k l H a
 have e:v.toArray++W.toArray=(v++W).toArray:=by simp
 by_cases f:W=[]
 ·exact concat_meets #[_,c,Z] #[_,h,Z] HR seq_tuple_add Go Gn (Gg _ _)
   (tuple_addW1 t b v.toArray W.toArray n N D d j S (by simpa using i) (by simp [f])) #[c,h,p f]
 ·refine concat_meets #[_,c,Z] #[_,h,Z] HR seq_tuple_add Go Gn (Gg _ _)
   (tuple_addW2 t b v.toArray W.toArray n N D d j S (by simpa using i) (by simpa using f) (by rw[Dn,Dn];exact g)) #[c,h,?_]
  rw[e]
  exact q f
noncomputable def sIx(n d:Nat):Option Int->Nat
 |none=>d
 |some v=>if v < 0 then (v+(n:Int)).toNat else min v.toNat n
theorem sIx_none(n d:Nat):sIx n d none=d:=rfl
theorem sIx_nat(n d k:Nat):sIx n d (some (k:Int))=min k n:=by
 show(if (k:Int) < 0 then ((k:Int)+(n:Int)).toNat else min (k:Int).toNat n)=min k n
 rw[DC Ic,D8]
theorem xY(n d:Nat)(H:d<=n)(o:Option Int):sIx n d o<=n:=by
 cases o with
 |none=>exact H
 |some v=>
  show(if v < 0 then (v+(n:Int)).toNat else min v.toNat n)<=n
  by_cases h:v < 0
  ·rw[DB h];omega
  ·rw[DC h];exact Nat.min_le_right _ _
theorem Yd(v:Int)(n d:Nat):(if v < 0 then max (v+(n:Int)) 0 else min v (n:Int))=((sIx n d (some v):Nat):Int):=by
 show(if v < 0 then max (v+(n:Int)) 0 else min v (n:Int))=(((if v < 0 then (v+(n:Int)).toNat else min v.toNat n):Nat):Int)
 by_cases h:v < 0
 ·simp only[DB h];omega
 ·simp only[DC h];omega
theorem Xw(lo h:Option Int)(n:Nat):Builtin.Slice.sliceAdjust lo h 1 (n:Int)=(((sIx n 0 lo:Nat):Int),((sIx n n h:Nat):Int)):=by
 have H:¬((1:Int) < 0):=by omega
 unfold Builtin.Slice.sliceAdjust
 simp only[H,Ek]
 refine Prod.ext ?_ ?_
 ·cases lo with
  |none=>rfl
  |some v=>exact Yd v n 0
 ·cases h with
  |none=>rfl
  |some v=>exact Yd v n n
theorem Xx(i j:Nat):Builtin.Slice.slicePlaces (i:Int) (j:Int) 1=j - i:=by
 unfold Builtin.Slice.slicePlaces
 have h:(1:Int) > 0:=by omega
 simp only[h,FN,Int.ediv_one]
 split<;>omega
theorem Kg{Q:Option Int->Shared->Prop}(p:IsPart v o)(h:Q o s):wpAny (model prog w) A (Builtin.Slice.slicePartIndex v) Q E s:=by
 cases p with
 |none=>exact slicePart_none h
 |int i t=>exact slicePart_int h
theorem sliceApplied_gen{lo:Option Int}{Q:Int×Int×Nat->Shared->Prop}(d:s.heap.IsSliceOf e v c .none)(p:IsPart v lo)(P:IsPart c b)
  (h:Q (((sIx n 0 lo:Nat):Int),1,sIx n n b - sIx n 0 lo) s):wpAny (model prog w) A (Builtin.Slice.sliceApplied (.ref e) (pure (n:Int))) Q E s:=by
 obtain⟨os,H,f,a⟩:=id d
 unfold Builtin.Slice.sliceApplied Builtin.Slice.sliceFields
 refine Dc (Dc (DH H a (x:=v) Z (Dc (DH H a (x:=c) Z (Dc (DH H a (x:=.none) Z (De ?_)))))))
 refine Dc (slicePart_none ?_)
 show wpAny _ _ (if ((1:Int)==0)=true then _ else _) _ _ s
 rw[DC Ib]
 refine Dc (Kg p (Dc (Kg P (Dc (De ?_)))))
 show wpAny _ _ (match Builtin.Slice.sliceAdjust lo b 1 (n:Int) with | (lo,b)=>pure (lo,(1:Int),Builtin.Slice.slicePlaces lo b 1)) _ _ s
 rw[Xw lo b n]
 show wpAny _ _ (pure (((sIx n 0 lo:Nat):Int),(1:Int),Builtin.Slice.slicePlaces ((sIx n 0 lo:Nat):Int) ((sIx n n b:Nat):Int) 1)) _ _ s
 rw[Xx]
 exact De h
theorem Z9(X:Array Value)(i k:Nat):((List.range k).filterMap λ(m:Nat)=>X[((i:Int)+(m:Int)*1).toNat]?).toArray=((X.toList.drop i).take k).toArray:=by
 have e:(λ(m:Nat)=>X[((i:Int)+(m:Int)*1).toNat]?)=λm=>X[i+m]?:=by
  funext m
  have:((i:Int)+(m:Int)*1).toNat=i+m:=by omega
  rw[this]
 rw[e]
 have:=pick_run X i k
 rw[List.filterMap_map]at this
 have a:((λx=>X[x]?) ∘ λx=>i+x)=λm=>X[i+m]?:=rfl
 rw[a]at this
 rw[this]
theorem getItem_tuple_cut{lo:Option Int}{Q:Value->Shared->Prop}(ht:IsTup s.heap t items)(hs:s.heap.IsSliceOf sl vl vu .none)(pl:IsPart vl lo)(pu:IsPart vu hi)
  (hw:¬(sIx items.size 0 lo=0/\sIx items.size items.size hi=items.size))
  (h:Q (.ref s.heap.objs.size) { s with heap:=s.heap.push { cls:=.type "tuple",data:=.seq ((items.toList.drop (sIx items.size 0 lo)).take (sIx items.size items.size hi - sIx items.size 0 lo)).toArray } })
  (hsz:items.size<=sizeLine):wpAny (model prog w) A (getItem (.ref t) (.ref sl)) Q E s:=by
 have htake:sizeOk (.seq ((items.toList.drop (sIx items.size 0 lo)).take (sIx items.size items.size hi - sIx items.size 0 lo)).toArray):=by
  show((items.toList.drop (sIx items.size 0 lo)).take (sIx items.size items.size hi - sIx items.size 0 lo)).toArray.size<=sizeLine
  rw[Dn,DG,EJ,DF]
  omega
 have hj:sIx items.size items.size hi<=items.size:=xY _ _ (Dk _) hi
 obtain⟨os,hos,hcs,hds⟩:=id hs
 have hTs:s.TypeIs (.ref sl) "slice":=#[os,hos,hcs]
 unfold getItem
 try with_reducible refine DI ?_
 first |refine Dc (De ?_) |skip
 refine Dc (HI ht.typeIs Ib ?_)
 refine Dc (DV (name:=Str.ofString "__getitem__") ht.typeIs Fb
  (DZ Fb ht.typeIs entry_tuple_getitem ?_ (args_tuple_getitem _ _)))
 show wpAny _ _ (Builtin.Tuple.tupleItemsOf (.ref t) >>= _) _ _ s
 refine Dc (tupleItemsOf_ ht ?_)
 refine Dc (EQ hTs ?_)
 rw[DB Ib]
 refine Dc (sliceApplied_gen hs pl pu ?_)
 have hno:¬((((sIx items.size 0 lo:Nat):Int)==0&&(1:Int)==1&&(sIx items.size items.size hi - sIx items.size 0 lo)==items.size)=true):=by
  intro q
  rw[Ej,Ej]at q
  have q1:((sIx items.size 0 lo:Nat):Int)=0:=eq_of_beq q.1.1
  have q2:sIx items.size items.size hi - sIx items.size 0 lo=items.size:=eq_of_beq q.2
  exact hw #[Ic,Ic]
 show wpAny _ _ (if (((sIx items.size 0 lo:Nat):Int)==0&&(1:Int)==1&&(sIx items.size items.size hi - sIx items.size 0 lo)==items.size)=true then _ else _) _ _ s
 rw[DC hno,Z9]
 first
  |exact Dc (m:=Builtin.Tuple.tupleExact _) (DX (De #[_,Z,De h]) htake)
  |exact Dc (m:=Builtin.Tuple.tupleExact _) (DX (Dc (De (De #[_,Z,De h]))) htake)
  |exact Dc (Dc (m:=Builtin.Tuple.tupleExact _) (DX (De (De #[_,Z,De h])) htake))
  |exact Dc (Dc (m:=Builtin.Tuple.tupleExact _) (DX (De #[_,Z,De h]) htake))
end
end HT
namespace L2
open PySem PySem.Spec PyProof.Rows
abbrev TO:=St->Hp->(Option Int->Hp->Prop)->Prop
def PO(X:Cx)(e:Option Expr)(t:TO):Prop:=
 ∀(p:List (Addr×Obj)) (s:Shared) (a:St) (H:Hp) (Q:Option Int->Hp->Prop),ap X p a H s->t a H Q->
  wpAny (model X.prog X.w) X.A (evalPart e X.env) (λu S=>∃o h,ap X p a h S/\IsPart u o/\Q o h) X.xe s
def iu:TO:=λ_ H Q=>Q none H
def i9(t:TE):TO:=λa H Q=>t a H λx h=>∃i,x= .int i/\Q (some i) h
section
variable {X:Cx}{e:Expr}{te:TE}{lo hi:Option Expr}{tl th:TO}{pos p2:Pos}
theorem kK:PO X none iu:=by
 intro p s a H Q I h
 rw[evalPart_none]
 exact De #[none,H,I,.none,h]
theorem jF(h:PE X e te):PO X (some e) (i9 te):=by
 intro p s a H Q I b
 rw[evalPart_some]
 refine aL (h p s a H _ I b) λu S #[x,c,d,r,f]=>?_
 obtain⟨i,rfl,q⟩:=f
 obtain⟨t,rfl⟩:=r
 exact#[some i,c,d,.int i t,q]
def Bn(X:Cx)(r:V->Option Int->Option Int->Hp->VK->Prop):Prop:=
 ∀(p:List (Addr×Obj)) (s:Shared) (a:St) (H:Hp) (x:V) (v b c:Value) (lo hi:Option Int) (S:Addr) (Q:VK),ap X p a H s->ay x v->s.heap.IsSliceOf S b c .none->IsPart b lo->IsPart c hi->r x lo hi H Q->
  ∃T id,typeLookup (.type T) "__getitem__"=pure (some (.builtin id))/\s.TypeIs v T/\wpAny (model X.prog X.w) X.A (getItem v (.ref S)) (EP X p a Q) X.xe s
def Bm(r:V->Option Int->Option Int->Hp->VK->Prop)(te:TE)(tl th:TO):TE:=λa H Q=>te a H λx h=>tl a h λl b=>th a b λu c=>r x l u c Q
theorem jL{r:V->Option Int->Option Int->Hp->VK->Prop}(g:Bn X r)(i:PE X e te)(j:PO X lo tl)(k:PO X hi th):PE X (.Subscript e (.Slice lo hi none p2) pos) (Bm r te tl th):=by
 intro p s a H Q I h
 refine Subscript_ (aL (i p s a H _ I h) λv m #[x,n,o,R,t]=>?_)
 refine wpAny_Slice (aL (j p m a n _ o t) λc y #[l,z,B,P,C]=>aL (k p y a z _ B C) λd S #[u,f,D,E,F]=>?_)
 rw[evalPart_none]
 refine De ?_
 have G:ap X p a f { S with heap:=S.heap.push { cls:=.type "slice",data:=.fields (List.toArray [c,d,.none]) } }:=D.kept (t':=S.toks) λb O q=>Dg _ q
 obtain⟨T,id,J,K,L⟩:=g p { S with heap:=S.heap.push { cls:=.type "slice",data:=.fields (List.toArray [c,d,.none]) } } a f x v c d l u S.heap.objs.size Q G R (Heap.IsSliceOf.new ..) P E F
 show wpAny (model X.prog X.w) X.A (subscriptTail e (.Slice lo hi none p2) v (.ref S.heap.objs.size)) (EP X p a Q) X.xe { S with heap:=S.heap.push { cls:=.type "slice",data:=.fields (List.toArray [c,d,.none]) } }
 exact tail_any (ops:=[.ref S.heap.objs.size,v]) K J L (by with_unfolding_all rfl)
noncomputable def aT(x:List V)(lo hi:Option Int):List V:=(x.drop (HT.sIx x.length 0 lo)).take (HT.sIx x.length x.length hi - HT.sIx x.length 0 lo)
theorem kU(x:List V)(lo hi:Option Int):(aT x lo hi).length<=x.length:=by
 unfold aT
 rw[DG,EJ]
 omega
def BJ(K:Frag):V->Option Int->Option Int->Hp->VK->Prop:=λx lo hi H Q=>∃a b,x= .ref a/\aA K H a b/\
 ¬(HT.sIx b.length 0 lo=0/\HT.sIx b.length b.length hi=b.length)/\∀p,H p=none->Q (.ref p) (af H p (.tup (aT b lo hi)))
theorem wB:Bn X (BJ X.K):=by
 intro p s n H x v V t lo hi S Q I R j P k h
 obtain⟨a,d,rfl,l,m,q⟩:=h
 cases R
 obtain⟨i,r,f,g⟩:=I.tuple l
 have c:i.toArray.size=d.length:=by rw[Dn];exact r.length.symm
 refine#["tuple",_,PyProof.Rows.slot_tuple_getitem.lookup,f.typeIs,?_]
 refine HT.getItem_tuple_cut f j P k (by rw[c];exact m) ?_ (by rw[c];exact g)
 rw[c]
 refine#[.ref s.heap.objs.size,_,I.laid (t':=s.toks) (o:=.tup (aT d lo hi)) (λb O q=>Dg _ q) (Dk _) ?_,Z,q _ (I.hok.fresh (Dk _))]
 exact#[Ds (kU d lo hi) g,_,(r.drop (HT.sIx d.length 0 lo)).take (HT.sIx d.length d.length hi - HT.sIx d.length 0 lo),IsTup.new _ _]
def Al(K:Frag):R2:=λx y H Q=>∃a b c Y,x= .ref a/\y= .ref b/\aA K H a c/\aA K H b Y/\c≠[]/\c.length+Y.length<=sizeLine/\
 (Y=[]->Q (.ref a) H)/\(Y≠[]->∀p,H p=none->Q (.ref p) (af H p (.tup (c++Y))))
theorem au.nil_iff(r:au x u):u=[]↔x=[]:=by
 cases r with
 |nil=>simp
 |cons _ _=>simp
theorem rR:eW X (binaryOp .Add) (Al X.K):=by
 intro p s A H x y v u Q I d f h
 obtain⟨a,b,g,Y,rfl,rfl,j,k,l,c,m,n⟩:=h
 cases d
 cases f
 obtain⟨t,R,P,_⟩:=I.tuple j
 obtain⟨i,r,p2,_⟩:=I.tuple k
 refine HT.cat_tup P p2 (λz=>l (R.nil_iff.mp z)) (λz=>#[.ref a,H,I,Z,m (r.nil_iff.mp z)]) (λz=>?_) (by rw[<- R.length,<- r.length];exact c)
 refine#[.ref s.heap.objs.size,_,I.laid (t':=s.toks) (o:=.tup (g++Y)) (λb O q=>Dg _ q) (Dk _) ?_,Z,n (λw=>z (r.nil_iff.mpr w)) _ (I.hok.fresh (Dk _))]
 exact#[by rw[Dj];exact c,_,R.append r,IsTup.new _ _]
end
noncomputable def lT(n:Nat)(i:Int):Option Nat:=if 0<=i then (if i < n then some i.toNat else none) else if -(n:Int)<=i then some (i+n).toNat else none
noncomputable def dn{a:Type}(x:List a)(i:Int):Option a:=(lT x.length i).bind λj=>x[j]?
theorem Ye(h:lT n i=some j):seqIndex? i n=some j/\j < n/\ -(n:Int)<=i/\i < n:=by
 unfold lT at h
 by_cases a:0<=i
 ·rw[DB a]at h
  by_cases H:i < n
  ·rw[DB H]at h
   have e:i.toNat=j:=DT h
   exact#[by rw[seqIndex_of a H,e],Ic,Ic,H]
  ·rw[DC H]at h;cases h
 ·rw[DC a]at h
  by_cases H: -(n:Int)<=i
  ·rw[DB H]at h
   have e:(i+n).toNat=j:=DT h
   exact#[by rw[seqIndex_neg Ic H,e],Ic,H,Ic]
  ·rw[DC H]at h;cases h
theorem Qr{a:Type}{x:List a}{v:a}(h:dn x i=some v):∃j,seqIndex? i x.length=some j/\x[j]?=some v/\j < x.length/\ -(x.length:Int)<=i/\i < x.length:=by
 unfold dn at h
 cases e:lT x.length i with
 |none=>rw[e]at h;cases h
 |some j=>
  rw[e]at h
  obtain⟨H,b,c,d⟩:=Ye e
  exact#[j,H,h,b,c,d]
theorem jO{a:Type}{x:List a}{j:Nat}{v:a}(h:x[j]?=some v):dn x (j:Int)=some v:=by
 have H:j < x.length:=(List.getElem?_eq_some_iff.mp h).1
 have e:lT x.length (j:Int)=some j:=by
  unfold lT
  rw[DB Ic,DB Ic];simp
 unfold dn;rw[e];exact h
def tI(b:Expr):Prop:=∀o i,subscripted b false o i=operate [o,i] (getItem o i)
def Be(X:Cx)(r:R2):Prop:=
 ∀(a S:Expr) (p:List (Addr×Obj)) (s:Shared) (b:St) (H:Hp) (x y:V) (v u:Value) (Q:VK),ap X p b H s->ay x v->ay y u->r x y H Q->
  subscripted S false v u=operate [v,u] (getItem v u)->wpAny (model X.prog X.w) X.A (subscriptTail a S v u) (EP X p b Q) X.xe s
def BM(X:Cx)(id:String)(r:V->List V->Hp->VK->Prop):Prop:=
 ∀(p:List (Addr×Obj)) (s:Shared) (a:St) (H:Hp) (x:V) (b:List V) (v:Value) (u:List Value) (Q:VK),ap X p a H s->ay x v->au b u->r x b H Q->
  wpAny (model X.prog X.w) X.A (call (.builtin id) (v::u)) (EP X p a Q) X.xe s
section
variable {X:Cx}{a b:Expr}{ta tb:TE}{pos:Pos}
theorem jq{r:R2}(c:Be X r)(d:PE X a ta)(e:PE X b tb)(f:tI b):PE X (.Subscript a b pos) (dw r ta tb):=by
 intro p s g H Q I h
 exact Subscript_ (v6 d e I h λv u S x y i j R k q=>c a b p S g i x y v u Q j R k q (f _ _))
def ik(K:Frag):R2:=λx y H Q=>∃p c i v,x= .ref p/\y= .int i/\aE K H p c/\dn c i=some v/\Q v H
def eX(K:Frag):R2:=λx y H Q=>∃p c i v,x= .ref p/\y= .int i/\aA K H p c/\dn c i=some v/\Q v H
def yp:R2:=λx y H Q=>∃z i c,x= .str z/\y= .int i/\z.length<=sizeLine/\dn z.cps.toList i=some c/\Q (.str #[(List.toArray [c])]) H
theorem jo:Be X (ik X.K):=by
 intro V S P s k H x y v u Q I n o h l
 obtain⟨p,L,i,z,rfl,rfl,A,B,q⟩:=h
 cases n
 obtain⟨t,rfl⟩:=o
 obtain⟨d,r,e,M⟩:=I.list A
 obtain⟨j,c,C,N,D,F⟩:=Qr B
 obtain⟨w,E,R⟩:=r.get C
 have G:=r.length
 have O:=dE
 have f:EP X P k Q w s:=#[z,H,I,R,q]
 by_cases m:0<=i
 ·have g:i.toNat=j:=by
   rw[seqIndex_of m F]at c
   exact DT c
  exact item_listR e.isList m Ic (by rw[g];simpa using E) f l
 ·have g:(i+(d.toArray.size:Int)).toNat=j:=by
   rw[seqIndex_neg Ic D]at c
   rw[Dn,<- G]
   exact DT c
  exact subscriptTail_builtinR (x:=w) e.isList.typeIs slot_list_getitem.lookup
   (wpAny_getItem_list_neg (Q:=λr J=>r=w/\EP X P k Q r J) e.isList Ic (by rw[Dn]<;>omega) Ic (by rw[g];simpa using E) #[Z,f]) l
theorem jW:Be X (eX X.K):=by
 intro V S P s c H x y v u Q I e g h k
 obtain⟨p,D,i,z,rfl,rfl,l,m,q⟩:=h
 cases e
 obtain⟨t,rfl⟩:=g
 obtain⟨n,r,d,F⟩:=I.tuple l
 obtain⟨j,o,A,G,J,L⟩:=Qr m
 obtain⟨w,E,R⟩:=r.get A
 have B:=r.length
 have M:=dE
 have f:EP X P c Q w s:=#[z,H,I,R,q]
 exact subscriptTail_builtinR (x:=w) d.typeIs slot_tuple_getitem.lookup
  (getItem_tuple (j:=j) (Q:=λr C=>r=w/\EP X P c Q r C) d Ic Ic (by rw[Dn,<- B];exact o) (by simpa using E) #[Z,f]) k
theorem JW:Be X yp:=by
 intro V S p s o H x y v u Q I r R h e
 obtain⟨z,i,c,rfl,rfl,w,f,q⟩:=h
 obtain⟨t,rfl⟩:=r
 obtain⟨T,rfl⟩:=R
 obtain⟨j,d,g,A,k,l⟩:=Qr f
 have m:z.cps.toList.length=z.length:=by simp [Str.length]
 rw[m]at d k l
 have B:=dE
 exact tail_any (typeIs_str s z t) slot_str_getitem.lookup (getItem_str (c:=c) (by
  have E:decide (i < -(2 ^ 63:Int))=false:=Dy Ic
  have n:decide (i≥2 ^ 63)=false:=Dy Ic
  rw[E,n,HU]) (by rw[d];simpa using g) #[.str #[(List.toArray [c])],H,I.tok _,#[_,Z],q]) e
theorem Xy(i:List Value)(n j:Nat)(u:Value):Obj.mapSeq (·.setIfInBounds j u) { cls:=.type "list",data:=.seq i.toArray n }={ cls:=.type "list",data:=.seq (i.set j u).toArray n }:=by
 simp [Obj.mapSeq]
theorem ap.lst(I:ap X c d H s)(h:H p=some (.lst x)):
  ∃(i:List Value) (n:Nat),au x i/\s.heap.get? p=some { cls:=.type "list",data:=.seq i.toArray n }/\x.length<=sizeLine:=by
 obtain⟨z,i,n,r,e⟩:=I.hok p _ h
 exact#[i,n,r,e,z]
theorem ap.lstUpd{c i:List Value}{f:Obj->Obj}(I:ap X d j H s)(h:H p=some (.lst o))
  (k:s.heap.get? p=some { cls:=.type "list",data:=.seq c.toArray n }) (g:f { cls:=.type "list",data:=.seq c.toArray n }={ cls:=.type "list",data:=.seq i.toArray N }) (r:au y i) (l:y.length<=sizeLine) (t:Nat):
  ap X d j (af H p (.lst y)) { s with heap:=s.heap.update p f,toks:=t }:=by
 have e:(s.heap.update p f).get? p=some { cls:=.type "list",data:=.seq i.toArray N }:=by
  rw[Heap.get?_update_self f k (by rw[g]<;>rfl),g]
 refine I.write (x:=p) (e:=p) (by rw[h];trivial) (.inl Z) (λb u m q=>(Heap.get?_update_other _ _ (Ne.symm m)).trans q) #[_,e] ?_
 exact#[l,i,N,r,e]
def pk:V->V->V->Hp->(Hp->Prop)->Prop:=λo i v H Q=>∃p x k j,o= .ref p/\i= .int k/\H p=some (.lst x)/\lT x.length k=some j/\Q (af H p (.lst (x.set j v)))
theorem kQ:Af X pk:=by
 intro P s z H o i v O F u Q I R A B h
 obtain⟨p,C,k,j,rfl,rfl,l,D,q⟩:=h
 cases R
 obtain⟨t,rfl⟩:=A
 obtain⟨c,n,r,e,E⟩:=I.lst l
 obtain⟨d,G,m,w⟩:=Ye D
 have f:=r.length
 have J:=dE
 have x:ap X P z (af H p (.lst (C.set j v))) { s with heap:=s.heap.update p (Obj.mapSeq (·.setIfInBounds j u)) }:=
  I.lstUpd l e (Xy c n j u) (r.set B j) (by rw[Gz];exact E) s.toks
 by_cases y:0<=k
 ·have g:k.toNat=j:=by
   rw[seqIndex_of y w]at d
   exact DT d
  exact PySem.W.ki_setAt e y Ic (by rw[Dn,<- f];exact w) (by rw[g];exact#[_,x,q])
 ·have g:(k+(c.toArray.size:Int)).toNat=j:=by
   rw[seqIndex_neg Ic m]at d
   rw[Dn,<- f]
   exact DT d
  exact PySem.W.ki_setBack e Ic (by rw[Dn,<- f];exact m) Ic (by rw[g];exact#[_,x,q])
theorem QC(lo H:Option Int)(n:Nat):(sliceBounds lo H none n).1=((HT.sIx n 0 lo:Nat):Int)/\(sliceBounds lo H none n).2.1=((HT.sIx n n H:Nat):Int)/\(sliceBounds lo H none n).2.2=1:=by
 refine#[?_,?_,Z]
 ·cases lo with
  |none=>simp [sliceBounds,HT.sIx]
  |some i=>
   simp only[sliceBounds,HT.sIx,Hu,show(1:Int) > 0 by decide,FN]
   by_cases h:i < 0
   ·simp only[h,FN]<;>omega
   ·simp only[h,Ek]<;>omega
 ·cases H with
  |none=>simp [sliceBounds,HT.sIx]
  |some i=>
   simp only[sliceBounds,HT.sIx,Hu,show(1:Int) > 0 by decide,FN]
   by_cases h:i < 0
   ·simp only[h,FN]<;>omega
   ·simp only[h,Ek]<;>omega
theorem Kx(i:List Value)(lo h:Option Int):slicePick i.toArray lo h none=((i.drop (HT.sIx i.length 0 lo)).take (HT.sIx i.length i.length h - HT.sIx i.length 0 lo)).toArray:=by
 obtain⟨H,c,d⟩:=QC lo h i.toArray.size
 unfold slicePick
 rw[H,c,d]
 simp only[sliceRange_one,pick_run,Dn]<;>rfl
def xg(K:Frag):V->Option Int->Option Int->Hp->VK->Prop:=λx lo h H Q=>∃a c,x= .ref a/\aE K H a c/\∀p,H p=none->Q (.ref p) (af H p (.lst (aT c lo h)))
theorem km:Bn X (xg X.K):=by
 intro p s m H x v V n lo e S Q I R g P i h
 obtain⟨a,c,rfl,j,q⟩:=h
 cases R
 obtain⟨k,r,f,l⟩:=I.list j
 have d:=r.length
 refine#["list",_,slot_list_getitem.lookup,f.isList.typeIs,?_]
 refine wpAny_getItem_list_slice f.isList g P i .none Ie ?_ (by rw[Dn]<;>omega)
 rw[Kx,<- d]
 refine#[.ref s.heap.objs.size,_,I.laid (t':=s.toks) (o:=.lst (aT c lo e)) (λb O q=>Dg _ q) (Dk _) ?_,Z,q _ (I.hok.fresh (Dk _))]
 exact#[Ds (kU c lo e) l,_,0,(r.drop (HT.sIx c.length 0 lo)).take (HT.sIx c.length c.length e - HT.sIx c.length 0 lo),Dl _ Z]
noncomputable def cg:V->Bool
 | .non=>true
 | .bl _=>true
 | .int _=>true
 | .str _=>true
 |_=>false
noncomputable def le:V->V->Bool
 | .non,.non=>true
 | .bl a,.bl b=>a==b
 | .bl a,.int b=>(if a then 1 else 0)==b
 | .int a,.bl b=>a==(if b then 1 else 0)
 | .int a,.int b=>a==b
 | .str a,.str b=>a==b
 |_,_=>false
theorem ZG(R:ay y u)(r:ay x v)(F:cg y=true)(f:cg x=true):SeqAt.EqAt A s u v (le y x):=by
 cases y with
 |non=>
  cases R
  cases x with
  |non=>cases r;exact SeqAt.EqAt.same _
  |bl b=>cases r;exact SeqAt.EqAt.none_bool b
  |int b=>obtain⟨t,rfl⟩:=r;exact SeqAt.EqAt.none_int b t
  |str b=>obtain⟨t,rfl⟩:=r;exact SeqAt.EqAt.none_str b t
  |_=>exact absurd (show false=true from f) Do
 |bl a=>
  cases R
  cases x with
  |non=>cases r;exact SeqAt.EqAt.bool_none a
  |bl b=>cases r;exact SeqAt.EqAt.bool_bool a b
  |int b=>obtain⟨t,rfl⟩:=r;exact SeqAt.EqAt.bool_int a b t
  |str b=>obtain⟨t,rfl⟩:=r;exact SeqAt.EqAt.bool_str a b t
  |_=>exact absurd (show false=true from f) Do
 |int a=>
  obtain⟨T,rfl⟩:=R
  cases x with
  |non=>cases r;exact SeqAt.EqAt.int_none a T
  |bl b=>cases r;exact SeqAt.EqAt.int_bool a T b
  |int b=>obtain⟨t,rfl⟩:=r;exact SeqAt.EqAt.int_int a T b t
  |str b=>obtain⟨t,rfl⟩:=r;exact SeqAt.EqAt.int_str a T b t
  |_=>exact absurd (show false=true from f) Do
 |str a=>
  obtain⟨T,rfl⟩:=R
  cases x with
  |non=>cases r;exact SeqAt.EqAt.str_none a T
  |bl b=>cases r;exact SeqAt.EqAt.str_bool a T b
  |int b=>obtain⟨t,rfl⟩:=r;exact SeqAt.EqAt.str_int a T b t
  |str b=>obtain⟨t,rfl⟩:=r;exact SeqAt.EqAt.str_str a T b t
  |_=>exact absurd (show false=true from f) Do
 |_=>exact absurd (show false=true from F) Do
noncomputable def lN(x:V)(u:Value):Bool:=match u with
 | .none=>le .non x
 | .bool b=>le (.bl b) x
 | .int i _=>le (.int i) x
 | .str z _=>le (.str z) x
 |_=>false
theorem ZH(r:ay y u)(f:cg y=true):lN x u=le y x:=by
 cases y with
 |non=>cases r;rfl
 |bl b=>cases r;rfl
 |int i=>obtain⟨t,rfl⟩:=r;rfl
 |str z=>obtain⟨t,rfl⟩:=r;rfl
 |_=>exact absurd (show false=true from f) Do
theorem qF:∀{c:List V} {U:List Value},au c U->c.all cg=true->U.any (lN x)=c.any λy=>le y x
 |_,_,.nil,_=>rfl
 |y::c,u::U,.cons r t,f=>by
  rw[HS,Ej]at f
  rw[Gj,Gj,ZH r f.1,qF t f.2]
theorem zU(R:ay x v)(F:cg x=true):∀{c:List V} {U:List Value},au c U->c.all cg=true->∀u∈U,SeqAt.EqAt A s u v (lN x u)
 |_,_,.nil,_=>λu hu=>by cases hu
 |y::c,u::U,.cons r t,f=>λd hu=>by
  rw[HS,Ej]at f
  rcases List.mem_cons.mp hu with rfl |hu
  ·rw[ZH r f.1];exact ZG r R f.1 F
  ·exact zU R F t f.2 d hu
noncomputable def mH(x:V)(c:List V):Bool:=c.any λy=>le y x
def Bi(K:Frag)(n:Bool):R2:=λx y H Q=>∃p c,y= .ref p/\(aE K H p c∨aA K H p c)/\cg x=true/\c.all cg=true/\Q (.bl (if n then !mH x c else mH x c)) H
theorem zb:eW X (compareOp .In) (Bi X.K false):=by
 intro d s j H x y v u Q I R e h
 obtain⟨p,k,rfl,hq,F,f,q⟩:=h
 cases e
 rcases hq with hq |hq
 ·obtain⟨i,r,P,g⟩:=I.list hq
  refine SeqAt.in_listAt (lN x) P.isList (λw c=>zU R F r f w (by simpa using c)) #[.bl _,H,I,Z,?_]
  rw[show i.toArray.any (lN x)=i.any (lN x) by simp,qF r f]
  exact q
 ·obtain⟨i,r,P,g⟩:=I.tuple hq
  refine SeqAt.in_tupleAt (lN x) P (λw c=>zU R F r f w (by simpa using c)) #[.bl _,H,I,Z,?_]
  rw[show i.toArray.any (lN x)=i.any (lN x) by simp,qF r f]
  exact q
theorem qP:eW X (compareOp .NotIn) (Bi X.K true):=by
 intro d s j H x y v u Q I R e h
 obtain⟨p,k,rfl,hq,F,f,q⟩:=h
 cases e
 rcases hq with hq |hq
 ·obtain⟨i,r,P,g⟩:=I.list hq
  refine SeqAt.notIn_listAt (lN x) P.isList (λw c=>zU R F r f w (by simpa using c)) #[.bl _,H,I,Z,?_]
  rw[show i.toArray.any (lN x)=i.any (lN x) by simp,qF r f]
  exact q
 ·obtain⟨i,r,P,g⟩:=I.tuple hq
  refine SeqAt.notIn_tupleAt (lN x) P (λw c=>zU R F r f w (by simpa using c)) #[.bl _,H,I,Z,?_]
  rw[show i.toArray.any (lN x)=i.any (lN x) by simp,qF r f]
  exact q
theorem jK:dy X (.builtin "len") (λx H Q=>∃p y,x=[.ref p]/\(aE X.K H p y∨aA X.K H p y)/\Q (.int y.length) H):=by
 intro d s g H x U Q I r h
 obtain⟨p,y,rfl,hq,q⟩:=h
 obtain⟨u,rfl,e⟩:=dQ r
 cases e
 have j:=dE
 rcases hq with hq |hq
 ·obtain⟨i,R,P,f⟩:=I.list hq
  have c:=R.length
  exact Calls.call_len_list P.isList (by simp only[Dn]<;>omega) #[.int y.length,H,I.tok _,#[s.toks+1,by rw[Dn,c]],q]
 ·obtain⟨i,R,P,f⟩:=I.tuple hq
  have c:=R.length
  exact len_tuple P (by simp only[Dn]<;>omega) #[.int y.length,H,I.tok _,#[s.toks+1,by rw[Dn,c]],q]
theorem qQ:dy X (.type "list") (λx H Q=>∃p y,x=[.ref p]/\(aE X.K H p y∨aA X.K H p y)/\∀l,H l=none->Q (.ref l) (af H l (.lst y))):=by
 intro P s z H x U Q I r h
 obtain⟨p,y,rfl,hq,q⟩:=h
 obtain⟨u,rfl,A⟩:=dQ r
 cases A
 have f:∀(i:List Value),au y i->y.length<=sizeLine->∀(c:Heap) (C:Nat),(∀b O,s.heap.get? b=some O->c.get? b=some O)->
   c.get? s.heap.objs.size=some { cls:=.type "list",dict:=none,data:=.seq i.toArray C,slots:=(List.toArray []) }->EP X P z Q (.ref s.heap.objs.size) { s with heap:=c }:=λi R d c C k e=>
  #[.ref s.heap.objs.size,_,I.laid (t':=s.toks) k (Dk _) (show aG X.prog X.w _ c _ (.lst y) from #[d,i,C,R,e]),Z,q _ (I.hok.fresh (Dk _))]
 rcases hq with hq |hq
 ·obtain⟨i,R,j,d⟩:=I.list hq
  have g:=R.length
  obtain⟨o,m,t,n,v⟩:=j.isList
  exact call_list_seq p (.inl Z) m t v (λc C k e=>f i R d c C k e) (by simp only[Dn]<;>omega)
 ·obtain⟨i,R,j,d⟩:=I.tuple hq
  have g:=R.length
  obtain⟨o,m,t,n,v⟩:=j
  exact call_list_seq p (.inr Z) m t v (λc C k e=>f i R d c C k e) (by simp only[Dn]<;>omega)
theorem jA:dy X (.type "tuple") (λx H Q=>∃p y,x=[.ref p]/\((aE X.K H p y/\∀l,H l=none->Q (.ref l) (af H l (.tup y)))∨(aA X.K H p y/\Q (.ref p) H))):=by
 intro P s g H x U Q I r h
 obtain⟨p,y,rfl,h⟩:=h
 obtain⟨u,rfl,n⟩:=dQ r
 cases n
 rcases h with ⟨d,q⟩ | ⟨d,q⟩
 ·obtain⟨i,R,f,j⟩:=I.list d
  have k:=R.length
  refine call_tuple_list f.isList (λc t=>?_) (by simp only[Dn]<;>omega)
  have m:ap X P g H { s with heap:=c }:=I.kept (t':=s.toks) t
  have v:ap X P g (af H c.objs.size (.tup y)) { s with heap:=c.push { cls:=.type "tuple",data:=.seq i.toArray } }:=
   m.laid (t':=s.toks) (λb o e=>Dg _ e) (Dk _) (show aG X.prog X.w _ _ _ (.tup y) from #[j,i,R,IsTup.new _ _])
  exact#[.ref c.objs.size,_,v,Z,q _ (m.hok.fresh (Dk _))]
 ·obtain⟨i,R,f,j⟩:=I.tuple d
  exact call_tuple_same f #[.ref p,H,I,Z,q]
def BY(K:Frag)(T:String)(x:V)(H:Hp):Prop:=match x with
 | .str _=>T="str"
 | .int _=>T="int"
 | .ref p=>(T="list"/\∃c,aE K H p c)∨(T="tuple"/\∃o,K.lookup p=some o/\o.cls= .type "tuple"/\o.dict=none)∨
   (T="dict"/\((∃k,H p=some (.dK k))∨∃k,H p=some (.dT k)))∨(T="set"/\∃S n,H p=some (.set S n))
 |_=>False
theorem ZI(I:ap X j u H s)(r:ay x v)(d:BY X.K T x H):
  s.TypeIs v T/\∀a,v= .ref a->∃O,s.heap.get? a=some O/\O.dict=none:=by
 cases x with
 |str z=>
  obtain⟨t,rfl⟩:=r
  cases (show T="str" from d)
  exact#[typeIs_str s z t,λ_ e=>nomatch e]
 |int i=>
  obtain⟨t,rfl⟩:=r
  cases (show T="int" from d)
  exact#[typeIs_int s i t,λ_ e=>nomatch e]
 |ref p=>
  cases r
  rcases d with ⟨rfl,w,l⟩ | ⟨rfl,o,h,m,f⟩ | ⟨rfl,h⟩ | ⟨rfl,S,n,h⟩
  ·obtain⟨q,_,P,_⟩:=I.list l
   refine#[P.isList.typeIs,λa e=>?_]
   cases e
   obtain⟨o,n,e,c,f,_⟩:=P
   exact#[o,e,f]
  ·refine#[#[o,I.kIn p o h,m],λa e=>?_]
   cases e
   exact#[o,I.kIn _ o h,f]
  ·have z:∃o,s.heap.get? p=some o/\o.ExactDict:=by
    rcases h with ⟨k,h⟩ | ⟨k,h⟩
    ·obtain⟨_,_,_,_,o,_,_,e,E,_⟩:=I.hok p _ h
     exact#[o,e,E]
    ·obtain⟨_,_,_,_,o,_,_,e,E,_⟩:=I.hok p _ h
     exact#[o,e,E]
   obtain⟨o,e,E⟩:=z
   refine#[#[o,e,E.1],λa g=>?_]
   cases g
   exact#[o,e,E.2.1]
  ·obtain⟨o,_,_,_,e,E,_⟩:=I.hok p _ h
   refine#[#[o,e,E.1],λa g=>?_]
   cases g
   exact#[o,e,E.2.1]
 |_=>exact False.elim d
def BA(K:Frag)(T:String)(r:V->List V->Hp->VK->Prop)(t:TE):TE:=λc H Q=>t c H λx h=>BY K T x h/\r x [] h Q
def BC(K:Frag)(T:String)(r:V->List V->Hp->VK->Prop)(d:TE)(t:TA):TE:=λc H Q=>d c H λx h=>BY K T x h/\t c h λe f=>r x e f Q
variable {o e:Expr}{es:List Expr}{to:TE}{t:TA}{name:Str}{apos cpos:Pos}{T id:String}{r:V->List V->Hp->VK->Prop}
theorem xQ(P:PlainAttrs T)(S:Slot T name id)(f:typeOf (.builtin id)=pure (.type "method_descriptor"))(j:BM X id r)(k:PE X o to)
  (c:attributeBase o name X.env (eval o X.env)=eval o X.env:=by rfl) (d:(apos.endLine==cpos.line)=true:=by rfl):PE X (.Call (.Attribute o name apos) [] [] cpos) (BA X.K T r to):=by
 intro p s g H Q I h
 refine wpAny_Call_method0_late c d (aL (k p s g H _ I h) λv l #[x,m,i,R,n,q]=>?_)
 obtain⟨u,w⟩:=ZI i R n
 exact#[T,id,P,S,f,u,w,GZ Z (PySem.evalArgs_none (j p l g m x [] v [] Q i R .nil q))]
theorem kh(P:PlainAttrs T)(S:Slot T name id)(i:typeOf (.builtin id)=pure (.type "method_descriptor"))(m:BM X id r)(n:PE X o to)(q:PA X (e::es) t)
  (d:attributeBase o name X.env (eval o X.env)=eval o X.env:=by rfl)
  (g:((backTo cpos (starEach (e::es) X.env)).all (λx=>!x.1)&&(backToKw cpos (keywordEach [] X.env)).all (λx=>x.1.isSome)
   &&decide ((e::es).length+([]:List Keyword).length+(if ([]:List Keyword).isEmpty then 0 else 1) < 30))=true:=by rfl)
  (f:(apos.endLine==cpos.line)=true:=by rfl) (u:starEach (e::es) X.env=(false,eval e X.env)::starEach es X.env:=by rfl) (c:(backTo cpos (starEach es X.env)).any (·.1)=false:=by rfl):
  PE X (.Call (.Attribute o name apos) (e::es) [] cpos) (BC X.K T r to t):=by
 intro p s j H Q I h
 refine wpAny_Call_method_late d g f Z (aL (n p s j H _ I h) λv w #[x,y,k,R,z,A]=>?_)
 obtain⟨B,C⟩:=ZI k R z
 refine#[T,id,P,S,i,B,C,?_]
 have l:=q cpos p w j y _ k A
 rw[u]at l ⊢
 refine GZ (by show(false||(backTo cpos (starEach es X.env)).any (·.1))=false;rw[c]<;>rfl) (Calls.evalArgs_plain ?_)
 exact aL l λU D #[E,F,G,J,L]=>m p D j F x E v U Q G R J L
end
def Bq(X:Cx)(id:String)(r:V->List V->Hp->VK->Prop):Prop:=
 ∀(p:List (Addr×Obj)) (s:Shared) (a:St) (H:Hp) (x:V) (b:List V) (v:Value) (u:List Value) (Q:VK),ap X p a H s->ay x v->au b u->r x b H Q->
  wpAny (model X.prog X.w) X.A (call (.builtin id) (v::u)) (EP X p a Q) X.xe s
theorem au.one:∀{x:V} {U:List Value},au [x] U->∃u,U=[u]/\ay x u
 |_,_,.cons r .nil=>#[_,Z,r]
theorem au.zero:∀{u:List Value},au [] u->u=[]
 |_,.nil=>rfl
theorem au.dropLast(h:au x u):au x.dropLast u.dropLast:=by
 induction h with
 |nil=>exact .nil
 |cons r t i=>
  cases t with
  |nil=>exact .nil
  |cons q T=>exact .cons r i
theorem au.reverse(h:au x u):au x.reverse u.reverse:=by
 induction h with
 |nil=>exact .nil
 |cons r t i=>rw[Gf,Gf];exact au.append i (.cons r .nil)
theorem Xz{c:Type}(l:List c):l.eraseIdx (l.length - 1)=l.dropLast:=by
 induction l with
 |nil=>rfl
 |cons a r i=>
  cases r with
  |nil=>rfl
  |cons b r=>
   have e:(a::b::r).length - 1=((b::r).length - 1)+1:=by
    have h:(a::b::r).length=r.length+2:=rfl
    have H:(b::r).length=r.length+1:=rfl
    omega
   rw[e,List.eraseIdx_cons_succ,i]
   all_goals rfl
section
variable {X:Cx}{pins:List (Addr×Obj)}{σ:St}{H:Hp}{s:Shared}{l b:Addr}{xs ys zs:List V}
theorem ap.lset{i its':List Value}{f:Array Value->Array Value}{t':Nat}(I:ap X pins σ H s)(h:H l=some (.lst xs))
  (e:s.heap.get? l=some { cls:=.type "list",data:=.seq i.toArray n }) (a:f i.toArray=its'.toArray) (c:au ys its') (d:ys.length<=sizeLine):
  ap X pins σ (af H l (.lst ys)) { s with heap:=s.heap.update l (Obj.mapSeq f),toks:=t' }:=by
 have q:=PySem.IsL.update e f
 rw[a]at q
 refine I.write (x:=l) (e:=l) (by rw[h];exact DR) (.inl Z) (λB u g j=>(Du s.heap (Obj.mapSeq f) (DQ g)).trans j) #[_,q] ?_
 exact#[d,its',_,c,q]
theorem ap.lnew{t':Nat}(I:ap X pins σ H s)(h:au ys i)(a:ys.length<=sizeLine):
  ap X pins σ (af H s.heap.objs.size (.lst ys)) { s with heap:=s.heap.push { cls:=.type "list",data:=.seq i.toArray },toks:=t' }:=
 I.laid (λ_ _ q=>Dg _ q) (Dk _) #[a,i,0,h,Dl _ Z]
theorem ap.fresh(I:ap X pins σ H s):H s.heap.objs.size=none:=I.hok.fresh (Dk _)
theorem ap.lstM(I:ap X pins σ H s)(h:H l=some (.lst xs)):xs.length<=sizeLine/\∃(i:List Value) (n:Nat),au xs i/\xs.length=i.length/\s.heap.get? l=some { cls:=.type "list",data:=.seq i.toArray n }:=by
 obtain⟨z,i,n,r,e⟩:=I.hok l _ h
 exact#[z,i,n,r,r.length,e]
theorem eF(h:n<=sizeLine):Builtin.List.listTooLong n=false:=by
 unfold Builtin.List.listTooLong
 exact Dy Ic
end
section
variable {X:Cx}
def mK:V->List V->Hp->VK->Prop:=λx v H Q=>∃l a y,x= .ref l/\v=[y]/\H l=some (.lst a)/\a.length < sizeLine/\Q .non (af H l (.lst (a++[y])))
theorem jP:Bq X "list.append" mK:=by
 intro p s d H x V v U Q I R b h
 obtain⟨l,f,y,rfl,rfl,a,g,q⟩:=h
 cases R
 obtain⟨u,rfl,c⟩:=b.one
 obtain⟨z,i,n,r,j,e⟩:=I.lstM a
 refine Hy F.slot_list_append #[_,e,Z] F.entry_list_append (F.args_list_append_2 _ _) (PySem.list_append l i.toArray n u (by rw[Dn];omega)) #[e,?_]
 refine#[.non,_,I.lset (its':=i++[u]) a e Ie (r.append (.cons c .nil)) ?_,Z,q]
 rw[Dj,Fg]
 omega
def sw:V->List V->Hp->VK->Prop:=λx v H Q=>∃l b a z,x= .ref l/\v=[.ref b]/\H l=some (.lst a)/\H b=some (.lst z)/\a.length+z.length<=sizeLine/\Q .non (af H l (.lst (a++z)))
theorem Jg:Bq X "list.extend" sw:=by
 intro p s t H x V v U Q I R g h
 obtain⟨l,b,w,y,rfl,rfl,f,j,A,q⟩:=h
 cases R
 obtain⟨u,rfl,k⟩:=g.one
 cases k
 obtain⟨z,a,n,r,B,e⟩:=I.lstM f
 obtain⟨C,i,N,m,o,E⟩:=I.lstM j
 have d:a.toArray.size+i.toArray.size<=sizeLine:=by rw[Dn,Dn];omega
 have c:¬(!a.toArray.isEmpty&&Builtin.List.listTooLong (a.toArray.size+i.toArray.size))=true:=by
  rw[eF d,HM]
  exact Do
 refine Hy F.slot_list_extend #[_,e,Z] F.entry_list_extend (F.args_list_extend_2 _ _)
  (AutoSeq1.list_extend_list_list_0 l a.toArray n b i.toArray N c (by rw[Dn];omega) Ic) #[e,E,?_]
 refine#[.non,_,I.lset (its':=a++i) f e Ie (r.append m) ?_,Z,q]
 rw[Dj]
 omega
def BT:V->List V->Hp->VK->Prop:=λx v H Q=>∃l a y,x= .ref l/\v=[]/\H l=some (.lst a)/\a[a.length - 1]?=some y/\Q y (af H l (.lst a.dropLast))
theorem yq:Bq X "list.pop" BT:=by
 intro p s m H x V v U Q I R d h
 obtain⟨l,o,y,rfl,rfl,c,f,q⟩:=h
 cases R
 have a:=d.zero
 subst a
 obtain⟨z,i,n,r,g,e⟩:=I.lstM c
 obtain⟨u,j,k⟩:=r.get f
 have b:i.toArray[i.toArray.size - 1]?=some u:=by
  show i.toArray[i.length - 1]?=some u
  rw[<- EO,<- g]
  exact j
 refine Hy F.slot_list_pop #[_,e,Z] F.entry_list_pop (F.args_list_pop_1 _) (MeetsSeq.list_pop_last l i.toArray n u b (by rw[Dn];omega)) #[e,?_]
 refine#[y,_,I.lset (its':=i.dropLast) c e ?_ r.dropLast ?_,k,q]
 ·show i.toArray.eraseIdxIfInBounds (i.toArray.size - 1)=i.dropLast.toArray
  rw[Dn,List.eraseIdxIfInBounds_toArray,Xz]
 ·rw[List.length_dropLast]
  omega
def wq:R2:=λx y H Q=>∃l b a z,x= .ref l/\y= .ref b/\H l=some (.lst a)/\H b=some (.lst z)/\a.length+z.length<=sizeLine/\∀p,H p=none->Q (.ref p) (af H p (.lst (a++z)))
theorem zT:eW X (binaryOp .Add) wq:=by
 intro p s m H x y v u Q I R c h
 obtain⟨l,b,o,t,rfl,rfl,d,f,w,q⟩:=h
 cases R
 cases c
 obtain⟨z,a,n,r,A,e⟩:=I.lstM d
 obtain⟨B,i,N,g,j,E⟩:=I.lstM f
 refine PySem.P.add_list e E ?_ (by rw[Dn,Dn];omega)
 have k:a.toArray++i.toArray=(a++i).toArray:=by simp
 rw[k]
 exact#[.ref _,_,I.lnew (t':=s.toks) (r.append g) (by rw[Dj];omega),Z,q _ I.fresh]
end
section
variable {prog:Program}{w:World}{A:Around}{E:Value->Shared->Prop}{s:Shared}
theorem YK(i I : List Value)(a c : Nat) : i.toArray.extract 0 a ++ I.toArray ++ i.toArray.extract c i.toArray.size = (i.take a ++ I ++ i.drop c).toArray := by
  apply Array.toList_inj.mp
  first
    | (simp
       exact EF Ie)
    | simp [EF]
    | simp
theorem XA{a c n:Nat}(hac:a<=c)(hc:c<=n):sliceBounds (some (a:Int)) (some (c:Int)) none n=((a:Int),(c:Int),1):=by
 simp only[sliceBounds,Hu]
 have h1:¬((a:Int) < 0):=by omega
 have h2:¬((c:Int) < 0):=by omega
 simp only[h1,h2,Ek,show(1:Int) > 0 by decide,FN]
 congr 1
 ·omega
 ·congr 1;omega
set_option maxRecDepth 100000 in
theorem Ky{a c : Nat}{Q : Unit -> Shared -> Prop}
    (e : s.heap.get? l = some { cls := .type "list", data := .seq i n }) (y : s.heap.get? b = some { cls := .type "list", data := .seq N I }) (q : l ≠ b)
    (C : s.heap.IsSliceOf p z B .none) (P : IsPart z (some (a : Int))) (D : IsPart B (some (c : Int))) (r : a <= c) (F : c <= i.size)
    (f : i.size + N.size <= sizeLine) (h : Q () { s with heap := s.heap.update l (Obj.mapSeq λX => X.extract 0 a ++ N ++ X.extract c X.size) }) :
    wpAny (model prog w) A (setItem (.ref l) (.ref p) (.ref b)) Q E s := by
  have t : s.heap.IsList l i := PySem.IsL.isList e
  have G : s.heap.IsList b N := PySem.IsL.isList y
  obtain ⟨os, d, u, g⟩ := id C
  have k : s.TypeIs (.ref p) "slice" := #[os, d, u]
  have j : ¬ ((rawPart none == rawInt 0) = true) := Do
  have H : Builtin.List.listSameRef (.ref l) (.ref b) = false := by
    unfold Builtin.List.listSameRef
    exact beq_eq_false_iff_ne.mpr q
  have o : (max (a : Int) (c : Int)).toNat = c := by omega
  have v : ((λX : Array Value => X.extract 0 a ++ N ++ X.extract c X.size) i).size <= sizeLine + 1 := by
    simp only [Ho, Array.size_extract]
    omega
  unfold setItem
  try with_reducible refine DI ?_
  first | refine Dc (De ?_) | skip
  refine Dc (HI t.typeIs Ib ?_)
  refine Dc (DV (name := Str.ofString "__setitem__") t.typeIs slot_list_setitem
    (DZ slot_list_setitem t.typeIs entry_list_setitem ?_ (args_list_setitem _ _ _)))
  show wpAny _ _ (Builtin.List.listSubscript? (.ref p) >>= _) _ _ s
  refine Dc ?_
  unfold Builtin.List.listSubscript?
  refine Dc (EH k slice_no_index ?_)
  simp only [Option.isNone_none, FN]
  refine De ?_
  show wpAny _ _ (typeOf (.ref p) >>= _) _ _ s
  refine Dc (EQ k ?_)
  first
    | rw [DC Ib]
    | refine Hd Ib ?_
  rw [listSliceParts_eq]
  refine Dc (Dc (DH d g (x := .none) Z (Dc (wpAny_listPart .none ?_))))
  rw [DC j]
  refine Dc (DH d g (x := z) Z (Dc (wpAny_listPart P ?_)))
  refine Dc (DH d g (x := B) Z (Dc (wpAny_listPart D (De ?_))))
  first
    | simp only [H, Dq, Ek]
    | refine Hd H ?_
    | (dsimp only
       rw [DC (by rw [H]; exact Do)])
  refine Dc (m := Builtin.List.listAllItems (.ref b) "must assign iterable to extended slice") ?_
  unfold Builtin.List.listAllItems
  refine Dc (EQ G.typeIs ?_)
  first
    | refine PySem.W.KFB.if_so Ib ?_
    | rw [DB Ib]
    | simp only [Ht, Bool.true_or, FN]
  unfold Builtin.List.listItems
  refine Dc (D9 y Z (De ?_))
  refine Dc (Dc (D9 e Z (De ?_)))
  refine Dc (Gv ((sliceIndices_raw (some (a : Int)) (some (c : Int)) none i.size Ie).trans (El (pure : Int × Int × Int -> Sem (Int × Int × Int)) (XA r F))) ?_)
  show wpAny _ _ (if ((1 : Int) == 1) = true then _ else _) _ _ s
  rw [DB Ib]
  refine Dc (EU ?_)
  first
    | simp only [eF f, Dq, Ek]
    | refine Hd (eF f) ?_
  first | refine Dc (De ?_) | skip
  show wpAny _ _ (updateSeq l (λX => X.extract 0 ((a : Int)).toNat ++ N ++ X.extract (max (a : Int) (c : Int)).toNat X.size) >>= _) _ _ s
  rw [o, D8]
  refine Dc (G8 (hz := Ds (Fs _ _) f) (_hz' := v) e Z ?_)
  refine Dc (wpAny_letGo ?_)
  first
    | exact Dc (De (De #[.none, Z, De h]))
    | exact De #[.none, Z, De h]
end
section
variable {X:Cx}
theorem YL{Q:Unit->Shared->Prop}(I:ap X p o H s)
  (k:H l=some (.lst x)) (q:H b=some (.lst y)) (f:l≠b) (t:s.heap.IsSliceOf u v B .none) (R:ay (.int a) v) (D:ay (.int c) B) (m:0<=a) (g:a<=c) (J:c<=x.length)
  (K:x.length+y.length<=sizeLine) (h:∀S,ap X p o (af H l (.lst (x.take a.toNat++y++x.drop c.toNat))) S->Q () S):
  wpAny (model X.prog X.w) X.A (setItem (.ref l) (.ref u) (.ref b)) Q X.xe s:=by
 obtain⟨T,rfl⟩:=R
 obtain⟨L,rfl⟩:=D
 obtain⟨z,d,n,r,M,e⟩:=I.lstM k
 obtain⟨N,i,O,E,F,G⟩:=I.lstM q
 obtain⟨j,rfl⟩:=Ia m
 obtain⟨C,rfl⟩:=Ia (Int.le_trans m g)
 simp only[D8]at h
 refine Ky (a:=j) (c:=C) e G f t (.int _ _) (.int _ _) Ic (by rw[Dn];omega) (by rw[Dn,Dn];omega) (h _ ?_)
 refine I.lset (its':=d.take j++i++d.drop C) (t':=s.toks) k e ?_ (au.append (au.append (r.take _) E) (r.drop _)) ?_
 ·exact YK d i j C
 ·rw[Dj,Dj,DG,EJ]
  omega
end
end L2
namespace Att
open PySem PySem.W PySem.Calls PyProof.Rows
theorem Jy{P:Params}:∀(N:List Int) (v:List Value),WellAll P h v (N.map WData.int)->IntsAre v N:=by
 intro N
 induction N with
 |nil=>
  intro v w
  rw[List.map_nil]at w
  cases w
  exact .nil
 |cons n N i=>
  intro v w
  rw[Et]at w
  cases w with
  |cons a b=>
   cases a
   exact .cons _ _ (i _ b)
theorem YM{l:OpenLaw}(k:l.most=some n){P:Params}
  (H:l.row.toRowW.claim.pre args=true) (g:WellAll P h v args):
  ∃a V N,v=[Value.ref a]/\args=[WData.list (N.map WData.int)]/\h.get? a=some { cls:=.type "list",data:=.seq V.toArray }/\IntsAre V N/\N.length<=n:=by
 have i:WShape.hasAll [] args [.list .int]=true:=(pre_splitW H).1
 have j:l.pre.holds [] { args:=args }=true:=(pre_splitW H).2
 obtain⟨d,r,rfl,m,o⟩:=hasAllW_cons i
 obtain rfl:=hasAllW_nil o
 obtain⟨x,rfl,p⟩:=hasW_list m
 obtain⟨N,rfl⟩:=items_int p
 have b:N.length<=n:=by
  unfold OpenLaw.pre at j
  have e:(WTm.not (.lt (.lit (.int (n:Int))) (.len (.arg 0)))).holds [] { args:=[.list (N.map .int)] }=true:=by
   have e:=(holds_andW j).1
   rw[k]at e
   exact e
  have f:=condW_of e (w_not (w_lt w_lit (w_len_list (w_arg Z))))
  rw[Di]at f
  refine Nat.le_of_not_lt λq=>?_
  have Q:(n:Int) < ((N.length:Nat):Int):=by omega
  first
   | (rw[DP Q]at f;exact absurd f Ib)
   | (simp at f;omega)
 cases g with
 |cons w W=>
  cases W
  cases w with
  |list s c=>exact#[_,_,N,Z,Z,s,Jy N _ c,b]
theorem YN(l:OpenLaw)(args:List WData):l.row.toRowW.claim.post args (.bool true) args=true:=
 postW_of (r:=l.row.toRowW) (X:=(true==true))
  (show WShape.has [] (.bool true) .bool=true by first |rfl |decide |simp [WShape.has,WShape.arms,WShape.armsAll])
  (show(WTm.eq .res (.lit (.bool true))).value [] { args:=args,res:=some (.bool true),after:=args }=some (.bool (true==true)) from w_eq_bool (w_res Z) w_lit) Z
theorem attach_call{l:OpenLaw}{y:World->Heap->Prop}{d:DefRec}
  (x:l.most=some n) (g:d.params.defaults=[])
  (call:∀(w:World) (S s:Shared) (m M:Str->Option Value) (F:Addr) (o:Obj) (p C D:Value) (a:Addr) (v:List Value) (N:List Int),
   Ground q L [] z w S m M s.heap->y w s.heap->
   s.heap.get? F=some o->o.data= .func (docDef d.name d.params d.body d.scope p C D)->s.heap.CodeRec C d.name->m d.name=some (.ref F)->
   s.heap.get? a=some { cls:=.type "list",data:=.seq v.toArray }->IntsAre v N->N.length<=n->s.gens=(List.toArray [])->
   codeAny (model l.prog w) callerA (.call (.ref F) #[[.ref a],[]]) (λr e=>r= .ok (.ret (.bool true))/\OldK s.heap e.heap/\e.os=s.os/\AllBare e.gens) s):
  WalkO q L z y l.row.toRowW d [] (λf v=>PySem.call f v):=by
 intro w S s m M G Y F o p C D B kV E I i t j J A V W H u K k O
 obtain rfl:B= .none:=Dflts.none t g
 obtain rfl:kV= .none:=Dflts.noKw t
 obtain⟨a,v,N,rfl,rfl,b,h,c⟩:=YM x H k
 refine enter_call (FF (call w S s m M F o p C D a v N G Y E (fd_plain I) i j b h c J) λr e P=>?_)
 obtain⟨rfl,Q,R,T⟩:=P
 exact#[.inl #[.bool true,.bool true,[],Z,λ_=>Z,.bool true,YN l _,λ_=>#[List.Pairwise.nil,λ_ U=>(nomatch U)]],Q,R,T]
end Att
namespace L2
open PySem PySem.Spec PyProof.Rows
theorem KZ:∀{v:List Value} {N:List Int},IntsAre v N->au (N.map V.int) v
 |_,_,.nil=>.nil
 |_,_,.cons n t h=>.cons #[t,Z] (KZ h)
def xC(H:Hp):Prop:=∀b,H b=none∨∃o x,H b=some (.frz o (.lst x))
theorem oW{P:Program}{K:Frag}{S:Shared}{i:List Value}
  (Y:K.In S.heap) (l:S.heap.Ns mainGlobals M) (c:S.heap.Ns builtinsNs mb) (Q:∀x:Str,x≠"__name__"->mb x=bootBuiltins x) (p:S.heap.NoLimit) (hg:S.gens=(List.toArray []))
  (J:S.heap.get? a=some { cls:=.type "list",data:=.seq i.toArray }) (hi:IntsAre i O) (hl:O.length<=sizeLine) (hr:bq k callerA)
  (F:∀f:Heap,K.In f->f.Ns mainGlobals M->ai P w K M f CX k fa fd [x] sp) (j:∀(s:Shared) (u:Value),BindsTo s fd #[[u],[]] [(x,u)])
  (R:∀H:Hp,xC H->aE K H a (O.map V.int)->sp [.ref a] H (λv _=>v= .bl true) λ_ _ _=>False)
  (T:∀H e g,CX [] H S (λ_ _ _=>False) e g->False):
  codeAny (model P w) callerA (.call (.ref fa) #[[.ref a],[]]) (λr g=>r= .ok (.ret (.bool true))/\OldK S.heap g.heap/\g.os=S.os/\AllBare g.gens) S:=by
 have rv:=KZ hi
 have L:=hi.length
 have C:∀H:Hp,xC H->aE K H a (O.map V.int)->dR P w H S.heap->(∀b,H b≠none->b=a)->(H a≠none->K.lookup a=none)->
   codeAny (model P w) callerA (.call (.ref fa) #[[.ref a],[]]) (λr g=>r= .ok (.ret (.bool true))/\OldK S.heap g.heap/\g.os=S.os/\AllBare g.gens) S:=by
  intro H hO hS t hA hK
  have B:∀{b:Addr} {o:Obj},S.heap.get? b=some o->H b=none->(iM S.heap H).get? b=some o:=λe n=>Z1 e n
  have U:∀{b:Addr} {o:Obj} {E:Array DictEntry} {y:Nat},S.heap.get? b=some o->o.data= .dict E y->H b=none:=λ{b o E y} e d=>by
   cases q:H b with
   |none=>rfl
   |some u=>
    have W:b=a:=hA b (by rw[q];simp)
    subst W
    rw[J]at e;cases e
    have d':Data.seq i.toArray _=Data.dict E y:=d
    cases d'
  have N:∀{b:Addr} {m:Str->Option Value},S.heap.Ns b m->(iM S.heap H).Ns b m:=λ{b m} #[o,E,y,e,d,r]=>#[o,E,y,B e (U e d),d,r]
  have A:K.In (iM S.heap H):=λb o e=>B (Y b o e) (by
   cases q:H b with
   |none=>rfl
   |some u=>
    have W:b=a:=hA b (by rw[q];simp)
    subst W
    rw[hK (by rw[q];simp)]at e;cases e)
  have hM:Mod K M (iM S.heap H):=#[A,N l,#[mb,N c,Q],let #[mc,h1,h2]:=p;#[mc,N h1,h2]]
  have e0:lX P w K M (iM S.heap H) callerA [] S H:=#[Z,hM,λb o e=>rV e,Hl (YC _ _),DR,λb c=>absurd (show b∈([]:List Addr) from c) Ie,t,.of_eq hg]
  refine FF ((F _ A (N l)).run callerA [] S H #[[.ref a],[]] [.ref a] [.ref a] _ _ hr e0 (j S (.ref a)) (.cons Z .nil) (R H hO hS)) λr g h=>?_
  cases r with
  |error e=>exact(T H e g h).elim
  |ok fl=>
   cases fl with
   |next=>exact False.elim h
   |brk=>exact False.elim h
   |cont=>exact False.elim h
   |ret u=>
    obtain⟨v,H',os,D,un,G,r',q⟩:=h
    have q':v= .bl true:=q
    subst q'
    obtain rfl:u=Value.bool true:=r'
    refine#[Z,OldK.of_keep λb o e=>?_,os,D]
    cases q:H b with
    |none=>exact un.keep b o e q (by intro z;exact absurd (show b∈([]:List Addr) from z) Ie) Ie
    |some u=>
     rcases hO b with z | ⟨ob,xs,z⟩
     ·rw[q]at z;cases z
     ·have z2:=un.frzs b ob _ z
      obtain⟨e1,_⟩:=t b _ z
      obtain⟨e2,_⟩:=G b _ z2
      rw[e]at e1;cases e1
      exact e2
 cases X:K.lookup a with
 |some o=>
  have e:=Y a o X
  rw[J]at e
  cases e
  refine C (λ_=>none) (λ_=>.inl Z) (.inr #[_,i.toArray,_,X,Z,Z,Z,by rw[Dn,L];exact hl,by simpa using rv]) (λb u z=>by have I:(none:Option HO)=some u:=z;cases I) (λb z=>absurd Z z) λz=>absurd Z z
 |none=>
  refine C (λb=>if b=a then some (.frz { cls:=.type "list",data:=.seq i.toArray } (.lst (O.map V.int))) else none) (λb=>?_) (.inl (.inr #[{ cls:=.type "list",data:=.seq i.toArray },DB Z])) (λb u z=>?_) (λb z=>?_) λ_=>X
  ·by_cases c:b=a
   ·exact .inr #[_,_,DB c]
   ·exact .inl (DC c)
  ·by_cases c:b=a
   ·have I:=(DB c).symm.trans z
    cases I
    subst c
    exact#[J,by rw[Di];exact hl,i,_,rv,J]
   ·have I:=(DC c).symm.trans z
    cases I
  ·by_cases c:b=a
   ·exact c
   ·exact absurd (DC c) z
theorem tK{l:PySem.W.OpenLaw}{n k:Nat}{E:World->Heap->Prop}{d:DefRec}{K:Params->Frag}{CX:World->mX}{sp:World->Sp}{x:Str}
  (O:l.most=some n) (r:n<=sizeLine) (t:d.params.defaults=[]) (P:bq k callerA)
  (Q:∀(w:World) (h:Heap),E w h->(K w.params).In h)
  (F:∀(w:World) (m:Str->Option Value) (p:Addr) (h:Heap),(K w.params).In h->h.Ns mainGlobals m->m d.name=some (.ref p)->
   ∃y:FuncData,(∀(s:Shared) (u:Value),BindsTo s y #[[u],[]] [(x,u)])/\
    ∀B:Heap,(K w.params).In B->B.Ns mainGlobals m->ai l.prog w (K w.params) m B (CX w) k p y [x] (sp w))
  (z:∀(w:World) (H:Hp) (a:Addr) (N:List Int),N.length<=n->xC H->aE (K w.params) H a (N.map V.int)->sp w [.ref a] H (λv _=>v= .bl true) λ_ _ _=>False)
  (A:∀(w:World) (H:Hp) (s:Shared) (e:Value) (C:Shared),CX w [] H s (λ_ _ _=>False) e C->False):
  PySem.W.WalkO q L XP E l.row.toRowW d [] (λf I=>PySem.call f I):=by
 refine Att.attach_call O t λw J S m mb p o pm cd R a I N G Y ho hd U D j i c X=>?_
 have M:=Q w _ Y
 obtain⟨y,hb,hF⟩:=F w m p _ M G.T.g D
 exact oW M G.T.g G.T.b G.T.builtins G.T.nolimit X j i (Ds c r) P hF hb (λH hO hS=>z w H a N c hO hS) λH e C=>A w H S e C
noncomputable def bL(s:Stmt)(j:Nat):Stmt:=match s with
 | .ClassDef _ _ _ b _ _ _ _ _ _ _=>b.getD j (.Pass #[0,0,0,0])
 |_=>.Pass #[0,0,0,0]
noncomputable def bg(s:Stmt):Arguments:=match s with
 | .FunctionDef _ a _ _ _ _ _ _ _ _=>a
 |_=>{ posonlyargs:=[],args:=[],vararg:=none,kwonlyargs:=[],kw_defaults:=[],kwarg:=none,defaults:=[] }
noncomputable def a7(s:Stmt):List Stmt:=match s with
 | .FunctionDef _ _ b _ _ _ _ _ _ _=>b
 |_=>[]
noncomputable def aa(s:Stmt):Scope:=match s with
 | .FunctionDef _ _ _ _ _ _ S _ _ _=>S
 |_=>{ kind:=.function,names:=[],isGenerator:=false,isCoroutine:=false }
abbrev ax:mX:=λ_ _ _ _ _ _=>False
abbrev E0:XK:=λ_ _ _=>False
theorem bh{X:Cx}:cV ax X E0:=λ_ _ _ _ _ _ _ h=>h.elim
structure aJ(K:Frag)(x qual:Str)(st:Stmt)(f:Addr)(fd:FuncData):Prop where
 ex:∃(oc:Value) (od:Option Addr) (kV doc pm:Value) (an:Option Addr) (cdv ct:Value) (osl:Array (Option Value)),
  fd=fnOf x qual (bg st) (a7 st) (aa st) .none kV doc pm an cdv ct/\K.lookup f=some #[oc,od,.func fd,osl]/\codeIn K cdv qual=true
 kp:keepIn K (.ref f)=true
section
variable {P:Program}{w:World}{K:Frag}{mg:Str->Option Value}{base:Heap}
theorem aJ.ok{st:Stmt}{d:Sp}(F:aJ K x a st f i)(S:aj N p (aa st))(len:∀v H Q E,d v H Q E->v.length=p.length)
  (b:∀(c:Value) (A:Around) (o:List Env) (s:Shared) (H:Hp) (v:List V) (Q:VK) (E:XK),bq k (A.deeper (envOfC a (aa st) s.heap.objs.size f c))->d v H Q E->
   ∃t,iS (eB ax P w K mg base N a (aa st) f c A o s H E).nox (a7 st) t/\t { nx:=λ_ j=>Q .non j,rt:=Q } (eS N v) H):ai P w K mg base ax (k+1) f i p d:=by
 obtain⟨m,n,kV,D,r,u,c,C,O,rfl,lk,e⟩:=F.ex
 refine vt lk e S len λA o s H v Q E l g=>?_
 obtain⟨t,h,q⟩:=b c A o s H v Q E l g
 exact#[t,h.nox,q]
theorem aJ.binds{st:Stmt}{p:List Str}(F:aJ K x q st f b)
  (h:∀(kV d a:Value) (A:Option Addr) (c C:Value) (u:List Value),u.length=p.length->bindArgs (fnOf x q (bg st) (a7 st) (aa st) .none kV d a A c C) #[u,[]]=pure (p.zip u)):aw K b p []:=by
 obtain⟨O,e,kV,d,a,A,c,C,o,rfl,lk,H⟩:=F.ex
 exact .all (h kV d a A c C)
theorem ZJ{st:Stmt}{kV:Value}(l:K.lookup f=some #[O,e,.func (fnOf x q (bg st) (a7 st) (aa st) .none kV d p a C b),o])
  (c:codeIn K C q=true) (k:keepIn K (.ref f)=true):aJ K x q st f (fnOf x q (bg st) (a7 st) (aa st) .none kV d p a C b):=#[#[O,e,kV,d,p,a,C,b,o,Z,l,c],k]
end
theorem kG(h:bq k A):A.units+1 < cLine:=Ez (Nat.add_le_add_left (by decide:1<=64) _) h.units
section
variable {X:Cx}
theorem pv(i:Nat){x:Str}{p:Pos}(H:X.N[i]?=some x:=by rfl)(a:Bc X.env.scope x:=by first |exact Or.inl Z |exact Or.inr (Or.inl Z) |exact Or.inr (Or.inr Z))(b:(x==("__debug__":Str))=false:=by decide)
  (h:(x==("__classdict__":Str))=false:=by decide):PE X (.Name x p) (aU i):=wb H a b h
end
theorem nC{A B:Prop}(h:B):if false=true then A else B:=by
 rw[DC Do]
 exact h
theorem iT{A B:Prop}(h:A):if true=true then A else B:=by
 rw[DB Z]
 exact h
theorem bp{c A B:Prop}[Decidable c](H:c->A)(a:¬c->B):if c then A else B:=by
 by_cases h:c
 ·rw[DB h]
  exact H h
 ·rw[DC h]
  exact a h
def ae(H h:Hp):Prop:=∀b o,H b=some o->h b=some o
theorem ae.refl(H:Hp):ae H H:=λ_ _ h=>h
theorem ae.trans(a:ae H d)(b:ae d e):ae H e:=λc o h=>b c o (a c o h)
theorem ae.free(e:ae H a)(h:a l=Option.none):H l=Option.none:=by
 cases q:H l with
 |none=>rfl
 |some o=>
  rw[e l o q]at h
  cases h
theorem ae.seq{K:Frag}(e:ae H b)(h:aE K H a x):aE K b a x:=by
 rcases h with (h | ⟨o,h⟩) |h
 ·exact .inl (.inl (e _ _ h))
 ·exact .inl (.inr #[o,e _ _ h])
 ·exact .inr h
section
variable {prog:Program}{w:World}{A:Around}{R:Result->Shared->Prop}{s:Shared}
abbrev vA:Value->Shared->Prop:=λ_ _=>False
theorem YO{iter:Expr}(I:Nat->Shared->Prop)
  (T:∀n s,I n s->wpAny (model prog w) A (pyNext B) (λr S=>match r with
   |none=>R (.ok .next) S
   |some v=>wpAny (model prog w) A (letOwnedTupleGo t B v) (λ_ b=>wpAny (model prog w) A (assign t e v) (λ_ d=>
     wpAny (model prog w) A (forIn l true λc r=>if r=true then do let o <- isTrue c e (eval c e);pure (ForInStep.yield o) else pure (ForInStep.yield r)) (λo a=>
      if o=true then wpAny (model prog w) A (eval E e) (λx g=>
       wpAny (model prog w) A (call (.builtin "list.append") [p,x]) (λ_ i=>∃m,m < n/\I m i) vA g) vA a
      else ∃m,m < n/\I m a) vA d) vA b) vA S) vA s)
  (n:Nat) (h:I n s):
  codeAny (model prog w) A (.compLoop (.ListComp E [#[t,iter,l,0]] k C) 0 B p e) R s:=by
 refine codeAny_loop Z I (λn s D=>?_) n h
 show wpAny _ A ((compTurn (.ListComp E [#[t,iter,l,0]] k C) 0 B p e).onRaise (λx=>do noteFrame x e;theTreesLotGoes x)) _ _ s
 refine wpAny_noted ?_
 rw[compTurn_list]
 refine Dc (Fp (Dc (Eh (T n s D) (λr S H=>?_) λ_ _ f=>f.elim)))
 cases r with
 |none=>exact De H
 |some v=>
  refine Dc (Eh H (λ_ b q=>?_) λ_ _ f=>f.elim)
  refine Dc (Eh q (λ_ d u=>Dc (Eh u (λo a j=>?_) λ_ _ f=>f.elim)) λ_ _ f=>f.elim)
  cases o with
  |false=>exact De #[Z,j]
  |true=>
   exact Dc (Dc (Eh j (λx g y=>Dc (Eh y (λ_ i z=>De (De #[Z,z])) λ_ _ f=>f.elim)) λ_ _ f=>f.elim))
end
noncomputable def aS(X:Cx)(s:Scope)(M:List Str)(c:List (Str×Addr))(C:Addr)(f:List Addr)(S:Shared)(H:Hp):Cx where
 prog:=X.prog
 w:=X.w
 K:=X.K
 mg:=X.mg
 base:=X.base
 A:=X.A
 N:=M
 s₀:=S
 H₀:=H
 env:=compEnvC s c C X.env
 outer:=X.stack
 stack:=X.stack
 ex:=f
 fn:=λ_=>false
 calm:=X.calm
 pn:=[]
 xe:=λ_ _=>False
noncomputable def yJ(n:Nat)(I:List Nat)(a:St):St:=List.replicate n none++I.map λi=>(a[i]?).getD none
structure aX(N:List Str)(sc scope:Scope)(M:List Str)(nT:Nat)(ix:List Nat):Prop where
 cell:∀y∈scope.names,y.2≠ .cell
 kind:scope.kind= .function
 loc:∀y∈scope.names,y.2= .local->scope.names.lookup y.1=some .local
 fre:∀y∈scope.names,y.2= .free->sc.names.lookup y.1=some .cell
 nms:M.drop nT=ix.map λi=>N.getD i Str.empty
 len:M.length=nT+ix.length
 vis:∀i∈ix,scope.names.lookup (N.getD i Str.empty)=some .free
theorem qR{E:Env}(c:E.scope.kind= .function):∀{N:List (Str×NameKind)} {y:Str},N.lookup y=some .free->E.kindOf y=some .cell->
  (N.map λ(n,k)=>if (k==NameKind.free&&E.scope.kind== .function&&E.kindOf n==some .cell) then (n,NameKind.cell) else (n,k)).lookup y=some .cell
 | [],_,h,_=>by simp at h
 | (n,k)::r,y,h,b=>by
  have i:=@qR E c r y
  show List.lookup y ((if (k==NameKind.free&&E.scope.kind== .function&&E.kindOf n==some .cell)=true then (n,NameKind.cell) else (n,k))::_)=_
  cases H:y==n with
  |true=>
   simp only[Ef,H]at h
   cases h
   have e:y=n:=by simpa using H
   subst e
   rw[DB (by rw[c,b];rfl)]
   simp [Ef]
  |false=>
   simp only[Ef,H]at h
   by_cases a:(k==NameKind.free&&E.scope.kind== .function&&E.kindOf n==some .cell)=true
   ·rw[DB a];simp only[Ef,H];exact i h b
   ·rw[DC a];simp only[Ef,H];exact i h b
theorem Kh{E:Env}:∀{N:List (Str×NameKind)} {y:Str} {K:NameKind},
  (N.map λ(n,k)=>if (k==NameKind.free&&E.scope.kind== .function&&E.kindOf n==some .cell) then (n,NameKind.cell) else (n,k)).lookup y=some K->
  ∃k,N.lookup y=some k/\(K=k∨k= .free)
 | [],_,_,h=>by simp at h
 | (n,k)::r,y,K,h=>by
  have i:=@Kh E r y K
  have h:List.lookup y ((if (k==NameKind.free&&E.scope.kind== .function&&E.kindOf n==some .cell)=true then (n,NameKind.cell) else (n,k))::_)=some K:=h
  cases a:y==n with
  |true=>
   refine#[k,by simp only[Ef,a],?_]
   by_cases H:(k==NameKind.free&&E.scope.kind== .function&&E.kindOf n==some .cell)=true
   ·right
    simp only[Ej]at H
    simpa using H.1.1
   ·rw[DC H]at h;simp only[Ef,a]at h;left;exact(DT h).symm
  |false=>
   have b:List.lookup y (r.map λ(n,k)=>if (k==NameKind.free&&E.scope.kind== .function&&E.kindOf n==some .cell) then (n,NameKind.cell) else (n,k))=some K:=by
    by_cases H:(k==NameKind.free&&E.scope.kind== .function&&E.kindOf n==some .cell)=true
    ·rw[DB H]at h;simp only[Ef,a]at h;exact h
    ·rw[DC H]at h;simp only[Ef,a]at h;exact h
   obtain⟨c,e,q⟩:=i b
   exact#[c,by simp only[Ef,a];exact e,q]
noncomputable def aQ(e:Env):List (Str×NameKind)->List (Str×Addr)->List (Str×Addr)
 | [],a=>a
 | (n,k)::r,a=>if k== .free then aQ e r ((n,(e.cells.lookup n).getD 0)::a) else aQ e r a
theorem zJ{E:Env}:∀{N:List (Str×NameKind)} {acc:List (Str×Addr)},(∀y∈N,y.2= .free->∃c,E.cells.lookup y.1=some c)->(∀x c,acc.lookup x=some c->E.cells.lookup x=some c)->
  ∀x c,(aQ E N acc).lookup x=some c->E.cells.lookup x=some c
 | [],_,_,b,x,c,h=>b x c h
 | (n,k)::r,acc,f,b,x,c,h=>by
  unfold aQ at h
  by_cases g:(k==NameKind.free)=true
  ·rw[DB g]at h
   refine zJ (λy H=>f y (DK _ H)) (λX j a=>?_) x c h
   obtain⟨C,d⟩:=f (n,k) DA (by simpa using g)
   have d:E.cells.lookup n=some C:=d
   simp only[Ef]at a
   cases i:X==n with
   |true=>
    rw[i]at a
    have e:X=n:=by simpa using i
    subst e
    rw[d]at a
    rw[d]
    exact a
   |false=>rw[i]at a;exact b _ _ a
  ·rw[DC g]at h
   exact zJ (λy H=>f y (DK _ H)) b x c h
theorem qe:∀{a:List (Str×Addr)},(∃c,(x,c)∈a)->∃c,a.lookup x=some c
 | [],h=>by obtain⟨_,h⟩:=h;cases h
 | (n,c)::r,h=>by
  simp only[Ef]
  cases H:x==n with
  |true=>exact#[c,Z]
  |false=>
   obtain⟨C,h⟩:=h
   rcases List.mem_cons.mp h with e |h
   ·injection e with E _
    subst E
    simp at H
   ·exact qe #[C,h]
theorem qv:∀{N:List (Str×NameKind)} {a:List (Str×Addr)},((∃c,(x,c)∈a)∨(x,NameKind.free)∈N)->∃c,(x,c)∈aQ E N a
 | [],_,h=>by
  rcases h with h |h
  ·exact h
  ·cases h
 | (n,k)::r,a,h=>by
  unfold aQ
  by_cases H:(k==NameKind.free)=true
  ·rw[DB H]
   refine qv ?_
   rcases h with ⟨c,h⟩ |h
   ·exact .inl #[c,DK _ h]
   ·rcases List.mem_cons.mp h with e |h
    ·injection e with b _
     subst b
     exact .inl #[_,DA]
    ·exact .inr h
  ·rw[DC H]
   refine qv ?_
   rcases h with h |h
   ·exact .inl h
   ·rcases List.mem_cons.mp h with e |h
    ·injection e with _ d
     subst d
     exact absurd Z H
    ·exact .inr h
theorem qk{e:Env}:∀(N:List (Str×NameKind)) (A:List (Str×Addr)),(∀y∈N,y.2= .free->∃c,e.cells.lookup y.1=some c)->
  (forIn N A (λx r=>match x with | (name,K)=>if (K==NameKind.free)=true then (do let a <- cellOf e name;pure (ForInStep.yield ((name,a)::r))) else pure (ForInStep.yield r)):Sem (List (Str×Addr)))=pure (aQ e N A)
 | [],A,_=>rfl
 | (n,k)::r,A,b=>by
  have i:=λA=>qk r A λy H=>b y (DK _ H)
  rw[EC]
  unfold aQ
  by_cases h:(k==NameKind.free)=true
  ·obtain⟨C,E⟩:=b (n,k) DA (by simpa using h)
   have E:e.cells.lookup n=some C:=E
   have d:cellOf e n=pure C:=by unfold cellOf;rw[E]
   rw[DB h]
   simp only[h,FN,d,E]
   exact i _
  ·rw[DC h]
   simp only[h]
   exact i _
theorem zA{e:Env}{S:Scope}(H:∀y∈S.names,y.2= .free->∃c,e.cells.lookup y.1=some c):closureFor S e=pure (aQ e S.names []):=by
 have h:=qk S.names [] H
 exact El (λt:Sem (List (Str×Addr))=>t >>= λs=>pure s) h
section
variable {X:Cx}{pins:List (Addr×Obj)}{σ:St}{H:Hp}{s:Shared}
theorem zV(I:ap X pins σ H s)(S:aX X.N X.env.scope a M n i):∀y∈a.names,y.2= .free->∃c,X.env.cells.lookup y.1=some c:=
 λy h e=>I.ok.has y.1 (.inl (S.fre y h e))
theorem oU{g:Heap}(I:ap X pins σ H s)(F:∀b∈Y,eK X pins H b)(P:∀b∈Y,b < s.heap.objs.size)
  (S:aX X.N X.env.scope a M n G) (Q:s.heap.objs.size<=C) (O:∀b o,s.heap.get? b=some o->g.get? b=some o) (R:g.Ns C m):
  ap (aS X a M (aQ X.env a.names []) C Y s H) [] (yJ n G σ) H { s with heap:=g,toks:=tk }:=by
 have sub:∀x c,(aQ X.env a.names []).lookup x=some c->X.env.cells.lookup x=some c:=zJ (zV I S) (λx c h=>by simp at h)
 have j:∀x,a.names.lookup x=some .free->∃c,(aQ X.env a.names []).lookup x=some c:=λx e=>qe (qv (.inr (Ew e)))
 have hex:∀x K,(relabel a X.env).names.lookup x=some K->(K= .cell∨K= .free)->a.names.lookup x=some .free:=λx K e A=>by
  obtain⟨k,t,q⟩:=Kh e
  rcases q with q |q
  ·rcases A with z |z
   ·exact absurd (q.symm.trans z) (S.cell (x,k) (Ew t))
   ·rw[t,<- q,z]
  ·rw[t,q]
 refine#[#[I.ok.mod,S.kind,I.ok.glob,I.ok.blt,Q,λx y c h1 h2=>I.ok.inj x y c (sub x c h1) (sub y c h2),λx hx=>?_,λx c hx=>?_,I.ok.hd,I.ok.frames,.inl Z,λb w=>#[λz=>?_,λx c e=>?_],I.bs,Ds I.ok.bsz I.sz,λb o e w=>?_,λb w hz=>?_,I.stack,I.stkFree],
  rfl,I.bare,Un.kept O,#[m,R,λk y v t E _=>?_],λx c e=>?_,I.hok.fresh Q,λx c e=>I.freeC x c (sub x c e),λp hp=>absurd (show p∈([]:List (Addr×Obj)) from hp) Ie,I.hok.kept O,?_]
 ·rcases hx with hx |hx
  ·exact j x (hex x _ hx (.inl Z))
  ·exact j x (hex x _ hx (.inr Z))
 ·exact absurd (show false=true from hx) Ib
 ·have z':b=C:=z
  have:=P b w
  rw[z']at this
  exact absurd this (Nat.not_lt.mpr Q)
 ·exact(F b w).2.2.2.2.1 x c (sub x c e)
 ·rcases(F b w).2.2.2.1 with z |z
  ·exact I.ok.noex b o e z
  ·exact absurd (Dr (Dm e) (Ds I.ok.bsz z)) (Ee _)
 ·rcases List.mem_cons.mp (I.stkSub b hz) with z |z
  ·exact(F b w).2.1 z
  ·exact(F b w).2.2.1 z
 ·have E:(yJ n G σ)[k]?=some (some v):=E
  have t:M[k]?=some y:=t
  unfold yJ at E
  by_cases A:k < n
  ·rw[ER (by simpa using A),HY]at E
   simp [A]at E
  ·have B:n<=k:=Nat.le_of_not_lt A
   rw[EM (by simpa using B),GQ,DE]at E
   cases J:G[k - n]? with
   |none=>rw[J]at E;cases E
   |some i=>
    rw[J]at E
    have L:(σ[i]?).getD none=some v:=DT E
    have V:σ[i]?=some (some v):=by
     cases W:σ[i]? with
     |none=>rw[W]at L;cases L
     |some o=>rw[W]at L;exact El some L
    have hi:i < X.N.length:=by rw[<- I.len];exact(List.getElem?_eq_some_iff.mp V).1
    have e7:y=X.N.getD i Str.empty:=by
     have q:(M.drop n)[k - n]?=some y:=by rw[List.getElem?_drop];rw[Nat.add_sub_cancel' B];exact t
     rw[S.nms,DE,J]at q
     exact(DT q).symm
    have e8:X.N[i]?=some y:=by rw[e7,Dh hi,Fn,Dh hi];rfl
    have d:a.names.lookup y=some .free:=by rw[e7];exact S.vis i (Dx J)
    have f:X.env.scope.names.lookup y=some .cell:=S.fre (y,.free) (Ew d) Z
    obtain⟨m',_,hl⟩:=I.loc
    obtain⟨u,r,l⟩:=hl i y v e8 V (.inr (.inl f))
    refine#[u,r,?_]
    rcases l with ⟨l,_⟩ | ⟨_,c,ec,o,T,U⟩
    ·have l:X.env.scope.names.lookup y=some .local:=l
     rw[f]at l
     cases l
    ·obtain⟨c',D⟩:=j y d
     have q:=sub y c' D
     rw[ec]at q
     cases q
     exact .inr #[.inl (qR I.ok.kind d f),c,D,o,O _ _ T,U]
 ·obtain⟨v,o,T,U⟩:=I.cell x c (sub x c e)
  exact#[v,o,O _ _ T,U]
 ·show(yJ n G σ).length=M.length
  rw[S.len]
  simp [yJ]
theorem ap.track(I:ap X pins σ H s)(f:eK X pins H D)(G:X.s₀.heap.objs.size<=D)(a:aG X.prog X.w (af H D o) s.heap D o):ap X pins σ (af H D o) s:=by
 have n:=f.1
 have N:∀b u,H b=some u->b≠D:=λb u e=>jj e n
 refine#[I.ok,I.os,I.bare,#[I.base.keep,I.base.slot,λb O e q i=>?_,I.base.there,λb d e=>?_,λb O u e=>?_,λb P e=>?_],I.loc,I.cell,?_,λx c e=>?_,λp h=>?_,λb u e=>?_,I.len]
 ·rw[ji (Dp (Dr (Dm e) G))]
  exact I.base.free b O e q i
 ·have q:=I.base.tups b d e
  rw[ji (N _ _ q)]
  exact q
 ·have q:=I.base.frzs b O u e
  rw[ji (N _ _ q)]
  exact q
 ·obtain⟨m,q⟩:=I.base.tbls b P e
  exact#[m,by rw[ji (N _ _ q)];exact q]
 ·rw[ji (DQ f.2.1)]
  exact I.free
 ·rw[ji (f.2.2.2.2.1 x c e)]
  exact I.freeC x c e
 ·obtain⟨e,q,r⟩:=I.pin p h
  exact#[e,by rw[ji (f.2.2.2.2.2 p h)];exact q,r]
 ·by_cases g:b=D
  ·subst g
   rw[jc]at e
   cases e
   exact a
  ·rw[ji g]at e
   exact(I.hok b u e).stay (λ_ _ _ q=>q) (λc q=>by rw[ji (N _ _ q)];exact q) λc d q=>by rw[ji (N _ _ q)];exact q
noncomputable abbrev gN(u:List Value):Obj:={ cls:=.type "list",data:=.seq u.toArray u.length }
theorem YQ(u:List Value)(y:Value):({ cls:=.type "list",data:=.seq (u.toArray.push y) (u.length+1) }:Obj)=gN (u++[y]):=by
 show({ cls:=.type "list",data:=.seq (u.toArray.push y) (u.length+1) }:Obj)={ cls:=.type "list",data:=.seq (u++[y]).toArray (u++[y]).length }
 rw[Dj,Fg,List.push_toArray]
def PF(X:Cx)(i:List Expr)(t:TT):Prop:=
 ∀(pins:List (Addr×Obj)) (s:Shared) (σ:St) (H:Hp) (Q:Bool->Hp->Prop),ap X pins σ H s->t σ H Q->
  wpAny (model X.prog X.w) X.A (forIn i true λc r=>if r=true then do let o <- isTrue c X.env (eval c X.env);pure (ForInStep.yield o) else pure (ForInStep.yield r)) (TP X pins σ Q) X.xe s
def hX:TT:=λ_ H Q=>Q true H
theorem kW:PF X [] hX:=λ_ _ _ H _ I h=>wpAny_tests_nil #[H,I,h]
theorem xP{c:Expr}{t:TT}(h:PT X c t):PF X [c] t:=λpins s σ H Q I q=>wpAny_tests_one (h pins s σ H Q I q)
noncomputable def j'(I:List Nat)(σ:St):St:=I.map λi=>(σ[i]?).getD none
def dM(J:It)(n:Nat)(t:St)(g:TG)(j:TT)(k:TE)(Q:List V->Hp->Prop)(H:Hp):Prop:=
 ∃W:Nat->Nat->List V->Hp->Prop,(∃m,W 0 m [] H)/\∀i m Y H,W i m Y H->
  (J.stop i H/\Q Y H)∨(J.go i H/\Y.length < sizeLine/\∃N:List V->Hp->Prop,(∀c h,N c h->∃M,M < m/\W (i+1) M c h)/\
   ∀x d (e:St),e.length=n->J.yld i H x d->g x (e++t) d λa h=>(∃T:St,T.length=n/\a=T++t)/\j a h λb f=>if b=true then k a f λy l=>N (Y++[y]) l else N Y f)
theorem qw{iter:Expr}
  {RR:Value->Addr->Result->Shared->Prop} 
  (I:ap X pins σ H s) (hc:X.calm=true) (T:iY X.prog X.w X.K tg J j it tn) (st:tn 0 s.heap) (hf:∀b∈j,eK X pins H b) (S:aX X.N X.env.scope scope M nT ix)
  (hg:∀cl C j s H,PG (aS X scope M cl C j s H) tg g) (hi:∀cl C j s H,PF (aS X scope M cl C j s H) i0 tt) (he:∀cl C j s H,PE (aS X scope M cl C j s H) e0 te)
  (h:dM J nT (j' ix σ) g tt te Qf H)
  (h':∀D C Y m l F,(∀b o u,H b=some (.frz o u)->l b=some (.frz o u))->l D=none->ap X pins σ (af l D (.lst Y)) F->eK X pins (af l D (.lst Y)) C->F.heap.Ns C m->Qf Y l->RR (.ref D) C (.ok .next) F):
  wpAny (model X.prog X.w) X.A (newList []) (λacc t=>wpAny (model X.prog X.w) X.A (newFunctionEnv scope X.env.globals (aQ X.env scope.names []) [] X.env.qual none .none (some X.env)) (λV s0=>
   codeAny (model X.prog X.w) X.A (.compStart (.ListComp e0 [#[tg,iter,i0,0]] scope p1) 0 (.ref it) acc { V with scope:=relabel scope X.env }) (RR acc V.locals) s0) E t) E s:=by
 obtain⟨W,⟨m0,w0⟩,t1⟩:=h
 have h3:∀b∈j,b < s.heap.objs.size:=λb a=>by
  obtain⟨o,e,_⟩:=T.obj 0 _ st b a
  exact Dm e
 refine DX (wpAny_newFunctionEnv S.cell (by intro y hy;simp at hy) (λB k f=>?_) S.kind)
 dsimp only at k f ⊢
 generalize h4:s.heap.push { cls:=.type "list",dict:=none,data:=.seq ([]:List Value).toArray }=H2 at k f ⊢
 have hC:H2.objs.size=s.heap.objs.size+1:=by rw[<- h4,D5]
 have O:s.heap.objs.size≠H2.objs.size:=by rw[hC];exact Dp (Eo _)
 have h0:s.heap.objs.size<=H2.objs.size:=by rw[hC];exact EA _
 have b0:∀b,b < s.heap.objs.size->b≠H2.objs.size/\b≠s.heap.objs.size:=λb a=>#[by rw[hC];exact Dp (Fh a),Dp a]
 have o1:∀b o,s.heap.get? b=some o->B.get? b=some o:=λb o e=>f.extBut b o (b0 b (Dm e)).1 (Dg _ (h4▸Dg _ e))
 have h5:B.get? s.heap.objs.size=some (gN []):=f.extBut _ _ O (Dg _ (h4▸Dl _ Z))
 have a0:H s.heap.objs.size=none:=I.hok.fresh (Dk _)
 have h6:s.heap.objs.size∉gX X.stack:=λa=>(List.mem_cons.mp (I.stkSub _ a)).elim (λe=>absurd I.lt (by rw[<- e];exact Ee _)) (I.nofs (Dk _))
 generalize hD:s.heap.objs.size=D at*
 generalize a':H2.objs.size=C at*
 have J0:∀tk,ap (aS X scope M (aQ X.env scope.names []) C j s H) [] (yJ nT ix σ) H { s with heap:=B,toks:=tk }:=λtk=>oU I hf (by rw[hD];exact h3) S (by rw[hD];exact h0) o1 k
 have c0:∀x c,(aQ X.env scope.names []).lookup x=some c->c≠D:=λx c e z=>by
  have sub:=zJ (zV I S) (acc:=[]) (λx c h=>by simp at h) x c e
  obtain⟨v,o,ho,_⟩:=I.cell x c sub
  have:=Dm ho
  rw[z,hD]at this
  exact Ee _ this
 have p0:∀{σ0:St} {l:Hp} {F:Shared} {U:List Value},ap (aS X scope M (aQ X.env scope.names []) C j s H) [] σ0 l F->F.heap.get? D=some (gN U)->l D=none->
   ap (aS X scope M (aQ X.env scope.names []) C j s H) [(D,gN U)] σ0 l F:=λ{σ0 l F U} I' e n=>I'.pins_of λp hp=>by
  have ep:p=(D,gN U):=by simpa using hp
  subst ep
  exact#[e,n,O,h6,λv z=>by cases z]
 have G:∀{l:Hp} {U:List Value},(∀b∈j,l b=none)->∀b∈j,eK (aS X scope M (aQ X.env scope.names []) C j s H) [(D,gN U)] l b:=λ{l U} hn b a=>
  #[hn b a,((J0 0).ok.exf b a).1,(J0 0).ok.exfs b a,.inl a,((J0 0).ok.exf b a).2,λp hp z=>by
   have ep:p=(D,gN U):=by simpa [aS] using hp
   rw[ep]at z
   have:=h3 b a
   rw[<- z]at this
   exact Ee _ this]
 have l0:∀t:Shared,(∃tk,t={ s with heap:=B,toks:=tk })->
   codeAny (model X.prog X.w) X.A (.compLoop (.ListComp e0 [#[tg,iter,i0,0]] scope p1) 0 (.ref it) (.ref D) (compEnvC scope (aQ X.env scope.names []) C X.env)) (RR (.ref D) C) t:=by
  rintro t ⟨tk,rfl⟩
  refine YO (λn F=>∃i Y U ts l,ts.length=nT/\ap (aS X scope M (aQ X.env scope.names []) C j s H) [(D,gN U)] (ts++j' ix σ) l F/\au Y U/\Y.length<=sizeLine/\tn i F.heap/\(∀b∈j,l b=none)/\W i n Y l) ?_ m0
   #[0,[],[],List.replicate nT none,H,GQ,p0 (J0 tk) h5 a0,.nil,Dt _,T.keep _ _ _ st λb a o e=>o1 b o e,λb a=>(hf b a).1,w0]
  rintro n s1 ⟨i,Y,U,ts,P,a1,I1,rv,hz,s7,f0,w1⟩
  rcases t1 i n Y P w1 with ⟨stop,q⟩ | ⟨go,a2,N,hN,step⟩
  ·refine aL (T.done (aS X scope M (aQ X.env scope.names []) C j s H) Z Z Z hc i _ s1 _ P vA I1 (G f0) s7 stop) λr s2 #[hr,I2]=>?_
   subst hr
   have IO:ap X pins σ P s2:=I.call' (ch:=j) I2.os I2.base I2.hok I2.bare λb a=>#[(hf b a).2.2.2.1,(hf b a).2.1,(hf b a).2.2.2.2.1,(hf b a).2.2.2.2.2]
   have pD:=I2.pin (D,gN U) (by simp [aS])
   have h8:P D=none:=pD.2.1
   have fD:eK X pins P D:=by rw[<- hD];exact I.fpOk (Dk _) (by rw[hD];exact h8)
   have IT:ap X pins σ (af P D (.lst Y)) s2:=IO.track fD (by rw[<- hD];exact I.sz) #[hz,U,U.length,rv,pD.1]
   obtain⟨mC,a3,_⟩:=I2.loc
   have a4:P C=none:=I2.free
   exact h' D C Y mC P s2 I2.base.frzs h8 IT (I.fpOk (by rw[hD];exact h0) (by rw[ji (DQ O)];exact a4)) a3 q
  ·refine aL (T.item (aS X scope M (aQ X.env scope.names []) C j s H) Z Z Z hc i _ s1 _ P vA I1 (G f0) s7 go) λr s2 #[u,hr,h2]=>?_
   subst hr
   refine aL h2 λ_ s3 #[x,H3,I3,r3,y3,L,f1]=>?_
   have I0:=I3.pinned (G f1) (T.obj _ _ L)
   refine aL (hg _ _ _ _ _ _ s3 _ H3 x u _ I0 r3 (step x H3 ts a1 y3)) λ_ s4 #[σ1,H4,I4,#[t0,h1,e4],q4]=>?_
   subst e4
   refine aL (hi _ _ _ _ _ _ s4 _ H4 _ I4 q4) λb s5 #[H5,I5,q5]=>?_
   cases b with
   |false=>
    obtain⟨m',hm,w'⟩:∃m',m' < n/\W (i+1) m' Y H5:=hN _ _ q5
    refine#[m',hm,i+1,Y,U,t0,H5,h1,I5.unpinned,rv,hz,T.keep _ _ _ L λb a o e=>(I5.pin (b,o) (Dv _ (Dv _ (kN a e)))).1,λb a=>?_,w']
    obtain⟨o,e,d⟩:=T.obj _ _ L b a
    exact(I5.pin (b,o) (Dv _ (Dv _ (kN a e)))).2.1
   |true=>
    refine aL (he _ _ _ _ _ _ s5 _ H5 _ I5 q5) λv s6 #[y,H6,I6,r6,q6]=>?_
    obtain⟨m',hm,w'⟩:=hN _ _ q6
    have pD:=I6.pin (D,gN U) (Dv _ (Ep _ DA))
    have hl:=rv.length
    have Q:∀b∈j,∀o,s3.heap.get? b=some o->s6.heap.get? b=some o:=λb a o e=>(I6.pin (b,o) (Dv _ (Dv _ (kN a e)))).1
    have R:∀b∈j,H6 b=none:=λb a=>by
     obtain⟨o,e,d⟩:=T.obj _ _ L b a
     exact(I6.pin (b,o) (Dv _ (Dv _ (kN a e)))).2.1
    refine append_at (hsz:=by rw[Dn,<- hl];exact hz) pD.1 λh7 sb a5=>?_
    have I7:ap (aS X scope M (aQ X.env scope.names []) C j s H) [] (t0++j' ix σ) H6 { s6 with heap:=h7 }:=
     (I6.pins_of (pins':=[]) λp hp=>absurd hp Ie).turned (t':=s6.toks) (it:=D) (λb o a e=>(sb.2 b a).trans e) pD.2.1 O (.inr (by show s.heap.objs.size<=D;rw[hD];exact Dk _)) c0 λp hp=>absurd (show p∈([]:List (Addr×Obj)) from hp) Ie
    refine#[m',hm,i+1,Y++[y],U++[v],t0,H6,h1,p0 I7 (a5.trans (El some (YQ U v))) pD.2.1,rv.append (.cons r6 .nil),by rw[Dj,Fg];exact a2,
     T.keep _ _ _ (T.keep _ _ _ L Q) λb a o e=>(sb.2 b λz=>?_).trans e,R,w']
    have:=h3 b a
    rw[z]at this
    exact Ee _ this
 exact codeAny_compStart_list (l0 _ #[_,Z]) (T.self _ 0 _ _ _ (T.keep _ _ _ st λb a o e=>o1 b o e) (l0 _ #[_,Z]))
def nH(w:TI)(n:Nat)(i:List Nat)(g:TG)(t:TT)(T:TE):TE:=λσ H Q=>w σ H λJ a=>dM J n (j' i σ) g t T (λy h=>∀p,h p=none->Q (.ref p) (af h p (.lst y))) a
theorem kO{t E iter:Expr}{i:List Expr}{a:Scope}{p:Pos}{M:List Str}{k:Nat}{l:List Nat}{W:TI}{g:TG}{r:TT}{u:TE}(v:X.calm=true)(y:PI X t iter W)(S:aX X.N X.env.scope a M k l)
  (z:∀c C f s H,PG (aS X a M c C f s H) t g) (B:∀c C f s H,PF (aS X a M c C f s H) i r) (G:∀c C f s H,PE (aS X a M c C f s H) E u)
  (K:∀x,foldedSetIterable iter X.env x=pure x:=by intro _;rfl):
  PE X (.ListComp E [#[t,iter,i,0]] a p) (nH W k l g r u):=by
 intro pins s σ H Q I h
 rw[eval_ListComp]
 refine GH (use:=none) Z K (zA (zV I S)) S.kind S.loc (aL (y pins s σ H _ I h) λxv s1 L=>aL L λO s2 P=>?_)
 obtain⟨it,f,tn,J,H2,e,U,T,d,V,R⟩:=P
 subst e
 refine qw (RR:=λj C=>compPost (model X.prog X.w) X.A X.xe none (EP X pins σ Q) j C) U v T d V S z B G R ?_
 intro D C ys m H' Y _ n I' F ns q
 exact#[m,ns,λh' sb=>#[.ref D,_,I'.turned (t':=Y.toks) (λb o hb e=>(sb.2 b hb).trans e) F.1 F.2.1 F.2.2.2.1 F.2.2.2.2.1 F.2.2.2.2.2,Z,q D n]]
theorem Yf{t E iter:Expr}{d:List Expr}{c:Scope}{p P f:Pos}{y:Str}{i:Nat}{M:List Str}{U:Nat}{V:List Nat}{W:TI}{g:TG}{Y:TT}{te:TE}(hN:X.N.Nodup)(hy:X.N[i]?=some y)(hx:px X.env.scope y)
  (hc:X.calm=true) (hI:PI X t iter W) (S:aX X.N X.env.scope c M U V)
  (hg:∀l C j s H,PG (aS X c M l C j s H) t g) (hi:∀l C j s H,PF (aS X c M l C j s H) d Y) (he:∀l C j s H,PE (aS X c M l C j s H) E te)
  (r:swapsWith (.ListComp E [#[t,iter,d,0]] c p) (some (.Name y P)) f.line X.env=pure true:=by rfl)
  (hf:X.fn y=true∨X.env.scope.names.lookup y=some .local:=by first |exact .inl Z |exact .inr Z |assumption)
  (hs:∀x,foldedSetIterable iter X.env x=pure x:=by intro _;rfl):
  PS X (.Assign [.Name y P] (.ListComp E [#[t,iter,d,0]] c p) f) (λD σ H=>nH W U V g Y te σ H λv H1=>D.nx (σ.set i (some v)) H1):=by
 intro pins s σ H D I h
 rw[exec_Assign_Name_used _ _ _ _ r]
 refine Dc (Fp (Dc ?_))
 show wpAny _ X.A (do let _ <- comprehension (.ListComp E [#[t,iter,d,0]] c p) c X.env _ (newList []) false (eval iter X.env) (some (assign (.Name y P) X.env))) _ _ s
 refine Dc (aL (GH (use:=some (assign (.Name y P) X.env)) (Q:=λ_ k=>SP X pins D .next k) Z hs (zA (zV I S)) S.kind S.loc
  (aL (hI pins s σ H _ I h) λxv s1 h1=>aL h1 λi0 s2 h2=>?_)) λ_ k hq=>De (De hq))
 obtain⟨it,j,tn,J,H2,e,I2,T,u,f2,R⟩:=h2
 subst e
 refine qw (RR:=λB C=>compPost (model X.prog X.w) X.A X.xe (some (assign (.Name y P) X.env)) (λ_ k=>SP X pins D .next k) B C) I2 hc T u f2 S hg hi he R ?_
 intro Dd C ys m H' k _ n I' F ns q
 show wpAny _ X.A (assign (.Name y P) X.env (.ref Dd)) _ _ k
 refine wpAny_assign_Name (KQ I' hN hy hx (v:=.ref Dd) Z (λG K hh=>?_) hf)
 obtain⟨a,sb,ha⟩:=hh
 have L:C≠a:=by
  rcases ha with z |z
  ·rw[z];exact F.2.1
  ·exact DQ (F.2.2.2.2.1 _ _ z)
 exact#[m,ns.sameBut sb L,λh' O=>#[_,_,K.turned (t':=G.toks) (λb o hb e=>(O.2 b hb).trans e) F.1 F.2.1 F.2.2.2.1 F.2.2.2.2.1 F.2.2.2.2.2,q Dd n]]
end
section
variable {X:Cx}
def y6(i j:Int):Prop:=0 < j/\j<=1000000000000000000
theorem J4:eW X (binaryOp .FloorDiv) (rI y6 λi j=>.int (i / j)):=Bk λi j _ _ _ _ _ h q=>by
 have b:(0:Int) < j:=h.1
 have c:j<=1000000000000000000:=h.2
 refine floordiv_int Ic (by rw[Int.fdiv_eq_ediv_of_nonneg i Ic];exact q) (.inl (PyProof.noPylong_of_log2 ?_))
 have H:j.natAbs≠0:=by omega
 have a:j.natAbs < 2 ^ 60:=by omega
 have d:j.natAbs.log2 < 60:=(Nat.log2_lt H).mpr a
 omega
noncomputable def AA:V->Option Value
 | .ty n=>some (.type n)
 | .ref a=>some (.ref a)
 |_=>none
theorem Jr:dy X (.builtin "isinstance") (λf H Q=>∃x y c t b,f=[x,y]/\AA y=some c/\dG X.K H x t/\kitOne X.K t c=some b/\Q (.bl b) H):=by
 intro p s i H f U Q I r h
 obtain⟨x,y,c,t,b,rfl,d,ty,e,q⟩:=h
 obtain⟨u,w,rfl,g,R⟩:=AT r
 have E:w=c:=by
  cases y with
  |ty n=>exact Eq.trans R (DT d)
  |ref a=>exact Eq.trans R (DT d)
  |_=>cases d
 subst E
 exact YI I g ty e λT=>#[.bl b,H,I.tok T,Z,q]
theorem Js:∀{B:List Bool} {U:List Value},au (B.map V.bl) U->LSm.BoolsAre U B
 | [],_,.nil=>.nil
 |b::r,_,.cons (b:=u) h t=>by
  have e:u=Value.bool b:=h
  subst e
  exact .cons b (Js t)
theorem nM(j:X.calm=true):dy X (.builtin "all") (λx H Q=>∃(p:Addr) (B:List Bool),x=[.ref p]/\aE X.K H p (B.map V.bl)/\Q (.bl (B.all id)) H):=by
 intro P s w H x U Q I r h
 obtain⟨p,B,rfl,k,q⟩:=h
 obtain⟨u,rfl,R⟩:=dQ r
 cases R
 obtain⟨a,l,m,y⟩:=I.list k
 have f:=Js l
 have c:=m.isList
 have d:p < s.heap.objs.size:=by obtain⟨_,e,_⟩:=c;exact Dm e
 refine call_all_walk (FX c ?_)
 refine#[s.heap.objs.size,[s.heap.objs.size,p],[s.heap.objs.size],a.toArray.size,_,_,λi=>(B[i]?).getD true,Z,Walks.list (A:=X.A.in1) (I.ok.hd j) _ p (Dp d) a.toArray,
  #[#[_,Dl _ Z,Z,Z],c.push _],λi v S z E n g=>?_,λC t o=>?_]
 ·obtain⟨b,e,rfl⟩:=f.get i v (by simpa using n)
  simp only[e,Option.getD_some]at g
  exact Fc g
 ·have e:((List.range a.toArray.size).all λi=>(B[i]?).getD true)=B.all id:=by
   rw[Dn,f.length];exact LSm.range_all B
  rw[e]
  exact#[.bl _,H,I.kept (t':=t) (LSm.kept_iter o),Z,q]
theorem zK:∀{Y:List Str} {U:List Value},au (Y.map V.str) U->StrsAre U Y
 | [],_,.nil=>.nil
 |y::r,_,.cons (b:=u) h t=>by
  obtain⟨T,e⟩:∃T,u=Value.str y T:=h
  subst e
  exact .cons y T (zK t)
theorem Qs:BM X "str.join" (λx a H Q=>∃(z:Str) (p:Addr) (y:List Str),x= .str z/\a=[.ref p]/\aE X.K H p (y.map V.str)/\z.length<=16/\(y.map (·.length)).sum+y.length<=1048576/\Q (.str (Txt.join z y)) H):=by
 intro P s l H x a v U Q I r R h
 obtain⟨z,p,y,rfl,rfl,b,c,d,q⟩:=h
 obtain⟨u,rfl,e⟩:=dQ R
 cases e
 obtain⟨t,rfl⟩:=r
 obtain⟨i,f,g,j⟩:=I.list b
 exact join_listW g.isList (by simpa using zK f) c d λT k=>#[.str _,H,I.tok k,#[_,Z],q]
noncomputable def oe:Expr->Option V
 | .Constant (.str x) _ _=>some (.str x)
 | .Constant (.int i) _ _=>some (.int i)
 |_=>none
theorem xU(h:oe e=some v):PE X e (tC v):=by
 cases e with
 |Constant c j p=>
  cases c with
  |str x=>cases h;exact jk
  |int i=>cases h;exact jf
  |_=>cases h
 |_=>cases h
theorem oY(h:oe e=some v):starEach (e::a) E=(false,eval e E)::starEach a E:=by
 cases e with
 |Constant c j p=>rfl
 |_=>cases h
noncomputable def rF(e:Expr):Bool:=(oe e).isSome
noncomputable def pX(e:Expr):V:=(oe e).getD .non
theorem Qt:∀{E:List Expr},E.all rF=true->PA X E (λ_ H Q=>Q (E.map pX) H)
 | [],_=>jb
 |e::E,h=>by
  rw[HS,Ej]at h
  obtain⟨v,a⟩:=Option.isSome_iff_exists.mp (show(oe e).isSome=true from h.1)
  have b:pX e=v:=by unfold pX;rw[a];rfl
  rw[Et,b]
  exact ja (xU a) (Qt h.2) (oY a)
theorem YR{E:List Expr}(h:E.all rF=true):(E.map pX).all cg=true:=by
 rw[Hw]at h ⊢
 intro v H
 obtain⟨e,a,rfl⟩:=List.mem_map.mp H
 have q:=h e a
 unfold rF at q
 unfold pX
 cases e with
 |Constant c j p=>
  cases c with
  |str x=>rfl
  |int i=>rfl
  |_=>exact absurd q Do
 |_=>exact absurd q Do
def Ab(t:TS):TS:=λD b H=>∃R:St->Hp->Prop,t { D with nx:=R } b H/\∀a h,R a h->D.nx a h
theorem jX{st:Stmt}{t:TS}(h:PS X st t):PS X st (Ab t):=by
 intro p s b H D I c
 obtain⟨R,d,e⟩:=c
 refine aL (h p s b H _ I d) λf S q=>?_
 cases f with
 |next=>obtain⟨a,g,i,q⟩:=q;exact#[a,g,i,e _ _ q]
 |brk=>exact q
 |cont=>exact q
 |ret v=>exact q
theorem oh{t:St}(h:t.length=1):∃v,t=[v]:=by
 match t,h with
 | [v],_=>exact#[v,Z]
theorem z9{lo:Int}{n:Nat}{t:TE}{Q:List V->Hp->Prop}(Pv:Nat->List V->Hp->Prop)(g:Pv 0 [] H)(j:n<=sizeLine)(b:∀i Y h,Pv i Y h->Y.length<=i)
  (k:∀i Y h,i < n->Pv i Y h->t (some (.int (lo+i))::c) h λy d=>Pv (i+1) (Y++[y]) d) (l:∀Y h,Pv n Y h->Q Y h):
  dM (tX lo n) 1 c (bf 0) hX t Q H:=by
 refine#[λi m Y h=>m=n - i/\i<=n/\Pv i Y h,#[n,Ie,Dt _,g],?_]
 rintro i m Y h ⟨rfl,q,p⟩
 by_cases a:i < n
 ·refine .inr #[a,Ez (b i Y h p) (Dr a j),Pv (i+1),λo d P=>#[n - (i+1),Ic,Z,a,P],λx d T f y=>?_]
  obtain⟨e,y⟩:=y
  subst e y
  obtain⟨v,rfl⟩:=oh f
  exact#[#[[some _],Z,Z],k i Y _ a p]
 ·have e:i=n:=by omega
  subst e
  exact .inl #[Dk _,l Y h p]
end
section
variable {κ:Type}[DecidableEq κ]
noncomputable def bQ(K:List (κ×V))(k:κ):Option V:=(K.find? λa=>decide (a.1=k)).map (·.2)
noncomputable def aV(K:List (κ×V))(k:κ)(v:V):List (κ×V):=
 if (K.any λa=>decide (a.1=k))=true then K.map (λa=>if a.1=k then (a.1,v) else a) else K++[(k,v)]
theorem qM{p:κ×V}(e:p.1=k):bQ (p::r) k=some p.2:=by simp [bQ,ET,e]
theorem qN{p:κ×V}(e:¬p.1=k):bQ (p::r) k=bQ r k:=by simp [bQ,ET,e]
theorem zW(k:κ):∀K:List (κ×V),(K.any λa=>decide (a.1=k))=(bQ K k).isSome
 | []=>rfl
 |p::r=>by
  rw[Gj]
  by_cases e:p.1=k
  ·simp only[qM e,DP e,Bool.true_or,Option.isSome_some]
  ·rw[qN e,Dy e,Bool.false_or];exact zW k r
theorem qc(K:List (κ×V))(k:κ)(v:V):(aV K k v).length<=K.length+1:=by
 unfold aV
 split
 ·rw[Di];omega
 ·rw[Dj,DU,HD];omega
theorem ou{K:List (κ×V)}{k:κ}(v:V)(h:bQ K k=none):aV K k v=K++[(k,v)]:=by
 unfold aV
 rw[zW,h]
 exact DC Ib
theorem dB.isSome_eq(r:dB o u):o.isSome=u.isSome:=by
 cases o with
 |none=>cases u with
  |none=>rfl
  |some _=>exact(show False from r).elim
 |some _=>cases u with
  |none=>exact(show False from r).elim
  |some _=>rfl
theorem dB.getD(r:dB o u)(R:ay d D):ay (o.getD d) (u.getD D):=by
 cases o with
 |none=>cases u with
  |none=>exact R
  |some _=>exact(show False from r).elim
 |some _=>cases u with
  |none=>exact(show False from r).elim
  |some _=>exact r
theorem KV.val(r:KV a v)(k:κ):dB (bQ a k) (valueAt v k):=by
 unfold KV at r
 induction r with
 |nil=>exact True.intro
 | @cons p q P Q h t i=>
  obtain⟨H,c⟩:=h
  by_cases e:p.1=k
  ·have E:q.1=k:=H.symm.trans e
   have b:valueAt (q::Q) k=some q.2:=by simp [valueAt,ET,E]
   rw[qM e,b];exact c
  ·have E:¬q.1=k:=λz=>e (H.trans z)
   have b:valueAt (q::Q) k=valueAt Q k:=by simp [valueAt,ET,E]
   rw[qN e,b];exact i
theorem KV.any(r:KV a v)(k:κ):(a.any λK=>decide (K.1=k))=v.any λK=>decide (K.1=k):=by
 unfold KV at r
 induction r with
 |nil=>rfl
 |cons h t i=>rw[Gj,Gj,i,h.1]
theorem KV.repl(r:KV a v)(k:κ)(R:ay y u):
  KV (a.map λK=>if K.1=k then (K.1,y) else K) (v.map λK=>if K.1=k then (K.1,u) else K):=by
 unfold KV at r ⊢
 induction r with
 |nil=>exact .nil
 | @cons p q P Q h t i=>
  rw[Et,Et]
  refine .cons ?_ i
  obtain⟨H,b⟩:=h
  by_cases e:p.1=k
  ·rw[DB e,DB (H.symm.trans e)];exact#[H,R]
  ·rw[DC e,DC (λz=>e (H.trans z))];exact#[H,b]
theorem KV.put(r:KV a v)(k:κ)(R:ay y u):KV (aV a k y) (stored v k u):=by
 unfold aV stored
 rw[r.any k]
 by_cases e:(v.any λK=>decide (K.1=k))=true
 ·rw[DB e,DB e];exact r.repl k R
 ·rw[DC e,DC e];exact Paired.snoc r #[Z,R]
theorem KV.length(r:KV k v):k.length=v.length:=Paired.length r
end
theorem KL{P:Program}(r:ay (kV k) u):(aN P w).is k u=true:=by
 cases k with
 |inl i=>obtain⟨t,e⟩:=(show ∃t,u=Value.int i t from r);subst e;exact Q5 P w i t
 |inr x=>obtain⟨t,e⟩:=(show ∃t,u=Value.str x t from r);subst e;exact Q6 P w x t
theorem K0{P:Program}:∀{K:List aY} {u:List Value},au (K.map kV) u->ItemsAre (aN P w) K u
 | [],_,r=>by rw[List.map_nil]at r;cases r;exact .nil
 |k::K,_,r=>by
  rw[Et]at r
  cases r with
  |cons h t=>exact .cons (KL h) (K0 t)
abbrev KT(H:Hp):List (List aY×V)->List (List aY×Addr×Value)->Prop:=Paired λp q=>p.1=q.1/\H q.2.1=some (.tup (p.1.map kV))/\ay p.2 q.2.2
theorem KT.val(r:KT H a x)(k:List aY):dB (bQ a k) ((atKey x k).map (·.2)):=by
 induction r with
 |nil=>exact True.intro
 | @cons p q P Q h t i=>
  obtain⟨c,_,d⟩:=h
  by_cases e:p.1=k
  ·have E:q.1=k:=c.symm.trans e
   have b:atKey (q::Q) k=some q.2:=by simp [atKey,ET,E]
   rw[qM e,b];exact d
  ·have E:¬q.1=k:=λz=>e (c.trans z)
   have b:atKey (q::Q) k=atKey Q k:=by simp [atKey,ET,E]
   rw[qN e,b];exact i
theorem KT.repl(r:KT H b x)(k:List aY)(R:ay y u):
  KT H (b.map λK=>if K.1=k then (K.1,y) else K) (x.map (putAt k u)):=by
 induction r with
 |nil=>exact .nil
 | @cons p q P Q h t i=>
  rw[Et,Et]
  refine .cons ?_ i
  obtain⟨a,c,d⟩:=h
  unfold putAt
  by_cases e:p.1=k
  ·rw[DB e,DB (a.symm.trans e)];exact#[a,c,R]
  ·rw[DC e,DC (λz=>e (a.trans z))];exact#[a,c,d]
theorem KT.put(r:KT H a x)(k:List aY)(h:H b=some (.tup (k.map kV)))(R:ay y u):
  KT H (aV a k y) (storedH x k b u):=by
 have e:(a.any λK=>decide (K.1=k))=(atKey x k).isSome:=by
  rw[zW,(r.val k).isSome_eq,Option.isSome_map]
 unfold aV storedH
 rw[e]
 by_cases q:(atKey x k).isSome=true
 ·rw[DB q,DB q];exact r.repl k R
 ·rw[DC q,DC q];exact Paired.snoc r #[Z,h,R]
theorem KT.keeps{h:Hp}(r:KT H k x)(a:∀b y,H b=some (.tup y)->h b=some (.tup y)):KT h k x:=
 Paired.mapP r λ_ _ z=>#[z.1,a _ _ z.2.1,z.2.2]
section
variable {P:Program}{w:World}{H:Hp}{h:Heap}{a:Addr}
theorem uW(o:dR P w H h)(e:Rd H a u):aG P w H h a u:=e.ok o
theorem KM(o:dR P w H h)(e:Rd H a (.dK k)):k.length<=sizeLine/\(a==sysModules)=false/\∃v,KV k v/\h.DictOf (aN P w) a v:=
 show aG P w H h a (.dK k) from uW o e
theorem KN(o:dR P w H h)(e:H a=some (.dK k)):k.length<=sizeLine/\(a==sysModules)=false/\∃v,KV k v/\h.DictOf (aN P w) a v:=KM o (.inl e)
theorem JX{k:List aY}(O:dR P w H h)(e:H a=some (.tup (k.map kV))):(tupleKind (aN P w)).is h k a:=by
 obtain⟨_,i,r,o,b,c,n,d⟩:=(show aG P w H h a (.tup (k.map kV)) from O a _ e)
 exact#[o,i.toArray,n,b,c,d,by simpa using K0 r]
theorem KO(O:dR P w H h)(e:Rd H a (.dT k)):k.length<=sizeLine/\(a==sysModules)=false/\
  ∃X,KT H k X/\h.DictOfH (tupleKind (aN P w)) a X:=by
 obtain⟨z,y,X,r,o,E,c,d,f,g,i,j⟩:=(show aG P w H h a (.dT k) from uW O e)
 refine#[z,y,X,r,o,E,c,d,f,g,i,λx hx=>?_,j]
 have all:∀{l:List (List aY×V)} {m:List (List aY×Addr×Value)},KT H l m->∀x∈m,(tupleKind (aN P w)).is h x.1 x.2.1:=by
  intro l m q
  induction q with
  |nil=>intro x hx;exact nomatch hx
  | @cons p q n Q b t I=>
   intro x hx
   rcases List.mem_cons.mp hx with e |hx
   ·subst e
    exact JX O (by rw[<- b.1];exact b.2.1)
   ·exact I x hx
 exact all r x hx
theorem yW(o:dR P w H h)(e:H a=some (.dT k)):k.length<=sizeLine/\(a==sysModules)=false/\
  ∃x,KT H k x/\h.DictOfH (tupleKind (aN P w)) a x:=KO o (.inl e)
end
def en(H:Hp)(a:Addr)(y:V)(r:Option V):Prop:=
 (∃K k,Rd H a (.dK K)/\y=kV k/\r=bQ K k)∨∃K k b,Rd H a (.dT K)/\y= .ref b/\H b=some (.tup (k.map kV))/\r=bQ K k
def iI(H:Hp)(a:Addr)(y v:V)(h:Hp):Prop:=
 (∃K k,H a=some (.dK K)/\y=kV k/\K.length < sizeLine/\h=af H a (.dK (aV K k v)))∨
 ∃K k b,H a=some (.dT K)/\y= .ref b/\H b=some (.tup (k.map kV))/\K.length < sizeLine/\h=af H a (.dT (aV K k v))
theorem en.k{H:Hp}{k:aY}(e:H a=some (.dK b)):en H a (kV k) (bQ b k):=.inl #[b,k,.inl e,Z,Z]
theorem iI.k{H:Hp}{k:aY}(e:H a=some (.dK b))(h:b.length < sizeLine):iI H a (kV k) v (af H a (.dK (aV b k v))):=.inl #[b,k,e,Z,h,Z]
section
variable {X:Cx}{pins:List (Addr×Obj)}{σ:St}{H:Hp}{s:Shared}{a:Addr}{y v:V}{u r:Value}{o:Option V}{A:Around}{E:Value->Shared->Prop}
theorem ap.big(I:ap X pins σ H s):sysModules < s.heap.objs.size:=by
 have h:mainGlobals < s.heap.objs.size:=(I.mod.glob.keeps I.bk).lt
 exact Nat.lt_trans Ib h
theorem YS{Q:Value->Shared->Prop}(m:A.units+1 < cLine)(I:ap X pins σ H s)(g:en H a y (some v))(j:ay y u)(h:∀W S,ap X pins σ H S->ay v W->Q W S):
  wpAny (model X.prog X.w) A (getItem (.ref a) u) Q E s:=by
 rcases g with ⟨K,k,e,d,l⟩ | ⟨K,k,b,e,d,n,l⟩
 ·subst d
  obtain⟨z,q,t,R,D⟩:=KM I.hok e
  obtain⟨W,f,c⟩:=dB.some_of (v:=v) (o:=valueAt t k) (by rw[l];exact R.val k)
  exact wpAny_getItem_of (KL j) D.mapOf f (h W _ (I.tok _) c)
 ·subst d
  cases (show u=Value.ref b from j)
  obtain⟨z,q,x,R,D⟩:=KO I.hok e
  obtain⟨W,f,c⟩:=dB.some_of (v:=v) (o:=(atKey x k).map (·.2)) (by rw[l];exact R.val k)
  obtain⟨p,B,i⟩:=Option.map_eq_some_iff.mp f
  refine wpAny_getItem_heap (Gk m) (JX I.hok n) D B ?_
  rw[i]
  exact h W _ (I.tok _) c
theorem Cr{Q:Value->Shared->Prop}(i:A.units+1 < cLine)(I:ap X pins σ H s)(g:en H a y o)(f:ay y u)(h:∀S,ap X pins σ H S->Q (.bool o.isSome) S):
  wpAny (model X.prog X.w) A (compareOp .In u (.ref a)) Q E s:=by
 rcases g with ⟨K,k,e,c,l⟩ | ⟨K,k,b,e,c,j,l⟩
 ·subst c
  obtain⟨z,d,m,R,D⟩:=KM I.hok e
  refine wpAny_in_of (KL f) d D.mapOf ?_
  rw[<- (R.val k).isSome_eq,<- l]
  exact h _ (I.tok _)
 ·subst c
  cases (show u=Value.ref b from f)
  obtain⟨z,d,x,R,D⟩:=KO I.hok e
  refine wpAny_in_heap (Gk i) (JX I.hok j) d D ?_
  have q:=(R.val k).isSome_eq
  rw[Option.isSome_map]at q
  rw[<- q,<- l]
  exact h _ (I.tok _)
theorem Yg(I:ap X pins σ H s)(m:A6 (H a))(c:Heap.SameBut a s.heap h)(d:∃q,h.get? a=some q)(n:aG X.prog X.w (af H a O) h a O):
  ap X pins σ (af H a O) { s with heap:=h,toks:=t }:=
 I.write (x:=a) (e:=a) m (.inl Z) (λb q f z=>(c.2 b f).trans z) d n
theorem ZK{P:Program}{h:Heap}{k:List (aY×V)}(z:k.length<=sizeLine)(c:(a==sysModules)=false)(R:KV k b)(d:h.DictOf (aN P w) a b):
  aG P w e h a (.dK k):=#[z,c,b,R,d]
theorem YT{Q:Unit->Shared->Prop}(J:A.units+1 < cLine)(I:ap X pins σ H s)(g:iI H a y v L)(x:ay y u)(B:ay v r)(h:∀S,ap X pins σ L S->Q () S):
  wpAny (model X.prog X.w) A (setItem (.ref a) u r) Q E s:=by
 rcases g with ⟨K,k,e,i,l,j⟩ | ⟨K,k,b,e,i,C,l,j⟩
 ·subst i j
  obtain⟨z,m,M,R,D⟩:=KN I.hok e
  have n:M.length<=sizeLine:=by rw[<- R.length];exact z
  have p:(aV K k v).length<=sizeLine:=by have:=qc K k v;omega
  refine wpAny_setItem_pairs (hsz:=n) (KL x) D λF d t=>h _ ?_
  have N:∃q,F.get? a=some q:=let #[q,_,_,f,_]:=d;#[q,f]
  exact Yg I (by rw[e];exact True.intro) t N (ZK p m (R.put k B) d)
 ·subst i j
  cases (show u=Value.ref b from x)
  obtain⟨z,m,O,R,D⟩:=yW I.hok e
  have n:O.length<=sizeLine:=by rw[<- Paired.length R];exact z
  have p:(aV K k v).length<=sizeLine:=by have:=qc K k v;omega
  refine wpAny_setItem_heap (hsz:=n) (Gk J) (JX I.hok C) D λF d t=>h _ ?_
  obtain⟨q,P,T,f,U,W,Y,_,h5⟩:=d
  refine Yg I (by rw[e];exact True.intro) t #[q,f] #[p,m,_,(R.put k C B).keeps λc ys G=>?_,q,P,T,f,U,W,Y,h5]
  rw[ji (jI G e (λz=>nomatch z))]
  exact G
end
def AF(i:Expr):Prop:=∀o I,subscripted i false o I=operate [o,I] (getItem o I)
theorem sE{id:String}
  (k:typeLookup (.type T) "__getitem__"=pure (some (.builtin id))) (l:AF a)
  (h:wpAny (model p w) A (eval v e) (λo b=>wpAny (model p w) A (eval a e) (λi S=>S.TypeIs o T/\wpAny (model p w) A (getItem o i) Q E S) E b) E s):
  wpAny (model p w) A (eval (.Subscript v a m) e) Q E s:=by
 refine Subscript_ (Eh h (λo b d=>Eh d (λi S H=>?_) λ_ _ x=>x) λ_ _ x=>x)
 obtain⟨j,H⟩:=H
 unfold subscriptTail
 refine Dc ?_
 rw[getitemInPython_of_ne j.not_modules]
 refine Dc (EH j k ?_)
 have f:wpAny (model p w) A (subscripted a false o i) (λr c=>wpAny (model p w) A (letTemporaryGo v o r >>= λ_=>pure r) Q E c) E S:=by
  rw[l o i]
  exact wpAny_operating (Eh H (λr c g=>Dc (wpAny_letTemporaryGo (De g))) λ_ _ x=>x)
 first
  |exact De (Dc f)
  |exact Dc (De (Dc f))
  |exact Dc f
theorem Q7{X:Cx}(I:ap X p c H s)(g:en H a y o):s.TypeIs (.ref a) "dict":=by
 rcases g with ⟨K,k,e,_,_⟩ | ⟨K,k,b,e,_,_,_⟩
 ·obtain⟨_,_,v,_,d⟩:=KM I.hok e
  exact d.typeIs
 ·obtain⟨_,_,x,_,d⟩:=KO I.hok e
  exact d.typeIs
def yQ(t T:TE):TE:=λb H Q=>t b H λx c=>T b c λy h=>∃a v,x= .ref a/\en h a y (some v)/\Q v h
def By(t T:TE):TE:=λb H Q=>t b H λy c=>T b c λx h=>∃a o,x= .ref a/\en h a y o/\Q (.bl o.isSome) h
def o0(t T c:TE):TS:=λD b H=>c b H λv d=>t b d λx e=>T b e λy f=>∃a h,x= .ref a/\iI f a y v h/\D.nx b h
section
variable {X:Cx}{o i e value:Expr}{pos pos' tpos:Pos}{td ty tv:TE}
theorem Qu(d:X.A.units+1 < cLine)(f:PE X o td)(j:PE X i ty)(k:AF i):PE X (.Subscript o i pos) (yQ td ty):=by
 intro p s b H Q I h
 refine sE PySem.F.slot_dict_getitem.lookup k (aL (f p s b H _ I h) λu S #[x,l,m,R,q]=>aL (j p S b l _ m q) λB C #[y,n,c,t,a,v,E,g,w]=>?_)
 subst E
 obtain rfl:u=Value.ref a:=R
 exact#[Q7 c g,YS d c g t λW D z r=>#[v,n,z,r,w]]
theorem vS(c:X.A.units+1 < cLine)(d:PE X i ty)(f:PE X o td):PC X .In i o (By ty td):=by
 intro p s b H Q I h
 refine aL (d p s b H _ I h) λv S #[y,j,k,r,q]=>aL (f p S b j _ k q) λu w #[x,l,m,R,a,O,E,g,n]=>?_
 subst E
 obtain rfl:u=Value.ref a:=R
 exact Cr c m g r λz t=>#[.bl O.isSome,l,t,Z,n]
theorem zH(c:X.A.units+1 < cLine)(d:PE X o td)(f:PE X i ty)(j:PE X value tv)(k:swapsWith value (some (.Subscript o i pos')) pos.line X.env=pure false):
  PS X (.Assign [.Subscript o i pos'] value pos) (o0 td ty tv):=by
 intro p s b H D I h
 refine wpAny_Assign_Subscript (aL (j p s b H _ I h) λr S #[v,l,m,R,q]=>aL (d p S b l _ m q) λu n #[x,t,w,z,Q]=>aL (f p n b t _ w Q) λK L #[y,M,B,C,a,E,F,g,G]=>?_) k
 subst F
 obtain rfl:u=Value.ref a:=z
 exact YT c B g C R λN J=>#[b,E,J,G]
end
theorem nG{P:Program}(h:Heap)(a:sysModules < h.objs.size):aG P w H (h.push { cls:=.type "dict",data:=.dict (List.toArray []) }) h.objs.size (.dK []):=
 #[Dt _,beq_eq_false_iff_ne.mpr (DQ (Dp a)),[],.nil,Heap.DictOf.new h]
def yf:TE:=λ_ H Q=>∀p,H p=none->Q (.ref p) (af H p (.dK []))
section
variable {X:Cx}{pos:Pos}
theorem zX:PE X (.Dict [] [] pos) yf:=λp s b H Q I h=>
 wpAny_Dict_empty #[.ref s.heap.objs.size,_,I.laid (a:=s.heap.objs.size) (o:=.dK []) (t':=s.toks) (λ_ _ q=>Dg _ q) (Dk _) (nG s.heap I.big),Z,h _ (I.hok.fresh (Dk _))]
end
noncomputable def cr(k m:List (aY×V)):List (aY×V):=m.foldl (λa K=>aV a K.1 K.2) k
theorem KV.merge:∀{m:List (aY×V)} {R:List (aY×Value)} {k:List (aY×V)} {v:List (aY×Value)},KV m R->KV k v->KV (cr k m) (merged v R):=by
 intro m R k v r
 unfold KV at r
 induction r generalizing k v with
 |nil=>intro q;exact q
 | @cons p q P Q h t i=>
  intro a
  have e:KV (aV k p.1 p.2) (stored v q.1 q.2):=by
   have:=a.put p.1 h.2
   rw[<- h.1];exact this
  exact i e
theorem ql:∀(m k:List (aY×V)),(cr k m).length<=k.length+m.length
 | [],k=>by show k.length<=k.length+0;omega
 |p::r,k=>by
  have h:=ql r (aV k p.1 p.2)
  have H:=qc k p.1 p.2
  show(cr (aV k p.1 p.2) r).length<=_
  rw[DU];omega
structure M2(X:Cx)(o:Expr)(m:Str)(apos:Pos)(e f:Expr)(cpos:Pos):Prop where
 base:attributeBase o m X.env (eval o X.env)=eval o X.env
 few:((backTo cpos (starEach [e,f] X.env)).all (λx=>!x.1)&&(backToKw cpos (keywordEach [] X.env)).all (λx=>x.1.isSome)
  &&decide (([e,f]:List Expr).length+([]:List Keyword).length+(if ([]:List Keyword).isEmpty then 0 else 1) < 30))=true
 line:(apos.endLine==cpos.line)=true
 trees:backTo cpos (starEach [e,f] X.env)=[(false,eval e X.env),(false,eval f X.env)]
def CC(H:Hp)(a:Addr):Prop:=(∃k,Rd H a (.dK k))∨∃k,Rd H a (.dT k)
theorem xf{X:Cx}(I:ap X p g H s)(d:CC H a):
  s.TypeIs (.ref a) "dict"/\(∀b,Value.ref a= .ref b->∃o,s.heap.get? b=some o/\o.dict=none)/\(a==sysModules)=false:=by
 rcases d with ⟨k,e⟩ | ⟨k,e⟩
 ·obtain⟨_,h,v,_,D⟩:=KM I.hok e
  refine#[D.typeIs,λb q=>?_,h]
  cases q
  obtain⟨o,_,_,c,f,_⟩:=D
  exact#[o,c,f.2.1]
 ·obtain⟨_,h,x,_,D⟩:=KO I.hok e
  refine#[D.typeIs,λb q=>?_,h]
  cases q
  obtain⟨o,_,_,c,f,_⟩:=D
  exact#[o,c,f.2.1]
section
variable {X:Cx}{pins:List (Addr×Obj)}{σ:St}{H:Hp}{s:Shared}{a:Addr}{y d:V}{u r:Value}{o:Option V}{A:Around}{E:Value->Shared->Prop}
theorem wP{Q:Value->Shared->Prop}(m:A.units+1 < cLine)(I:ap X pins σ H s)(g:en H a y o)(i:ay y u)(j:ay d r)(h:∀W S,ap X pins σ H S->ay (o.getD d) W->Q W S):
  wpAny (model X.prog X.w) A (call (.builtin "dict.get") [.ref a,u,r]) Q E s:=by
 rcases g with ⟨K,k,e,c,l⟩ | ⟨K,k,b,e,c,n,l⟩
 ·subst c
  obtain⟨z,f,v,R,D⟩:=KM I.hok e
  refine call_meetsIn GN D.typeIs PySem.F.entry_dict_get (HX _ _ _) (meets_dict_get_default (aN X.prog X.w) a (KL i) f r) #[_,D.mapOf,h _ _ (I.tok _) ?_]
  rw[l]
  exact(R.val k).getD j
 ·subst c
  cases (show u=Value.ref b from i)
  obtain⟨z,f,x,R,D⟩:=KO I.hok e
  refine call_meetsIn GN D.typeIs PySem.F.entry_dict_get (HX _ _ _) (meetsH_dict_get_default (tupleKind (aN X.prog X.w)) a b f r) #[Gk m,k,x,JX I.hok n,D,h _ _ (I.tok _) ?_]
  rw[l]
  exact(R.val k).getD j
end
def wU(t T d:TE):TE:=λb H Q=>t b H λx h=>∃a,x= .ref a/\CC h a/\T b h λy e=>d b e λz c=>∃o,en c a y o/\Q (o.getD z) c
section
variable {X:Cx}{o e f:Expr}{apos cpos:Pos}{td ty tx:TE}
theorem J5(c:X.A.units+1 < cLine)(j:PE X o td)(k:PE X e ty)(l:PE X f tx)(m:M2 X o "get" apos e f cpos):PE X (.Call (.Attribute o "get" apos) [e,f] [] cpos) (wU td ty tx):=by
 intro p s b H Q I h
 refine wpAny_Call_method m.base m.few m.line PySem.F.plainAttrs_dict GN PySem.F.type_dict_get (aL (j p s b H _ I h) λu S #[x,n,i,R,a,E,d,q]=>?_)
 subst E
 obtain rfl:u=Value.ref a:=R
 obtain⟨t,T,_⟩:=xf i d
 refine#[t,T,?_]
 rw[m.trees]
 refine GZ Z (Calls.evalArgs_plain (EY (aL (k p S b n _ i q) λN v #[y,w,B,C,D]=>
  EY (aL (l p v b w _ B D) λO P #[z,G,J,K,U,g,L]=>Ft ?_))))
 exact wP c J g C K λW V M r=>#[_,G,M,r,L]
end
section
variable {κ:Type}[DecidableEq κ]
theorem pG{K:List (κ×V)}{k:κ}(h:bQ K k=none):¬k∈K.map (·.1):=by
 intro m
 obtain⟨p,H,e⟩:=List.mem_map.mp m
 have q:(K.any λa=>decide (a.1=k))=true:=List.any_eq_true.mpr #[p,H,DP e]
 rw[zW,h]at q
 exact absurd q Ie
theorem Yh:∀{l:List κ} {k:κ},l.Nodup->¬k∈l->(l++[k]).Nodup
 | [],k,_,_=>by simp
 |a::r,k,h,H=>by
  obtain⟨b,c⟩:=List.nodup_cons.mp h
  show(a::(r++[k])).Nodup
  refine List.nodup_cons.mpr #[λm=>?_,Yh c λm=>H (List.mem_cons.mpr (Or.inr m))]
  rcases List.mem_append.mp m with q |q
  ·exact b q
  ·exact H (List.mem_cons.mpr (Or.inl (List.mem_singleton.mp q).symm))
theorem tQ{K:List (κ×V)}(v:V)(H:(K.map (·.1)).Nodup)(h:bQ K k=none):((aV K k v).map (·.1)).Nodup:=by
 rw[ou v h,DJ]
 exact Yh H (pG h)
end
section
variable {X:Cx}{pins:List (Addr×Obj)}{σ:St}{H:Hp}{s:Shared}
theorem ap.freeze(I:ap X pins σ H s)(e:H a=some (.dK f))(l:s.heap.get? a=some o):ap X pins σ (af H a (.frz o (.dK f))) s:=by
 have g:∀b,H b=none->b≠a:=λb n z=>by rw[z,e]at n;cases n
 have N:∀b u,H b=some u->u≠ .dK f->b≠a:=λb u q d z=>by rw[z,e]at q;exact d (DT q).symm
 refine#[I.ok,I.os,I.bare,#[I.base.keep,I.base.slot,λb O q n r=>?_,I.base.there,λb h q=>?_,λb O u q=>?_,λb P q=>?_],I.loc,I.cell,?_,λx c q=>?_,λp t=>?_,λb u q=>?_,I.len]
 ·have z:=I.base.free b O q n r
  rw[ji (g b z)];exact z
 ·have z:=I.base.tups b h q
  rw[ji (N b _ z (by intro k;cases k))];exact z
 ·have z:=I.base.frzs b O u q
  rw[ji (N b _ z (by intro k;cases k))];exact z
 ·obtain⟨m,z⟩:=I.base.tbls b P q
  exact#[m,by rw[ji (N b _ z (by intro k;cases k))];exact z]
 ·rw[ji (g _ I.free)];exact I.free
 ·rw[ji (g _ (I.freeC x c q))];exact I.freeC x c q
 ·obtain⟨v,i,w⟩:=I.pin p t
  exact#[v,by rw[ji (g _ i)];exact i,w]
 ·by_cases j:b=a
  ·subst j
   rw[jc]at q
   cases q
   exact#[l,I.hok b _ e]
  ·rw[ji j]at q
   exact(I.hok b u q).stay (λ_ _ _ z=>z) (λc z=>by rw[ji (N c _ z (by intro k;cases k))];exact z) λc h z=>by rw[ji (N c _ z (by intro k;cases k))];exact z
theorem ap.unfreeze(I:ap X pins σ H s)(e:H a=some (.frz o (.dK f)))(l:∀r U,X.H₀ a≠some (.frz r U)):ap X pins σ (af H a (.dK f)) s:=by
 have N:∀b,H b=none->b≠a:=λb n z=>by rw[z,e]at n;cases n
 have g:∀b u,H b=some u->u≠ .frz o (.dK f)->b≠a:=λb u q d z=>by rw[z,e]at q;exact d (DT q).symm
 refine#[I.ok,I.os,I.bare,#[I.base.keep,I.base.slot,λb O q n t=>?_,I.base.there,λb i q=>?_,λb O u q=>?_,λb P q=>?_],I.loc,I.cell,?_,λx c q=>?_,λp v=>?_,λb u q=>?_,I.len]
 ·have z:=I.base.free b O q n t
  rw[ji (N b z)];exact z
 ·have z:=I.base.tups b i q
  rw[ji (g b _ z (by intro k;cases k))];exact z
 ·have z:=I.base.frzs b O u q
  have h:b≠a:=λk=>l O u (by rw[<- k];exact q)
  rw[ji h];exact z
 ·obtain⟨m,z⟩:=I.base.tbls b P q
  exact#[m,by rw[ji (g b _ z (by intro k;cases k))];exact z]
 ·rw[ji (N _ I.free)];exact I.free
 ·rw[ji (N _ (I.freeC x c q))];exact I.freeC x c q
 ·obtain⟨w,j,y⟩:=I.pin p v
  exact#[w,by rw[ji (N _ j)];exact j,y]
 ·by_cases h:b=a
  ·subst h
   rw[jc]at q
   cases q
   exact(I.hok b _ e).2
  ·rw[ji h]at q
   exact(I.hok b u q).stay (λ_ _ _ z=>z) (λc z=>by rw[ji (g c _ z (by intro k;cases k))];exact z) λc i z=>by rw[ji (g c _ z (by intro k;cases k))];exact z
theorem on(h:a≠b):af (af H a o) b u=af (af H b u) a o:=by
 funext c
 unfold af
 by_cases d:c=a
 ·subst d;rw[DC h,DB Z,DB Z]
 ·rw[DC d,DC d]
theorem KV.get{a:Type}:∀{K:List (a×V)} {c:List (a×Value)} {i:Nat} {k:a} {x:V},KV K c->K[i]?=some (k,x)->∃v,c[i]?=some (k,v)/\ay x v
 |_,_,_,_,_,.nil,e=>by simp at e
 |_,_,0,k,x,.cons (b:=q) r _,e=>by
  simp at e
  subst e
  obtain⟨R,d⟩:=r
  obtain⟨g,Q⟩:=q
  cases R
  exact#[Q,Z,d]
 |_,_,i+1,k,x,.cons _ t,e=>by
  obtain⟨v,h,f⟩:=KV.get (i:=i) t (by simpa using e)
  exact#[v,by simpa using h,f]
noncomputable def BO(a:Addr)(o:Obj)(K:List (aY×V)):It:=
 #[λi H=>i < K.length/\H a=some (.frz o (.dK K)),λi H x h=>h=H/\∃k v,K[i]?=some (k,v)/\x=kV k,λi H=>i=K.length/\H a=some (.frz o (.dK K))]
theorem Cd(h:fh k v=true):ay (kV k) v:=by
 rcases jM h with ⟨i,t,rfl,rfl⟩ | ⟨x,t,rfl,rfl⟩
 ·exact#[t,Z]
 ·exact#[t,Z]
theorem yo{Q:Unit->Shared->Prop}(h:fh k u=true)(a:Q () s):wpAny M A (letOwnedTupleGo T (.ref I) u) Q E s:=by
 unfold letOwnedTupleGo
 rcases jM h with ⟨i,t,rfl,rfl⟩ | ⟨x,t,rfl,rfl⟩<;>cases T<;>exact De a
theorem YU{P:Program}{K:Frag}{it:Addr}(r:KV f J)(L:∀h:Heap,h.get? a=some o->h.DictAt (aN P w) a J Q):
  iY P w K Y (BO a o f) [it] it (λi h=>h.IsKeyIter it a i J.length Q) where
 mem:=by simp
 obj:=λi h st b j=>by
  have e:b=it:=by simpa using j
  subst e
  obtain⟨o,e,c,d⟩:=st
  exact#[o,e,λv z=>by rw[d]at z;cases z]
 keep:=λi h m st k=>st.at λo e=>k it Ie o e
 item:=by
  intro X n p t M i pins s σ H E I l st u
  subst n p t
  obtain⟨N,x⟩:=u
  have y:s.heap.get? a=some o:=(I.hok a _ x).1
  obtain⟨F,A,R,B,C,D⟩:=l it Ie
  have O:f[i]?=some (f[i].1,f[i].2):=Dh N
  obtain⟨v,T,rv⟩:=r.get O
  refine wpAny_pyNext_dict_item st (L _ y) T λG m g S U=>?_
  have V:ap X pins σ H { s with heap:=m }:=I.turned (t':=s.toks) (λb q j e=>(U.2 b j).trans e) F A B C D
  exact#[G,Z,yo g #[kV f[i].1,H,V,Cd g,#[Z,_,_,O,Z],S,λb j=>(l b j).1]]
 done:=by
  intro X n p t M i pins s σ H E I l st u
  subst n p t
  obtain⟨N,x⟩:=u
  have y:s.heap.get? a=some o:=(I.hok a _ x).1
  obtain⟨F,A,R,B,C,D⟩:=l it Ie
  have hl:=r.length
  exact wpAny_pyNext_dict_end (I.ok.hd M) st (L _ y) (List.getElem?_eq_none_iff.mpr Ic) λm W=>#[Z,I.turned (t':=s.toks) (λb q j e=>W b q j e) F A B C D]
 self:=λ_ _ _ _ _ st h=>wpAny_pyIter_keyiter st h
def wC(t:TE)(n:Nat)(i:List Nat)(g:TG)(T:TT)(c:TE):TE:=λσ H Q=>t σ H λx h=>∃a k,x= .ref a/\h a=some (.dK k)/\
 ∀o,dM (BO a o k) n (j' i σ) g T c (λy b=>∀p,b p=none->Q (.ref p) (af (af b a (.dK k)) p (.lst y))) (af h a (.frz o (.dK k)))
theorem pf{T E l:Expr}{i:List Expr}{c:Scope}{P:Pos}{M:List Str}{U:Nat}{V:List Nat}{W:TE}{g:TG}{Y:TT}{te:TE}(hc:X.calm=true)(hl:PE X l W)(S:aX X.N X.env.scope c M U V)
  (hg:∀j C F s H,PG (aS X c M j C F s H) T g) (hi:∀j C F s H,PF (aS X c M j C F s H) i Y) (he:∀j C F s H,PE (aS X c M j C F s H) E te)
  (hs:∀x,foldedSetIterable l X.env x=pure x:=by intro _;rfl):
  PE X (.ListComp E [#[T,l,i,0]] c P) (wC W U V g Y te):=by
 intro pins s σ H Q I h
 rw[eval_ListComp]
 refine GH (use:=none) Z hs (zA (zV I S)) S.kind S.loc (aL (hl pins s σ H _ I h) λxv t #[x,H1,u,r1,a,K,ex,v,R]=>?_)
 subst ex
 cases r1
 obtain⟨z,y,vs,r,o,es,ep,ho,hex,hd,hk,hp,hn⟩:=KN u.hok v
 have h0:=r.length
 have B:=u.freeze v ho
 refine wpAny_pyIter_dict y #[o,es,ho,hex,hd,hk,hp,hn] ?_
 refine qw (RR:=λG C=>compPost (model X.prog X.w) X.A X.xe none (EP X pins σ Q) G C) (B.kept (t':=t.toks) λb q e=>Dg _ e) hc
  (YU (it:=t.heap.objs.size) r λh e=>#[o,es,e,hex,hd,hk,hp,hn]) #[_,Dl _ Z,Z,Z] (λb J=>?_) S hg hi he (R o) ?_
 ·have e:b=t.heap.objs.size:=by simpa using J
  subst e
  exact B.fpOk (Dk _) (B.hok.fresh (Dk _))
 ·intro D C ys m H' s' fz n I' f L q
  have p:H' a=some (.frz o (.dK K)):=fz a _ _ jc
  have aD:a≠D:=jj p n
  have d:af H' D (.lst ys) a=some (.frz o (.dK K)):=by rw[ji aD];exact p
  have aC:C≠a:=DQ (jj d f.1)
  have I2:=I'.unfreeze d λo' u' k=>by
   have:=u.base.frzs a o' u' k
   rw[v]at this
   cases this
  rw[on (DQ aD)]at I2
  refine#[m,L,λh' sb=>#[.ref D,_,I2.turned (t':=s'.toks) (λb q J e=>(sb.2 b J).trans e) ?_ f.2.1 f.2.2.2.1 f.2.2.2.2.1 f.2.2.2.2.2,Z,q D n]]
  have z:=f.1
  by_cases O:C=D
  ·rw[O,jc]at z;cases z
  ·rw[ji O]at z
   rw[ji O,ji aC]
   exact z
theorem qd{a:Type}[DecidableEq a]{k:a}{y:Value}:∀{K:List (a×Value)},(K.map (·.1)).Nodup->(k,y)∈K->valueAt K k=some y
 | [],_,h=>nomatch h
 | (j,z)::r,n,h=>by
  unfold valueAt
  rw[Et,Gy]at n
  rcases List.mem_cons.mp h with e |h
  ·cases e
   simp [ET]
  ·have b:¬j=k:=λe=>n.1 (by rw[e];exact List.mem_map.mpr #[_,h,Z])
   rw[ET]
   simp only[b,decide_false]
   exact qd n.2 h
theorem J6{a:Type}[DecidableEq a]{A:Around}{s:Shared}{K:List (a×Value)}:∀{l:List (a×Value)},(∀p∈l,∃y,valueAt K p.1=some y/\SeqAt.EqAt A s p.2 y true)->PySem.W.KeqHits A s K l true
 | [],_=>.nil
 | (k,v)::r,h=>by
  obtain⟨y,c,d⟩:=h (k,v) DA
  exact .hit (e:=true) (b:=true) c d (J6 λp f=>h p (DK _ f))
theorem Xm(o:X.A.units < cLine):eW X (compareOp .Eq) (λx y H Q=>∃a b k,x= .ref a/\y= .ref b/\H a=some (.dK k)/\H b=some (.dK k)/\(∀p∈k,∃i,p.2= .int i)/\Q (.bl true) H):=by
 intro pins s σ H x y v u Q I t w h
 obtain⟨a,b,k,rfl,rfl,z,B,C,q⟩:=h
 cases t
 cases w
 obtain⟨z1,M,V,R,E⟩:=KN I.hok z
 obtain⟨z2,F,vb,d,D⟩:=KN I.hok B
 have L:=R.length
 have G:=d.length
 obtain⟨_,_,_,_,_,_,_,_,N⟩:=id D
 refine PySem.W.keq_eq (r:=true) M F E D o (λ_=>J6 λp J=>?_) ?_
 ·obtain⟨i,K,e⟩:=List.getElem_of_mem J
  have c:i < k.length:=by omega
  have f:k[i]?=some (k[i].1,k[i].2):=Dh c
  obtain⟨O,g,j⟩:=R.get f
  obtain⟨v2,P,l⟩:=d.get f
  have S:p=(k[i].1,O):=by
   have:V[i]?=some p:=by rw[Dh K,e]
   rw[this]at g
   exact DT g
  subst S
  obtain⟨n,T⟩:=C _ (EK c)
  rw[T]at j l
  obtain⟨U,rfl⟩:=j
  obtain⟨Y,rfl⟩:=l
  refine#[_,qd N (Dx P),?_]
  obtain⟨e',m,h2⟩:=HT.eqAt_int X.A.in1 s n U n Y
  rw[h2.mpr Z]at m
  exact m
 ·rw[<- L,<- G,Ht]
  exact#[.bl true,H,I,Z,q]
end
section
open PySem.W PySem.Calls Builtin Builtin.ObjectAttr
variable {prog:Program}{w:World}{A:Around}{E:Value->Shared->Prop}{s:Shared}{K:Frag}{x C:Addr}{ox:Obj}{od:Option Obj}{name:Str}
structure oO(K:Frag)(C:Addr):Prop where
 ga:findIn K (.ref C) "__getattribute__"=some (some (.builtin "BaseException.__getattribute__"))
 gh:findIn K (.ref C) "__getattr__"=some none
 sa:findIn K (.ref C) "__setattr__"=some (some (.builtin "object.__setattr__"))
 cl:findIn K (.ref C) "__class__"=some (some (.builtin "object.__class__"))
 gt:specialIn K (.builtin "object.__class__") "__get__"=some (some (.builtin "getset_descriptor.__get__"))
 tk:takesIn K (.builtin "object.__class__")=some true
 mb:mroIn K C (.type "BaseException")=some true
 mo:mroIn K C (.type "object")=some true
 hd:hasDictIn K C=true
abbrev ny:List Value:=[.type "ValueError",.type "Exception",.type "BaseException",.type "object"]
end
section
open PySem.W PySem.Calls
variable {prog:Program}{w:World}{A:Around}{E:Value->Shared->Prop}{R:Result->Shared->Prop}{K:Frag}{h:Heap}{g:Array GenState}{d:Drawn}{t:Nat}{os:OsState}{C B:Addr}
theorem YV(q:excIn K C ny "ValueError.__new__"=true):(∃p q N r f a s sub u c D k i j m o,K.lookup C=some (excClassObj p q C N r f a s sub u c D k i j m o "ValueError.__new__")/\tailIn K ny f=true/\nsOkIn K N=true/\nsIn K N "__init__"=some none):=by
 unfold excIn at q
 split at q
 ·rename_i D z S F
  split at q
  ·rename_i O f k i j m n o x y
   simp only[Ej,beq_iff_eq,Bool.not_eq_true']at q
   obtain⟨⟨⟨⟨⟨rfl,rfl⟩,H⟩,G⟩,b⟩,e⟩:=q
   obtain⟨p,r,M,I,Q,J,s,sub,u,c,L⟩:=z
   dsimp only at x H b e
   subst x H
   have v:S=(List.toArray [k,i,j,m,some (.builtin "ValueError.__new__"),o]):=by
    obtain⟨l⟩:=S
    simp only at y
    rw[y]
   subst v
   exact#[p,Q,I,r,f,J,s,sub,u,c,D,k,i,j,m,o,F,G,b,e]
  ·cases q
 ·cases q
end
theorem aG.obj{P:Program}{a:Addr}(x:aG P w H h a o):∃u,h.get? a=some u:=by
 cases o with
 |lst X=>obtain⟨_,_,_,_,e⟩:=x;exact#[_,e]
 |tup X=>obtain⟨_,_,_,o,e,_⟩:=x;exact#[_,e]
 |dK k=>obtain⟨_,_,_,_,o,_,_,e,_⟩:=x;exact#[_,e]
 |dT k=>obtain⟨_,_,_,_,o,_,_,e,_⟩:=x;exact#[_,e]
 |set S n=>obtain⟨o,_,_,_,e,_⟩:=x;exact#[_,e]
 |ins C d F=>obtain⟨_,_,_,e,_⟩:=x;exact#[_,e]
 |own y=>obtain⟨_,e⟩:=x;exact#[_,e]
 |xd F=>obtain⟨_,⟨_,_,_,e,_⟩,_⟩:=x;exact#[_,e]
 |rng lo b=>obtain⟨_,_,_,e⟩:=x;exact#[_,e]
 |frz O u=>obtain⟨e,_⟩:=x;exact#[_,e]
 |tbl p=>exact#[_,(show h.get? a=some _ from x)]
 |met f y=>exact#[_,(show h.get? a=some _ from x)]
 |ext c=>obtain⟨_,⟨_,e⟩,_⟩:=x;exact#[_,e]
theorem ap.laidN{X:Cx}{h':Heap}{a:Addr}{o:HO}{t':Nat}(I:ap X p g H s)(k:∀b u,s.heap.get? b=some u->h'.get? b=some u)(d:s.heap.get? a=none)(N:aG X.prog X.w (af H a o) h' a o):
  H a=none/\ap X p g (af H a o) { s with heap:=h',toks:=t' }:=by
 have i:∀b u,s.heap.get? b=some u->b≠a:=λb u q z=>by rw[z,d]at q;cases q
 have h:H a=none:=by
  cases q:H a with
  |none=>rfl
  |some u=>obtain⟨U,e⟩:=(I.hok a u q).obj;rw[d]at e;cases e
 refine#[h,I.un ?_ ?_]
 ·exact { keep:=λb u q _ _ _=>k b u q,slot:=λb u q _ _ _=>#[u.slots,k b u q],free:=λb u q n _=>by rw[ji (i b u q)];exact n,there:=λb u q _=>#[u,k b u q],tups:=λb x q=>by rw[ji (jj q h)];exact q,frzs:=λb u x q=>by rw[ji (jj q h)];exact q,tbls:=λb P q=>#[(List.toArray []),by rw[ji (jj q h),q];simp] }
 ·intro b u e
  by_cases f:b=a
  ·subst f;rw[jc]at e;cases e;exact N
  ·rw[ji f]at e
   exact(I.hok b u e).stay (λc v _ q=>k c v q) (λc q=>by rw[ji (jj q h)];exact q) λc x q=>by rw[ji (jj q h)];exact q
noncomputable def u6(C:Addr)(d:Option Addr)(x:Addr):HO:=.ext λh=>∃o,h.get? x=some o/\o.cls= .ref C/\notCls o=true/\o.dict=d/\∃v,o.data= .fields v/\v[1]?=some .none
theorem wN{P:Program}{h:Heap}(e:h.get? x=some o)(a:o.cls= .ref C)(b:notCls o=true)(c:o.dict=d)(f:∃v,o.data= .fields v/\v[1]?=some .none):aG P w H h x (u6 C d x):=
 #[#[o,e,a,b,c,f],#[o,e],λg i #[O,E,q] k=>#[O,k O E,q]]
def rS(C:Addr):TE:=λa H Q=>∀x,H x=none->Q (.ref x) (af H x (u6 C none x))
section
variable {X:Cx}{CX:mX}{k:Nat}{f C:Addr}{fd:FuncData}{ps:List Str}{sp:Sp}{E:XK}{x m g:Str}{p pos pos':Pos}{e o value:Expr}{es:List Expr}{ta tv:TE}{t:TA}
theorem K2(M:excIn X.K C ny "ValueError.__new__"=true)(l:keepIn X.K (.ref C)=true)(n:Gl X x)(r:X.mg x=some (.ref C))(c:(x==("__debug__":Str))=false:=by decide):
  PE X (.Call (.Name x p) [] [] pos) (rS C):=by
 intro P s D H Q I h
 refine Ed (kX I n r ?_ c)
 refine PySem.W.callWith_K0 I.kIn l ?_
 obtain⟨G,q,N,J,L,j,S,sub,O,u,R,U,V,Y,k3,k5,v,w,b,i⟩:=YV M
 have y:=I.kIn _ _ v
 obtain⟨hp,g,d,T,os⟩:=s
 refine wpAny_call_exc_subT PySem.F.excBase_ValueError (PySem.W.tail_of_in I.kIn w) y (.of_isNs (PySem.W.isNs_of_in I.kIn b)) (PySem.W.nsMap_none_of_in I.kIn b i) (λh' e m=>?_) (Dt _)
 obtain⟨t,z,_,_⟩:=m.there
 obtain⟨A,B⟩:=I.laidN (a:=e) (h':=h') (o:=u6 C none e) (t':=T) m.keeps m.new (wN z Z Z Z #[_,Z,Z])
 exact#[.ref e,_,B,Z,h e A]
end
theorem ap.turnedN{X:Cx}{p:List (Addr×Obj)}{d:St}{H:Hp}{s:Shared}{g:Heap}{t':Nat}{f:List Addr}(I:ap X p d H s)(a:∀b∈f,eK X p H b)(k:∀b o,b∉f->s.heap.get? b=some o->g.get? b=some o):
  ap X p d H { s with heap:=g,toks:=t' }:=by
 have N:∀b u,H b=some u->b∉f:=λb u e z=>by rw[(a b z).1]at e;cases e
 refine I.step (g':=s.gens) (d':=s.drawn) (ch:=f) (λb i=>?_) (λb o _ _ h e _=>k b o h e) (λb o _ _ h e _=>#[o.slots,k b o h e]) (λ_ _ _ _ n=>n)
  (λb o h e=>#[o,k b o h e]) (λ_ _ e=>e) (λ_ _ _ e=>e) (λb P e=>#[(List.toArray []),by rw[e];simp]) (λm j=>?_) (λb u e=>?_) I.bare
 ·obtain⟨A,F,B,l,t,w⟩:=a b i
  exact#[l,F,t,w]
 ·obtain⟨o,E,x,y,r⟩:=j
  exact#[o,E,x,k _ o (λz=>(a _ z).2.1 Z) y,r]
 ·refine(I.hok b u e).stay (λc v h q=>k c v ?_ q) (λ_ q=>q) λ_ _ q=>q
  rcases h with z |z
  ·rw[z];exact N b u e
  ·exact N c _ z
section
variable {M:Model}{A:Around}{E:Value->Shared->Prop}{s:Shared}
structure cn(fl:Value)(gX:List Addr)(x:Addr)(ox:Obj)(h h':Heap):Prop where
 ex:∃T oT ts,h.objs.size<=T/\h'.get? x=some (Obj.mapFields (·.setIfInBounds 1 (.ref T)) ox)/\h'.get? T=some oT/\oT.data= .fields ts/\ts[3]?=some fl
 keep:∀b o,b∉gX->b≠x->h.get? b=some o->h'.get? b=some o
 slot:∀b o,b≠x->h.get? b=some o->∃sl,h'.get? b=some { o with slots:=sl }
theorem K6{Q:Unit->Shared->Prop}
  (t:A.frames=some (d::O)) (F:s.heap.FunFrames G (d::O)) (N:d.frame=some L)
  (I:s.heap.get? x=some u) (v:u.data= .fields J) (w:1 < J.size)
  (h:∀K,cn (rawInt L) ((d::O).filterMap (·.frame)) x u s.heap K->Q () { s with heap:=K }):
  wpAny M A (do let a <- frameOf d;let p <- entryPlaceOf L q;let b <- EntryCells.newEntry f a .none (rawInt L) .none p;setField (.ref x) 1 b) Q E s:=by
 have y:x∉(d::O).filterMap (·.frame):=λP=>by
  obtain⟨_,o,r,z⟩:=F.mem P
  rw[I]at r;injection r with r;subst r;exact z J v
 refine Dc (wpAny_frameOf_fun t F N λH c=>?_)
 refine Dc (wpAny_entryPlaceOf λp B=>?_)
 unfold EntryCells.newEntry newFields
 refine Dc (DX ?_ (B.sizeOk5 _ _ _ _ _))
 have g:H.get? x=some u:=(c.2.1 x y).trans I
 have i:=Dg (h:=H) { cls:=.type "traceback",dict:=none,data:=.fields ([f,.ref L,.none,rawInt L,.none]++(if p.isEmpty then List.replicate 6 Value.none else p)).toArray } g
 refine D4 i v w (h _ ?_)
 have C:H.objs.size≠x:=D6 (Dm g)
 have j:=DS v (·.setIfInBounds 1 (Value.ref H.objs.size))
 have l:=DW (Obj.mapFields (·.setIfInBounds 1 (Value.ref H.objs.size))) i (Ei j)
 have k:∀b o,b≠x->H.get? b=some o->((H.push { cls:=.type "traceback",dict:=none,data:=.fields ([f,.ref L,.none,rawInt L,.none]++(if p.isEmpty then List.replicate 6 Value.none else p)).toArray }).update x (Obj.mapFields (·.setIfInBounds 1 (Value.ref H.objs.size)))).get? b=some o:=λb o D e=>by
  rw[Du _ _ (DQ D)]
  exact Dg _ e
 have m:=(Du (H.push { cls:=.type "traceback",dict:=none,data:=.fields ([f,.ref L,.none,rawInt L,.none]++(if p.isEmpty then List.replicate 6 Value.none else p)).toArray })
  (Obj.mapFields (·.setIfInBounds 1 (Value.ref H.objs.size))) (DQ C)).trans (Dl H Z)
 refine#[#[H.objs.size,_,_,Hl c.1.symm,l,m,Z,Ie],λb o D n e=>k b o n ((c.2.1 b D).trans e),λb o n e=>?_]
 obtain⟨S,R⟩:=c.2.2 b o e
 exact#[S,k b _ n R]
theorem XB{Q:Unit->Shared->Prop}
  (H:A.frames=some (e::o)) (i:s.heap.FunFrames b (e::o)) (a:e.frame=some L)
  (c:s.heap.get? x=some O) (d:O.data= .fields v) (f:v[1]?=some .none)
  (h:∀g,cn (rawInt L) ((e::o).filterMap (·.frame)) x O s.heap g->Q () { s with heap:=g }):
  wpAny M A (noteFrame (.ref x) e) Q E s:=by
 unfold noteFrame
 simp only[a]
 refine Dc (DH c d f ?_)
 rw[DC Ib]
 exact K6 H i a c d (Array.getElem?_eq_some_iff.mp f).1 h
theorem wF{gX:List Addr}{Q:Unit->Shared->Prop}(N:cn C gX x O H s.heap)(j:H.get? x=some O)(v:O.data= .fields w)(k:1 < w.size)
  (h:∀p,cn .none gX x O H p->Q () { s with heap:=p }):wpAny M A (setFlight (.ref x) none) Q E s:=by
 obtain⟨T,D,F,c,r,t,g,y⟩:=N.ex
 have l:=DS v (·.setIfInBounds 1 (Value.ref T))
 have m:T≠x:=λz=>absurd (Dr (Dm j) (by rw[<- z];exact c)) (Ee _)
 unfold setFlight
 refine Dc (DH r l (x:=.ref T) (by simp [k]) ?_)
 rw[DB (show(Value.ref T != Value.none)=true from by simp)]
 have i:=(Array.getElem?_eq_some_iff.mp y).1
 refine D4 t g i (h _ ?_)
 have a:=DS g (·.setIfInBounds 3 ((none:Option Addr).elim Value.none λf=>rawInt f))
 have n:=DW (Obj.mapFields (·.setIfInBounds 3 ((none:Option Addr).elim Value.none λf=>rawInt f))) t (Ei a)
 have u:∀b o,H.get? b=some o->T≠b:=λb o e z=>absurd (Dr (Dm e) (by rw[<- z];exact c)) (Ee _)
 refine#[#[T,_,_,c,by rw[Du _ _ m];exact r,n,a,by simp [i]],λb o B d e=>?_,λb o d e=>?_]
 ·rw[Du _ _ (u b o e)]
  exact N.keep b o B d e
 ·obtain⟨S,q⟩:=N.slot b o d e
  exact#[S,by rw[Du _ _ (u b o e)];exact q]
theorem Q8{base:Heap}{Q:Unit->Shared->Prop}
  (a:A.frames=some (e::o)) (f:s.heap.FunFrames base (e::o)) (g:e.frame=some L)
  (b:s.heap.get? x=some O) (c:O.data= .fields v) (d:v[1]?=some .none)
  (h:∀H,cn .none ((e::o).filterMap (·.frame)) x O s.heap H->Q () { s with heap:=H }):
  wpAny M A (leaving e (.ref x)) Q E s:=by
 unfold leaving
 exact Dc (XB a f g b c d λH N=>wF (s:={ s with heap:=H }) N b c (Array.getElem?_eq_some_iff.mp d).1 h)
end
section
variable {M:Model}{A:Around}{E:Value->Shared->Prop}{s:Shared}
noncomputable abbrev dN(T:Addr)(h:Heap):Heap:=h.update T (Obj.mapFields (·.setIfInBounds 3 Value.none))
theorem K7{base:Heap}{Q:Unit->Shared->Prop}
  (f:A.frames=some (e::O)) (w:s.heap.FunFrames base (e::O)) (j:e.frame=some L)
  (k:s.heap.get? x=some l) (m:l.data= .fields v) (p:v[1]?=some (.ref T)) (g:T≠x) (i:s.heap.get? T=some y) (c:y.data= .fields t) (r:t[3]?=some .none)
  (h:∀u,cn (rawInt L) ((e::O).filterMap (·.frame)) x l (dN T s.heap) u->Q () { s with heap:=u }):
  wpAny M A (noteFrame (.ref x) e) Q E s:=by
 unfold noteFrame
 simp only[j]
 refine Dc (DH k m p ?_)
 rw[DB (show(Value.ref T != Value.none)=true from by simp)]
 refine Dc (DH i c r ?_)
 rw[DC (show ¬((Value.none==rawInt L)=true) from by simp [rawInt])]
 refine Dc (D4 i c (Array.getElem?_eq_some_iff.mp r).1 ?_)
 have a:∀b,b≠T->(dN T s.heap).get? b=s.heap.get? b:=λb H=>Du _ _ (DQ H)
 have n:∀b o,s.heap.get? b=some o->(∀v,o.data≠ .fields v)->b≠T:=λb o H d q=>by
  rw[q,i]at H;injection H with H;subst H;exact d t c
 exact K6 (s:={ s with heap:=dN T s.heap }) f (w.of_keeps λb o H d=>#[o,(a b (n b o H d)).trans H,Z]) j ((a x (DQ g)).trans k) m (Array.getElem?_eq_some_iff.mp p).1 h
theorem XC{base:Heap}{Q:Unit->Shared->Prop}
  (b:A.frames=some (e::o)) (i:s.heap.FunFrames base (e::o)) (j:e.frame=some L)
  (d:s.heap.get? x=some O) (f:O.data= .fields v) (g:v[1]?=some (.ref T)) (H:T≠x) (k:s.heap.get? T=some l) (c:l.data= .fields t) (m:t[3]?=some .none)
  (h:∀a,cn .none ((e::o).filterMap (·.frame)) x O (dN T s.heap) a->Q () { s with heap:=a }):
  wpAny M A (leaving e (.ref x)) Q E s:=by
 unfold leaving
 exact Dc (K7 b i j d f g H k c m λa N=>wF (s:={ s with heap:=a }) N ((Du _ _ H).trans d) f (Array.getElem?_eq_some_iff.mp g).1 h)
end
noncomputable def fi(C:Addr)(d:Option Addr)(T x:Addr):HO:=.ext λh=>∃o v,h.get? x=some o/\o.cls= .ref C/\notCls o=true/\o.dict=d/\o.data= .fields v/\v[1]?=some (.ref T)
noncomputable def eN(T:Addr):HO:=.ext λh=>∃o t,h.get? T=some o/\o.data= .fields t/\t[3]?=some .none
theorem wR{P:Program}{h:Heap}(e:h.get? x=some o)(c:o.cls= .ref C)(f:notCls o=true)(g:o.dict=d)(i:o.data= .fields a)(b:a[1]?=some (.ref T)):aG P w H h x (fi C d T x):=
 #[#[o,a,e,c,f,g,i,b],#[o,e],λb j #[O,v,E,q] k=>#[O,v,k O E,q]]
theorem ZL{P:Program}{h:Heap}(e:h.get? T=some o)(b:o.data= .fields a)(c:a[3]?=some .none):aG P w H h T (eN T):=
 #[#[o,a,e,b,c],#[o,e],λd f #[O,t,E,q] k=>#[O,t,k O E,q]]
def em(P:Program)(w:World):mX:=λo H s E e S=>∃x C d T h,e= .ref x/\S.os=s.os/\AllBare S.gens/\Un (gX o) [] H h s.heap S.heap/\dR P w h S.heap/\
 h x=some (fi C d T x)/\h T=some (eN T)/\T≠x/\E (.ref C) d h
section
variable {X:Cx}{pins:List (Addr×Obj)}{σ:St}{H:Hp}{s:Shared}{x C:Addr}{d:Option Addr}
theorem cn.hok{fl:Value}(I:ap X pins σ H s)(g:H x=some (.ext M))(P:s.heap.get? x=some o)(B:o.cls= .ref C)(D:o.dict=d)(j:o.data= .fields E)(k:1 < E.size)(l:∀b∈G,H b=none)
  (N:cn .none G x o s.heap J):∃T,H T=none/\T≠x/\s.heap.objs.size<=T/\dR X.prog X.w (af (af H T (eN T)) x (fi C d T x)) J:=by
 obtain⟨T,Q,R,h,m,F,n,p⟩:=N.ex
 have i:H T=none:=I.hok.fresh h
 have r:T≠x:=DQ (jj g i)
 have a:=DS j (·.setIfInBounds 1 (Value.ref T))
 refine#[T,i,r,h,λb u e=>?_]
 by_cases t:b=x
 ·subst t
  rw[jc]at e
  cases e
  refine wR m ((FY _ _).trans B) ?_ ?_ a (by simp [k])
  ·unfold notCls
   rw[a]
  ·obtain⟨S,U,O,K⟩:=o
   simp only at j
   subst j
   exact D
 ·rw[ji t]at e
  by_cases f:b=T
  ·subst f
   rw[jc]at e
   cases e
   exact ZL F n p
  ·rw[ji f]at e
   refine(I.hok b u e).stay (λc v A q=>?_) (λc q=>?_) λc V q=>?_
   ·have y:c≠x:=by
     rcases A with z |z
     ·rw[z];exact t
     ·exact jI z g (by intro q;cases q)
    refine N.keep c v (λL=>?_) y q
    have:=l c L
    rcases A with z |z
    ·rw[z,e]at this;cases this
    ·rw[z]at this;cases this
   ·rw[ji (jI q g (by intro z;cases z)),ji (jj q i)]
    exact q
   ·rw[ji (jI q g (by intro z;cases z)),ji (jj q i)]
    exact q
theorem cn.un{h':Heap}(I:ap X pins σ H s)(hex:X.ex=[])(j:H x=some (.ext k))(l:H T=none)(c:s.heap.objs.size<=T)(f:∀b∈p,b∈X.fs∨X.s₀.heap.objs.size<=b)
  (N:cn .none p x y s.heap h'):Un X.fs [] X.H₀ (af (af H T (eN T)) x (fi C d T x)) X.s₀.heap h':=by
 have g:∀b,H b=none->b≠x:=λb e z=>by rw[z,j]at e;cases e
 have r:∀b o,X.s₀.heap.get? b=some o->b≠T:=λb o e=>Dp (Dr (Dm e) (Ds I.sz c))
 have a:∀b:Addr,b∉X.ex:=λb z=>by rw[hex]at z;cases z
 have t:∀b,H b=none->b≠T->af (af H T (eN T)) x (fi C d T x) b=none:=λb e z=>by rw[ji (g b e),ji z];exact e
 have U:∀b u,H b=some u->(∀k,u≠ .ext k)->af (af H T (eN T)) x (fi C d T x) b=some u:=λb u e z=>by
  rw[ji (λq=>by rw[q,j]at e;cases e;exact z _ Z),ji (jj e l)]
  exact e
 refine#[λb o e n h _=>?_,λb o e n h _=>?_,λb o e n _=>?_,λb o e _=>?_,λb v e=>U b _ (I.base.tups b v e) (by intro _ q;cases q),λb o u e=>U b _ (I.base.frzs b o u e) (by intro _ q;cases q),λb P e=>?_]
 ·refine N.keep b o (λz=>?_) (g b (I.base.free b o e n (a b))) (I.base.keep b o e n h (a b))
  rcases f b z with q |q
  ·exact h q
  ·exact absurd (Dr (Dm e) q) (Ee _)
 ·obtain⟨w,q⟩:=I.base.slot b o e n h (a b)
  obtain⟨S,Q⟩:=N.slot b _ (g b (I.base.free b o e n (a b))) q
  exact#[S,Q]
 ·exact t b (I.base.free b o e n (a b)) (r b o e)
 ·obtain⟨O,q⟩:=I.base.there b o e (a b)
  by_cases h:b=x
  ·obtain⟨A,_,_,_,i,_⟩:=N.ex
   exact#[_,by rw[h];exact i]
  ·obtain⟨w,Q⟩:=N.slot b O h q
   exact#[_,Q]
 ·obtain⟨m,q⟩:=I.base.tbls b P e
  exact#[m,U b _ q (by intro _ q;cases q)]
end
section
variable {P:Program}{w:World}{K:Frag}{mg:Str->Option Value}{base:Heap}{N:List Str}{qual:Str}{scope:Scope}{f:Addr}{cd:Value}{A:Around}{outer:List Env}{s₀:Shared}{H₀:Hp}{E:XK}
variable {pins:List (Addr×Obj)}{σ:St}{H:Hp}{s:Shared}{x C:Addr}{d:Option Addr}
theorem p7(I:ap (eB (em P w) P w K mg base N qual scope f cd A outer s₀ H₀ E) pins σ H s)(c:H x=some (u6 C d x))
  (h:∀T,H T=none->E (.ref C) d (af (af H T (eN T)) x (fi C d T x))):(eB (em P w) P w K mg base N qual scope f cd A outer s₀ H₀ E).xe (.ref x) s:=by
 obtain⟨⟨O,l,q,t,r,v,m,n⟩,_⟩:=I.hok x _ c
 have g:=(Array.getElem?_eq_some_iff.mp n).1
 refine Q8 (base:=base) I.ok.frames I.stack Z l m n λy o=>?_
 obtain⟨T,p,a,i,j⟩:=o.hok (C:=C) (d:=d) (fl:=.none) I c l q r m g λb k=>I.stkFree b k
 have u:=o.un (C:=C) (d:=d) I Z c p i λb k=>by
  rcases List.mem_cons.mp (I.stkSub b k) with e |e
  ·exact .inr (by rw[e];exact I.ok.above)
  ·exact .inl e
 exact#[x,C,d,T,_,Z,I.os,I.bare,u,j,jc,by rw[ji a,jc],a,h T p]
theorem ap.cleared{X:Cx}(I:ap X pins σ H s)(c:H T=some (eN T))(i:s.heap.get? T=some O)(j:O.data= .fields t)(k:t[3]?=some .none):ap X pins σ H { s with heap:=dN T s.heap }:=by
 have h:=DS j (·.setIfInBounds 3 Value.none)
 have g:=DW (Obj.mapFields (·.setIfInBounds 3 Value.none)) i (Ei h)
 have:=I.write (x:=T) (e:=T) (o:=eN T) (h':=dN T s.heap) (t':=s.toks) (by rw[c];exact True.intro) (.inl Z) (λb u a q=>(Du _ _ (DQ a)).trans q) #[_,g] (ZL g h (by simp [(Array.getElem?_eq_some_iff.mp k).1]))
 have l:af H T (eN T)=H:=by
  funext b
  by_cases a:b=T
  ·rw[a,jc,c]
  ·rw[ji a]
 rw[l]at this
 exact this
theorem sT(I:ap (eB (em P w) P w K mg base N qual scope f cd A outer s₀ H₀ E) pins σ H s)(g:H x=some (fi C d T x))(n:H T=some (eN T))(c:T≠x)
  (h:∀t,H t=none->E (.ref C) d (af (af H t (eN t)) x (fi C d t x))):(eB (em P w) P w K mg base N qual scope f cd A outer s₀ H₀ E).xe (.ref x) s:=by
 obtain⟨⟨O,V,o,D,G,F,p,q⟩,_⟩:=I.hok x _ g
 obtain⟨⟨J,L,r,u,v⟩,_⟩:=I.hok T _ n
 have i:=(Array.getElem?_eq_some_iff.mp q).1
 have y:=I.cleared n r u v
 refine XC (base:=base) I.ok.frames I.stack Z o p q c r u v λM z=>?_
 have j:(dN T s.heap).get? x=some O:=(Du _ _ c).trans o
 obtain⟨t,B,a,k,l⟩:=cn.hok (C:=C) (d:=d) (fl:=.none) y g j D F p i (λb m=>I.stkFree b m) z
 have U:=cn.un (C:=C) (d:=d) y Z g B k (λb m=>by
  rcases List.mem_cons.mp (I.stkSub b m) with e |e
  ·exact .inr (by rw[e];exact I.ok.above)
  ·exact .inl e) z
 exact#[x,C,d,t,_,Z,I.os,I.bare,U,l,jc,by rw[ji a,jc],a,h t B]
theorem sD{j:XK}(m:∀x C d T t a,a x=some (fi C d T x)->a T=some (eN T)->a t=none->j (.ref C) d a->E (.ref C) d (af (af a t (eN t)) x (fi C d t x))):
  cV (em P w) (eB (em P w) P w K mg base N qual scope f cd A outer s₀ H₀ E) j:=by
 intro pins σ H s e S I h
 obtain⟨x,C,d,T,a,rfl,os,B,u,c,k,l,i,n⟩:=h
 obtain⟨p,g,D,q,o⟩:=S
 obtain rfl:o=s.os:=os
 have r:=I.call (h':=p) (g':=g) (d':=D) (t':=q) (ch:=[]) u c B (λb z=>absurd z Ie)
 exact sT r k l i λt v=>m x C d T t a k l v n
end
section
open PySem.W
variable {prog:Program}{w:World}{A:Around}{E:Value->Shared->Prop}{K:Frag}{x C:Addr}{ox:Obj}{vs:Array Value}{env:Env}
theorem XD{ev:Sem Value}(e:A.handled=none)
  (h:wpAny (model prog w) A ev (λv S=>∃x C ox vs,v= .ref x/\K.In S.heap/\oO K C/\typeIn K (.ref C)=some (.type "type")/\S.heap.get? x=some ox/\ox.cls= .ref C/\ox.data= .fields vs/\vs[1]?=some .none/\E (.ref x) S) E s):
  wpAny (model prog w) A (raiseStmt env (some ev) none) Q E s:=by
 unfold raiseStmt
 refine Dc (Eh h (λv S a=>?_) λ_ _ z=>z)
 obtain⟨x,C,ox,vs,rfl,X,f,i,b,j,c,m,n⟩:=a
 obtain⟨H,g,d,T,os⟩:=S
 have L:Looks (model prog w) H (typeOf (.ref x)) (.ref C):=j▸(Looks.ld b).andThen .now
 have l:Looks (model prog w) H (isType (.ref x)) false:=by
  intro y B D F k q
  unfold isType loadHead
  refine Dc (Hf (k _ _ b) ?_)
  rw[c]
  exact De q
 have L2:=Hs (M:=model prog w) X f.mb
 have o:=looks_typeIn (M:=model prog w) X i
 have p:Looks (model prog w) H (isInstance (.ref x) (.type "BaseException")) true:=L.andThen L2
 have r:Looks (model prog w) H (isExcClass (.ref x)) false:=by
  unfold isExcClass
  exact l.andThen .now
 have t:Looks (model prog w) H (raisedInstance (.ref x)) (.ref x):=by
  unfold raisedInstance
  exact L.andThen (o.andThen (by rw[DB Ib];exact .now))
 have u:Looks (model prog w) H (excFromValue (.ref x) "exceptions must derive from BaseException") (.ref x):=by
  unfold excFromValue
  exact r.andThen (by rw[DC Ib];exact p.andThen (by rw[DB Z];exact .now))
 refine Dc (De ?_)
 refine Dc (DI (u.at ?_))
 dsimp only
 refine Dc (l.at ?_)
 rw[DC Ib]
 refine Dc (t.at ?_)
 unfold setFlight
 refine Dc (Dc (DH b c m ?_))
 rw[DC Ib]
 exact De (wpAny_raiseNew_none e n)
end
def vm(X:Cx)(W:Addr->Addr->Option Addr->Hp->Prop):Prop:=∀(p:List (Addr×Obj)) (a:St) (H:Hp) (s:Shared) (x C:Addr) (d:Option Addr),ap X p a H s->H x=some (u6 C d x)->W x C d H->X.xe (.ref x) s
theorem K8{P:Program}{K:Frag}:
  vm (eB (em P w) P w K m b N q s f g A o a c E) (λx C d H=>∀T,H T=none->E (.ref C) d (af (af H T (eN T)) x (fi C d T x))):=
 λ_ _ _ _ _ _ _ I e h=>p7 I e h
def wQ(K:Frag)(t:TE)(W:Addr->Addr->Option Addr->Hp->Prop):TS:=λ_ a H=>t a H λv h=>∃x C d,v= .ref x/\h x=some (u6 C d x)/\oO K C/\typeIn K (.ref C)=some (.type "type")/\W x C d h
theorem QQ{X:Cx}{e:Expr}{t:TE}{P:Pos}{W:Addr->Addr->Option Addr->Hp->Prop}(f:X.calm=true)(F:vm X W)(g:PE X e t):PS X (.Raise (some e) none P) (wQ X.K t W):=by
 intro p s b H D I h
 rw[arm_exec_Raise]
 refine Dc (Fp ?_)
 refine XD (K:=X.K) (ev:=do let v <- eval e X.env;standAt P;pure v) (I.ok.hd f) (Dc (aL (g p s b H _ I h) λu S a=>Dc (Fp (De ?_))))
 obtain⟨v,j,i,r,x,C,d,ev,c,k,l,q⟩:=a
 subst ev
 obtain rfl:u=Value.ref x:=r
 obtain⟨⟨o,m,n,z,A,V,w,y⟩,_⟩:=i.hok x _ c
 exact#[x,C,o,V,Z,i.kIn,k,l,m,n,w,y,F p b j S x C d i c q]
section
variable {X:Cx}{pins:List (Addr×Obj)}{σ:St}{H:Hp}{s:Shared}{x C:Addr}{d:Option Addr}
theorem ap.noted{t':Nat}(I:ap X pins σ H s)(a:H x=some (.ext l))(p:s.heap.get? x=some O)(r:O.cls= .ref C)(t:O.dict=d)(v:O.data= .fields w)(c:1 < w.size)
  (N:cn .none (gX X.stack) x O s.heap y):∃T,H T=none/\T≠x/\ap X pins σ (af (af H T (eN T)) x (fi C d T x)) { s with heap:=y,toks:=t' }:=by
 obtain⟨T,m,f,g,i⟩:=cn.hok (C:=C) (d:=d) (fl:=.none) I a p r t v c (λb h=>I.stkFree b h) N
 have j:∀b,H b=none->b≠x:=λb e z=>by rw[z,a]at e;cases e
 have U:∀b u,H b=some u->(∀l,u≠ .ext l)->af (af H T (eN T)) x (fi C d T x) b=some u:=λb u e z=>by
  rw[ji (λq=>by rw[q,a]at e;cases e;exact z _ Z),ji (jj e m)]
  exact e
 refine#[T,m,f,I.call (g':=s.gens) (d':=s.drawn) (ch:=[]) ?_ i I.bare (λb z=>absurd z Ie)]
 refine#[λb o e n h _=>N.keep b o h (j b n) e,λb o e n _ _=>N.slot b o (j b n) e,λb o e n _=>?_,λb o e _=>?_,λb A e=>U b _ e (by intro _ q;cases q),λb o u e=>U b _ e (by intro _ q;cases q),λb P e=>#[(List.toArray []),by rw[U b _ e (by intro _ q;cases q)];simp]]
 ·rw[ji (j b n),ji (Dp (Dr (Dm e) g))]
  exact n
 ·by_cases h:b=x
  ·obtain⟨B,_,_,_,k,_⟩:=N.ex
   exact#[_,by rw[h];exact k]
  ·obtain⟨S,q⟩:=N.slot b o h e
   exact#[_,q]
end
noncomputable abbrev Cx.mark(X:Cx)(e:Value)(xe:Value->Shared->Prop):Cx:={ X with A:=X.A.mark (some e),calm:=false,xe:=xe }
theorem ap.mark{X:Cx}(I:ap X p a H s)(e:Value)(x:Value->Shared->Prop):ap (X.mark e x) p a H s:=
 #[#[I.ok.mod,I.ok.kind,I.ok.glob,I.ok.blt,I.ok.above,I.ok.inj,I.ok.has,I.ok.cab,(λz=>nomatch (show false=true from z)),I.ok.frames,I.ok.stk,I.ok.exf,I.ok.bs,I.ok.bsz,I.ok.noex,I.ok.exfs,I.ok.funs,I.ok.frf],I.os,I.bare,I.base,I.loc,I.cell,I.free,I.freeC,I.pin,I.hok,I.len]
theorem ap.unmark{X:Cx}(o:X.Ok)(I:ap (X.mark e x) p a H s):ap X p a H s:=
 #[o,I.os,I.bare,I.base,I.loc,I.cell,I.free,I.freeC,I.pin,I.hok,I.len]
section
open PySem.W
theorem qm{K:Frag}(X:K.In h)(a:h.get? x=some o)(b:o.cls= .ref C)(H:clsIn K B≠none)(tB:typeIn K (.ref B)=some (.type "type"))(m:mroIn K B (.type "BaseException")=some true)(c:mroIn K C (.ref B)=some true):
  Looks M h (excMatches (.ref x) (.ref B)) true:=by
 have L:Looks M h (typeOf (.ref x)) (.ref C):=b▸(Looks.ld a).andThen .now
 have l:=looks_typeIn (M:=M) X tB
 have L2:Looks M h (isInstance (.ref B) (.type "tuple")) false:=l.andThen (Looks.of_pure tc_notTuple)
 have d:Looks M h (isType (.ref B)) true:=by
  unfold clsIn at H
  split at H
  ·rename_i e
   intro A Q E s k q
   unfold isType loadHead
   exact Dc (Hf (k _ _ (X _ _ e)) (De q))
  ·exact absurd Z H
 have f:Looks M h (isExcClass (.ref B)) true:=by
  unfold isExcClass
  exact d.andThen (by rw[DB Z];exact Hs X m)
 have g:=Hs (M:=M) X c
 intro A Q E s k q
 unfold excMatches
 refine Dc (L2 A _ E s k ?_)
 rw[DC Ib]
 refine Dc (De ?_)
 dsimp only
 refine Dc ?_
 rw[EC]
 refine Dc (Dc (f A _ E s k ?_))
 simp only[Fy,Dq,Ek]
 refine De ?_
 dsimp only
 rw[Fo]
 refine De ?_
 refine Dc (L A _ E s k ?_)
 refine Dc ?_
 rw[EC]
 refine Dc (Dc (g A _ E s k ?_))
 simp only[FN]
 refine De (De ?_)
 exact De q
end
abbrev XR:=Addr->Addr->Option Addr->Addr->Hp->Prop
def XW(X:Cx)(p:List (Addr×Obj))(a:St)(R:XR)(e:Value)(s:Shared):Prop:=
 ∃x C d T H,e= .ref x/\ap X p a H s/\H x=some (fi C d T x)/\H T=some (eN T)/\T≠x/\R x C d T H
abbrev BQ:=St->Hp->VK->XR->Prop
abbrev Ca:=be->XR->St->Hp->Prop
def CH(X:Cx)(e:Expr)(t:BQ):Prop:=
 ∀(p:List (Addr×Obj)) (s:Shared) (a:St) (H:Hp) (Q:VK) (R:XR),ap X p a H s->t a H Q R->wpAny (model X.prog X.w) X.A (eval e X.env) (EP X p a Q) (XW X p a R) s
def CN(X:Cx)(st:Stmt)(t:Ca):Prop:=
 ∀(p:List (Addr×Obj)) (s:Shared) (a:St) (H:Hp) (D:be) (R:XR),ap X p a H s->t D R a H->wpAny (model X.prog X.w) X.A (exec st X.env) (SP X p D) (XW X p a R) s
def CA(R:XR):XK:=λc d H=>∀x C T,c= .ref C->H x=some (fi C d T x)->H T=some (eN T)->T≠x->R x C d T H
def xG(s:Sp)(d:List V)(t:TA):BQ:=λa H Q R=>t a H λv h=>s (v++d) h Q (CA R)
section
variable {X:Cx}{k:Nat}{f:Addr}{fd:FuncData}{ps:List Str}{sp:Sp}{dvs:List V}{ds:List Value}{x:Str}{p pos:Pos}{e:Expr}{es:List Expr}{t:TA}{te:BQ}
theorem oA(F:ai X.prog X.w X.K X.mg X.base (em X.prog X.w) k f fd ps sp)(y:bq k X.A)(D:Gl X x)(E:X.mg x=some (.ref f))(G:keepIn X.K (.ref f)=true)(J:aw X.K fd ps ds)(L:au dvs ds)
  (M:PA X.nox (e::es) t) (g:(x==("__debug__":Str))=false:=by decide) (N:starEach (e::es) X.env=(false,eval e X.env)::starEach es X.env:=by rfl) (j:(backTo pos (starEach es X.env)).any (·.1)=false:=by rfl):
  CH X (.Call (.Name x p) (e::es) [] pos) (xG sp dvs t):=by
 intro P s O H Q R I h
 refine Ed (kX I D E ?_ g)
 refine HK (h₀:=X.base) I.ok.mod.kin G (Eh (M pos P s O H _ (I.wish _) h) (λU S #[v,W,i,r,q]=>#[i.kIn,?_]) λ_ _ z=>z.elim) N j
 have i:=i.unwish
 have m:au (v++dvs) (U++ds):=r.append L
 have Y:(U++ds).length=ps.length:=by rw[<- m.length];exact F.len _ _ _ _ q
 refine wpAny_call (FF (F.run X.A X.stack S W #[U,[]] (U++ds) (v++dvs) Q (CA R) y i.env0 (J S U i.kIn Y) m q) λr s' a=>?_)
 cases r with
 |error e=>
  obtain⟨x,C,d,T,H',rfl,os,B,un,l,n,o,c,hw⟩:=a
  exact#[x,C,d,T,H',Z,i.call' os un l B (λb z=>absurd z Ie),n,o,c,hw x C T Z n o c]
 |ok fl=>
  cases fl with
  |ret u=>exact i.after a
  |next=>exact False.elim a
  |brk=>exact False.elim a
  |cont=>exact False.elim a
theorem tJ{i:Nat}{y:Str}{P:Pos}(d:X.N.Nodup)(g:X.N[i]?=some y)(j:px X.env.scope y)(l:CH X e te)(m:swapsWith e (some (.Name y P)) pos.line X.env=pure false:=by rfl)(n:X.fn y=true∨X.env.scope.names.lookup y=some .local:=by first |exact .inl Z |exact .inr Z |assumption):
  CN X (.Assign [.Name y P] e pos) (λD R b H=>te b H (λv c=>D.nx (b.set i (some v)) c) R):=by
 intro a s b H D R I h
 refine wpAny_Assign_Name (aL (l a s b H _ R I h) λv S #[y,c,o,r,q]=>?_) m
 exact zh o d g j r (λw u=>#[_,c,u,q]) n
end
theorem aJ.ok1{P:Program}{K:Frag}{st:Stmt}{a:Sp}(F:aJ K x q st f g)(S:aj N p (aa st))(len:∀v H Q E,a v H Q E->v.length=p.length)
  (h:∀(c:Value) (A:Around) (o:List Env) (s:Shared) (H:Hp) (v:List V) (Q:VK) (E:XK),bq k (A.deeper (envOfC q (aa st) s.heap.objs.size f c))->a v H Q E->
   ∃t,iS (eB (em P w) P w K m b N q (aa st) f c A o s H E) (a7 st) t/\t { nx:=λ_ i=>Q .non i,rt:=Q } (eS N v) H):ai P w K m b (em P w) (k+1) f g p a:=by
 obtain⟨l,n,kV,D,r,u,c,C,O,rfl,lk,d⟩:=F.ex
 exact vt lk d S len λA o s H v Q E j e=>h c A o s H v Q E j e
end L2
namespace L2
open PySem PySem.Spec PyProof.Rows PySem.SeqAt
noncomputable def oC(x y:List V):Bool:=(List.range (min x.length y.length)).all (λj=>le (x.getD j .non) (y.getD j .non))&&x.length==y.length
section
variable {X:Cx}
theorem YW(r:au x i)(R:au y I)(f:x.all cg=true)(F:y.all cg=true)(j:Nat)(c:j < i.toArray.size)(d:j < I.toArray.size):EqAt A s i.toArray[j] I.toArray[j] (le (x.getD j .non) (y.getD j .non)):=by
 have L:=r.length
 have p:=R.length
 have H:j < x.length:=by simp at c;omega
 have h:j < y.length:=by simp at d;omega
 have a:x[j]?=some x[j]:=Dh H
 have b:y[j]?=some y[j]:=Dh h
 obtain⟨u,q,g⟩:=r.get a
 obtain⟨U,Q,k⟩:=R.get b
 have l:=List.all_eq_true.mp f _ (EK H)
 have m:=List.all_eq_true.mp F _ (EK h)
 have E:i.toArray[j]=u:=by
  obtain⟨_,e⟩:=List.getElem?_eq_some_iff.mp q
  simpa using e
 have n:I.toArray[j]=U:=by
  obtain⟨_,e⟩:=List.getElem?_eq_some_iff.mp Q
  simpa using e
 have G:x.getD j .non=x[j]:=by rw[Fn,a];rfl
 have o:y.getD j .non=y[j]:=by rw[Fn,b];rfl
 rw[E,n,G,o]
 exact ZG g k l m
theorem wY(f:X.A.units < cLine):eW X (compareOp .Eq) (λx y H Q=>∃a b c Y,x= .ref a/\y= .ref b/\aA X.K H a c/\aA X.K H b Y/\c.all cg=true/\Y.all cg=true/\Q (.bl (oC c Y)) H):=by
 intro p s z H x y v u Q I g k h
 obtain⟨a,b,c,Y,rfl,rfl,l,m,F,n,q⟩:=h
 cases g
 cases k
 obtain⟨i,r,P,_⟩:=I.tuple l
 obtain⟨d,R,o,_⟩:=I.tuple m
 refine eq_tupleAt (e:=λj=>le (c.getD j .non) (Y.getD j .non)) (show s.heap.IsTuple a i.toArray from P) (show s.heap.IsTuple b d.toArray from o) f (λj t w=>YW r R F n j t w) ?_
 have e:((List.range (min i.toArray.size d.toArray.size)).all (λj=>le (c.getD j .non) (Y.getD j .non))&&i.toArray.size==d.toArray.size)=oC c Y:=by
  unfold oC
  rw[Dn,Dn,<- r.length,<- R.length]
 rw[e]
 exact#[.bl _,H,I,Z,q]
end
end L2
namespace L2
open PySem PySem.Spec PyProof.Rows
section
variable {prog:Program}{w:World}{A:Around}{E:Value->Shared->Prop}{s:Shared}
theorem XE{Q:Nat->Shared->Prop}(H:n≠0)(h:∀i d,i < n->Q i { s with drawn:=d }):wpAny (model prog w) A (choose a n) Q E s:=by
 intro Γ p _
 show Sem.wp _ Γ (.choose a n .pure) _ _ p s
 rw[Sem.wp_choose]
 exact#[H,h _ _ (Nat.mod_lt _ (Nat.pos_of_ne_zero H))]
theorem Q9{α:Type}:∀(n:Nat) (xs:List α) (s:Shared) {Q:List α->Shared->Prop},xs.length=n->(∀ys d,ys.Perm xs->Q ys { s with drawn:=d })->
  wpAny (model prog w) A (drawOrder n xs) Q E s:=by
 intro n
 induction n with
 |zero=>
  intro xs s Q hl h
  cases xs with
  |nil=>
   unfold drawOrder
   exact De (h [] s.drawn .rfl)
  |cons _ _=>cases hl
 |succ n ih=>
  intro xs s Q hl h
  cases xs with
  |nil=>cases hl
  |cons x r=>
   unfold drawOrder
   refine Dc (XE Ie λi d hi=>?_)
   have hg:(x::r)[i]?=some ((x::r)[i]'hi):=Dh hi
   rw[hg]
   dsimp only
   refine Dc (ih _ _ (by rw[HL hi,hl];rfl) λys d' hp=>De (h _ d' ?_))
   refine(List.Perm.cons _ hp).trans ?_
   rw[Hq]
   refine List.perm_middle.symm.trans ?_
   rw[List.getElem_cons_drop,GP]
end
noncomputable def ig:Value->Str
 | .str x _=>x
 |_=>#[(List.toArray [])]
theorem Kz(t:SetTable)(n:Nat):(t.orStandIn n).led=t.led:=by
 unfold SetTable.orStandIn
 split
 ·rfl
 ·rfl
theorem XF(t:SetTable)(e:Array (Int×Value))(h:Int)(x:Value):(layNew t e h x).2.1.led=t.led:=by
 unfold layNew
 split
 ·exact Kz _ _
 ·rfl
theorem QD(t:SetTable)(E:Array (Int×Value))(n:Nat):(relayAll t E n).2.1.led=t.led:=by
 unfold relayAll
 split
 ·rename_i T o e
  unfold SetTable.relaid SetTable.laid at e
  cases h:SetTable.layClean (SetTable.sizeAbove n - 1) (E.map (·.1)) with
  |none=>rw[h]at e;cases e
  |some O=>
   rw[h]at e
   cases e
   dsimp only
   split<;>rfl
 ·rfl
theorem Kn(t:SetTable)(E:Array (Int×Value))(n:Nat)(H:t.plain=false):(relayAll t E n).2.1.plain=false:=by
 unfold relayAll
 split
 ·rename_i T o e
  unfold SetTable.relaid SetTable.laid at e
  cases h:SetTable.layClean (SetTable.sizeAbove n - 1) (E.map (·.1)) with
  |none=>rw[h]at e;cases e
  |some O=>
   rw[h]at e
   cases e
   dsimp only
   split
   ·exact H
   ·rfl
 ·rfl
def bY(p:Program)(w:World)(h:Heap)(a:Addr)(L:List Str):Prop:=
 ∃o E b t,h.get? a=some o/\o.ExactSet/\o.data= .set E b t/\ElemsOf (PySem.strKind p w) E.toList/\(E.toList.map λe=>ig e.2).Perm L/\L.Nodup
  /\E.size < scanBound/\t.fits E.size=true/\t.led=!(w.params.followText "set-order")/\(t.plain=false∨E.size=0)
theorem bY.at{H:Heap}{a:Addr}(x:bY p w h a L)(e:∀o,h.get? a=some o->H.get? a=some o):bY p w H a L:=
 let #[o,E,b,t,c,r]:=x;#[o,E,b,t,e o c,r]
section
variable {prog:Program}{w:World}{A:Around}{E:Value->Shared->Prop}{s:Shared}
theorem Jt{a:Array (Int×Value)}(b:ElemsOf (PySem.strKind prog w) a.toList)(x:Str):
  (a.toList.findIdx? (λe=>(PySem.strKind prog w).is x e.2)=none↔¬x∈a.toList.map λe=>ig e.2):=by
 rw[List.findIdx?_eq_none_iff]
 constructor
 ·intro h m
  obtain⟨e,H,f⟩:=List.mem_map.mp m
  obtain⟨⟨k,g,_⟩,_⟩:=b e H
  obtain⟨t,c⟩:=Ge g
  have q:=h e H
  rw[c]at f q
  have d:k=x:=f
  subst d
  have Q:(PySem.strKind prog w).is k (.str k t)=true:=strKind_is prog w k t
  rw[Q]at q;cases q
 ·intro h e H
  cases q:(PySem.strKind prog w).is x e.2 with
  |false=>rfl
  |true=>
   obtain⟨t,c⟩:=Ge q
   exact absurd (List.mem_map.mpr #[e,H,by rw[c];rfl]) h
theorem Ju{b:Array (Int×Value)}{T:SetTable}(d:s.heap.get? a=some o)(f:o.ExactSet)(h:o.data= .set p c t)
  (g:ElemsOf (PySem.strKind prog w) b.toList) (i:(b.toList.map λe=>ig e.2).Perm L) (j:L.Nodup) (k:b.size < scanBound) (l:T.fits b.size=true)
  (m:T.led=!(w.params.followText "set-order")) (n:T.plain=false):
  (s.heap.update a (Obj.putSet b T)).get? a=some { o with data:=.set b (c+1) T }/\bY prog w (s.heap.update a (Obj.putSet b T)) a L:=by
 have H:(s.heap.update a (Obj.putSet b T)).get? a=some { o with data:=.set b (c+1) T }:=by
  have q:=DW (Obj.putSet b T) d (by rw[putSet_of b T h];rfl)
  rwa [putSet_of b T h]at q
 exact#[H,_,b,c+1,T,H,f,Z,g,i,j,k,l,m,.inl n]
theorem Xa{Q : Bool -> Shared -> Prop}(hS : bY prog w s.heap a L)(room : L.length + 1 < scanBound)
    (h : ∀ b R l, Heap.SameBut a s.heap R -> bY prog w R a (if x ∈ L then L else L ++ [x]) -> s.toks <= l -> Q b { s with heap := R, toks := l }) :
    wpAny (model prog w) A (setAdd a (.str x f)) Q E s := by
  obtain ⟨o, g, ep, t, n, U, u, H, v, B, hb, V, X, Y⟩ := hS
  have d : (PySem.strKind prog w).is x (.str x f) = true := strKind_is prog w x f
  have C : g.size = L.length := by rw [<- v.length_eq, Di, DF]
  unfold setAdd
  refine DI (Dc ((PySem.strKind prog w).pyHash (k := x) d ?_))
  unfold setAddHashed setAddHashedIn
  refine DI (Dc (EG (s := { s with toks := s.toks + 1 }) n u V ?_))
  dsimp only
  rw [byScan_of Z hb H]
  simp only [↓reduceIte]
  unfold setAddByScan
  refine Dc (Dc (EU (Dc (wpAny_setScan_of (knd := PySem.strKind prog w) d n u V H ?_))))
  cases hr : List.findIdx? (λe => (PySem.strKind prog w).is x e.2) g.toList with
  | some j =>
    dsimp only
    have D : x ∈ L := by
      refine Decidable.byContradiction λhn => ?_
      have q := (Jt (prog := prog) (w := w) H x).mpr λm => hn (v.mem_iff.mp m)
      rw [q] at hr; cases hr
    have q := h false s.heap (s.toks + 1) (Heap.SameBut.refl a s.heap) (by rw [DB D]; exact #[o, g, ep, t, n, U, u, H, v, B, hb, V, X, Y]) (EA _)
    exact De (De q)
  | none =>
    dsimp only
    have D : ¬ x ∈ L :=λm => (Jt (prog := prog) (w := w) H x).mp hr (v.mem_iff.mpr m)
    have W : ∀ (b : Bool) {S : Shared} {Q' : Unit -> Shared -> Prop}, Q' () S -> wpAny (model prog w) A (match b with | true => rule "set.scan.the-table-gave-way" | false => pure ()) Q' E S := by
      intro b S Q' hq
      cases b
      · exact De hq
      · exact EU hq
    have p := layNew_perm t g ((PySem.strKind prog w).hash x) (.str x f)
    have M := layNew_fits t g ((PySem.strKind prog w).hash x) (.str x f)
    have O := XF t g ((PySem.strKind prog w).hash x) (.str x f)
    generalize layNew t g ((PySem.strKind prog w).hash x) (.str x f) = N at p M O ⊢
    obtain ⟨c, t1, w0, g4⟩ := N
    dsimp only at p M O ⊢
    rw [Array.toList_push] at p
    have F : ElemsOf (PySem.strKind prog w) c.toList := (H.push d Z).perm p
    have P : (c.toList.map λe => ig e.2).Perm (L ++ [x]) := by
      refine (p.map _).trans ?_
      rw [DJ]
      exact v.append_right _
    have G : (L ++ [x]).Nodup := List.nodup_append.mpr #[B, by simp,λy hy z hz e => by rw [He] at hz; subst hz; subst e; exact D hy]
    have iR : c.size = g.size + 1 := by rw [<- DF, p.length_eq, Dj, DF]; rfl
    have b1 : c.size < scanBound := by rw [iR, C]; exact room
    refine Dc (W _ ?_)
    have i : ∀ T : SetTable, T.fits c.size = true -> T.led = t.led -> T.plain = false ->
        wpAny (model prog w) A (do
          storeSet a c T
          if (!w0 && T.tooFull) = true then do
              (match (relayAll T c (SetTable.grown c.size)).2.2 with | true => rule "set.scan.the-table-gave-way" | false => pure ())
              storeSet a (relayAll T c (SetTable.grown c.size)).1 (relayAll T c (SetTable.grown c.size)).2.1
              pure (some true)
            else pure (some true)) (λr s' => r = some true /\ Q true s') E { s with toks := s.toks + 1 } := by
      intro T g1 g2 g3
      refine Dc (wpAny_storeSet_of (s := { s with toks := s.toks + 1 }) n u ?_ (Gw b1))
      obtain ⟨o1, S1⟩ := Ju (s := s) (prog := prog) (w := w) n U u F P G b1 g1 (g2.trans X) g3
      have I := EN s.heap a (Obj.putSet c T)
      split
      · have J := relayAll_perm T c (SetTable.grown c.size)
        have f2 := relayAll_fits T c (SetTable.grown c.size)
        have l2 := QD T c (SetTable.grown c.size)
        have q2 := Kn T c (SetTable.grown c.size) g3
        generalize relayAll T c (SetTable.grown c.size) = Z at J f2 l2 q2 ⊢
        obtain ⟨K, t3, g0⟩ := Z
        dsimp only at J f2 l2 q2 ⊢
        have bG : K.size = c.size := by rw [<- DF, J.length_eq, DF]
        have b2 : K.size < scanBound := by rw [bG]; exact b1
        refine Dc (W _ (Dc (wpAny_storeSet_of (s := { s with heap := s.heap.update a (Obj.putSet c T), toks := s.toks + 1 }) o1 Z ?_ (Gw b2))))
        obtain ⟨_, S2⟩ := Ju (s := { s with heap := s.heap.update a (Obj.putSet c T) }) (prog := prog) (w := w) o1 U Z (F.perm J) ((J.map _).trans P) G b2 f2 (l2.trans (g2.trans X)) q2
        exact De #[Z, h true _ _ (I.trans (EN _ a _)) (by rw [DC D]; exact S2) (EA _)]
      · exact De #[Z, h true _ _ I (by rw [DC D]; exact S1) (EA _)]
    split
    · rename_i tp
      refine Dc ?_
      rw [hashByValue_scannable 8 (x := .str x f) Z]
      refine De ?_
      have e0 : plainKind (.str x f) = false := rfl
      rw [e0]
      simp only [Dq, ↓reduceIte]
      refine Eh (i { t1 with plain := false } (SetTable.fits_plain_off M) O Z) (λr s' q => ?_) λ_ _ z => z
      obtain ⟨rfl, q⟩ := q
      exact De q
    · rename_i tp
      refine Dc (De ?_)
      simp only [↓reduceIte]
      refine Eh (i t1 M O (by simpa using tp)) (λr s' q => ?_) λ_ _ z => z
      obtain ⟨rfl, q⟩ := q
      exact De q
end
noncomputable def a8(w:World):Obj:={ cls:=.type "set",dict:=none,data:=.set (List.toArray []) 0 (.fresh 0 0 (!(w.params.followText "set-order"))) }
section
variable {prog:Program}{w:World}{A:Around}{E:Value->Shared->Prop}{s:Shared}
theorem Xb{h:Heap}(e:h.get? a=some (a8 w)):bY prog w h a []:=
 #[_,(List.toArray []),0,_,e,#[Z,Z,Z],Z,λ_ z=>by simp at z,Ie,Gd,(by decide:(0:Nat) < scanBound),Z,Z,.inr Z]
theorem KA(a:Value){G:Value->Shared->Prop}(h:G (.ref s.heap.objs.size) { s with heap:=s.heap.push (a8 w) }):
  codeAny (model prog w) A (.call (.builtin "set.__new__") #[[.type "set",a],[]]) (wants G E) s:=by
 refine codeAny_of_tree ?_
 show wpAny _ A.in1 (do checkBuiltinCall "set.__new__" _;again (.builtin "set.__new__" _)) _ _ s
 refine Dc (Gv (PySem.F.newCall_set_1 a) (De #[Fd PySem.F.plain_set_new _,Es PySem.F.entry_set_new ?_]))
 rw[Ec PySem.F.plain_set_new]
 unfold Builtin.«set.__new__» Builtin.Frozenset.newClass
 have o:=sub_set_self
 obtain⟨H,g,d,t,os⟩:=s
 dsimp only
 wp_walk
 refine FE (De ?_)
 dsimp only
 simp only[newObj]
 exact Dc (wpAny_alloc (De (De h)))
end
theorem StrsAre.at':∀{V:List Value} {s:List Str},StrsAre V s->∀(i:Nat) (v:Value),V[i]?=some v->∃x t,s[i]?=some x/\v= .str x t
 |_,_,.nil,i,v,h=>by simp at h
 |_,_,.cons y t r,0,v,h=>by simp at h;exact#[y,t,Z,h.symm]
 |_,_,.cons y t r,i+1,v,h=>by
  simp only[List.getElem?_cons_succ]at h
  obtain⟨x,T,e,E⟩:=StrsAre.at' r i v h
  exact#[x,T,by simpa using e,E]
theorem StrsAre.len:∀{v:List Value} {s:List Str},StrsAre v s->s.length=v.length
 |_,_,.nil=>rfl
 |_,_,.cons _ _ r=>by simp [StrsAre.len r]
theorem jY:Slot "set_iterator" "__next__" "set_iterator.__next__":=by
 refine .of (owner:="set_iterator") (n:="__next__") ?_ Ig Ig Ig ?_ ?_
 ·rw[Er,D2];kernel_rfl
 ·first |exact .inl Ig |exact .inr Ig
 ·rw[EE];kernel_rfl
theorem zP:Slot "set_iterator" "__iter__" "set_iterator.__iter__":=by
 refine .of (owner:="set_iterator") (n:="__iter__") ?_ Ig Ig Ig ?_ ?_
 ·rw[Er,D2];kernel_rfl
 ·first |exact .inl Ig |exact .inr Ig
 ·rw[EE];kernel_rfl
theorem Ji:entryFor table "set_iterator.__next__"=some Builtin.«set_iterator.__next__»:=GU (by kernel_rfl)
theorem Jj:entryFor table "set_iterator.__iter__"=some Builtin.«dict_keyiterator.__iter__»:=by
 refine Hj (id':="dict_keyiterator.__iter__") ?_ Z Ig ?_<;>kernel_rfl
theorem Jz:entryFor table "set.__iter__"=some Builtin.«frozenset.__iter__»:=by
 refine Hj (id':="frozenset.__iter__") ?_ Z Ig ?_<;>kernel_rfl
theorem JA(a:Value):argsOk "set_iterator.__next__" #[[a],[]]:=by unfold argsOk;kernel_rfl
theorem JB(a:Value):argsOk "set_iterator.__iter__" #[[a],[]]:=by unfold argsOk;kernel_rfl
def bH(h:Heap)(I:Addr)(f:Value)(i:Nat)(S:Addr)(n e:Nat):Prop:=
 ∃o,h.get? I=some o/\o.cls= .type "set_iterator"/\o.data= .fields (List.toArray [f,.int i 0,.ref S,.int n 0,.int e 0])
theorem bH.at{H:Heap}{i:Nat}{S:Addr}(x:bH h I f i S n E)(e:∀o,h.get? I=some o->H.get? I=some o):bH H I f i S n E:=
 let #[o,a,r]:=x;#[o,e o a,r]
theorem bH.is{s:Shared}{S:Addr}(x:bH s.heap I f i S n e):s.TypeIs (.ref I) "set_iterator":=let #[o,h,H,_]:=x;#[o,h,H]
section
variable {prog:Program}{w:World}{A:Around}{E:Value->Shared->Prop}{s:Shared}
theorem JE{c:Type}{Q:c->Shared->Prop}(d:A.handled=none)
  (h:∀H e,(∀b o,s.heap.get? b=some o->H.get? b=some o)->Shared.TypeIs { s with heap:=H } e "StopIteration"->E e { s with heap:=H }):
  wpAny (model prog w) A (do raiseNew (<- newExc (.type "StopIteration") []):Sem c) Q E s:=by
 refine Dc ?_
 simp only[newExc,newTuple]
 refine Dc (DX ?_ (by size_fits))
 refine Dc (m:=firstArgMember _ _) (Gv (a:=Value.none) ?_ ?_)
 ·first |rfl | (simp only[firstArgMember];rfl)
 refine DX ?_ (by size_fits)
 simp only[raiseNew]
 refine Dc (wpAny_handled ?_)
 rw[d]
 refine Dc (De (wpAny_throw (h _ _ (λb o e=>Dg _ (Dg _ e)) ?_)))
 exact#[_,Dl _ Z,Z]
theorem JF{S:Addr}(H:bH s.heap I f i S n c)
  (h:wpAny (model prog w) A.in1 (Builtin.«set_iterator.__next__» #[[.ref I],[]]) (λF a=>∃v,F= .done (.ret v)/\Q (some v) a) (λe a=>a.TypeIs e "StopIteration"/\Q none a) s):
  wpAny (model prog w) A (pyNext (.ref I)) Q E s:=by
 unfold pyNext
 refine Dc (FM (DV (name:=Str.ofString "__next__") H.is jY (DZ jY H.is Ji ?_ (JA _))))
 refine Eh h (λF a q=>?_) λe a q=>?_
 ·obtain⟨v,e,q⟩:=q
  exact#[v,e,De q]
 ·exact Dc (Ff (T:="StopIteration") (b:=true) q.1 Hi (De q.2))
theorem K9{I:Addr}{f:Value}{i:Nat}{S:Addr}{n a:Nat}{o:Obj}{v:Array Value}(H:s.heap.get? I=some o)(b:o.cls= .type "set_iterator")(h:o.data= .fields v)(k:Nat)(x:Value)
  (e:v.setIfInBounds k x=(List.toArray [f,.int i 0,.ref S,.int n 0,.int a 0])):bH (s.heap.update I (Obj.mapFields (·.setIfInBounds k x))) I f i S n a:=
 #[_,DW _ H (Ei (DS h _)),(FY ..).trans b,by rw[DS h,e]]
theorem XG{I S P:Addr}{i:Nat}{O j:Obj}{e:Array (Int×Value)}{a:Nat}{t:SetTable}{k:Array Value}{c p:Nat}{hx:Int}{x:Value}{Q:Option Value->Shared->Prop}
  (h:bH s.heap I (.ref P) i S e.size a) (l:s.heap.get? S=some O) (H:O.data= .set e a t) (m:t.fits e.size=true) (n:s.heap.get? P=some j) (b:j.data= .seq k c)
  (q:k[i]?=some (.int p 0)) (r:e[p]?=some (hx,x)) (u:∀d,bH d I (.ref P) (i+1) S e.size a->Heap.SameBut I s.heap d->Q (some x) { s with heap:=d }):
  wpAny (model prog w) A (pyNext (.ref I)) Q E s:=by
 refine JF h ?_
 obtain⟨o,f,v,g⟩:=h
 show wpAny _ _ (fieldsOf (.ref I) >>= _) _ _ s
 refine Dc (Hg f g ?_)
 dsimp only
 refine Dc (FK l H m ?_)
 simp only[EV,Dq,↓reduceIte]
 refine Dc (D9 n b ?_)
 simp only[D8,q]
 unfold setNextDrawn
 refine Dc (Dc (EG l H m ?_))
 simp only[EV,Dq,↓reduceIte,r]
 refine De ?_
 refine Dc (D4 f g Ie (De #[x,Z,u _ ?_ (EN ..)]))
 exact K9 f v g _ _ (by simp [rawInt])
theorem Ko(q:A.handled=none){I S P:Addr}{i:Nat}{O l:Obj}{d:Array (Int×Value)}{m:Nat}{t:SetTable}{p:Array Value}{c:Nat}{Q:Option Value->Shared->Prop}
  (h:bH s.heap I (.ref P) i S d.size m) (r:s.heap.get? S=some O) (f:O.data= .set d m t) (u:t.fits d.size=true) (v:s.heap.get? P=some l) (g:l.data= .seq p c)
  (x:p[i]?=none) (y:∀H,(∀b o,b≠I->s.heap.get? b=some o->H.get? b=some o)->Q none { s with heap:=H }):
  wpAny (model prog w) A (pyNext (.ref I)) Q E s:=by
 refine JF h ?_
 obtain⟨o,j,B,a⟩:=h
 show wpAny _ _ (fieldsOf (.ref I) >>= _) _ _ s
 refine Dc (Hg j a ?_)
 dsimp only
 refine Dc (FK r f u ?_)
 simp only[EV,Dq,↓reduceIte]
 refine Dc (D9 v g ?_)
 simp only[D8,x]
 refine Dc (D4 j a Ie ?_)
 refine Dc (D4 (DW _ j (Ei (DS a _))) (DS a _) Ie ?_)
 refine JE (s:={ s with heap:=_ }) (by simpa using q) λH e k T=>#[T,y H λb o n z=>k b o ?_]
 exact(Du _ _ (DQ n)).trans ((Du _ _ (DQ n)).trans z)
end
section
variable {prog:Program}{w:World}{A:Around}{E:Value->Shared->Prop}{s:Shared}
theorem Qa{I S:Addr}{i j nx:Nat}{O:Obj}{e:Array (Int×Value)}{a:Nat}{t:SetTable}{x:Value}{Q:Option Value->Shared->Prop}
  (h:bH s.heap I (.int j 0) i S e.size a) (f:s.heap.get? S=some O) (b:O.data= .set e a t) (k:t.fits e.size=true)
  (l:∀(q:Option (Value×Nat)->Shared->Prop) m,q (some (x,nx)) s->wpAny (model prog w) A.in1 (setNext S j i a) q m s)
  (n:∀c,bH c I (.int nx 0) (i+1) S e.size a->Heap.SameBut I s.heap c->Q (some x) { s with heap:=c }):
  wpAny (model prog w) A (pyNext (.ref I)) Q E s:=by
 refine JF h ?_
 obtain⟨o,d,p,H⟩:=h
 show wpAny _ _ (fieldsOf (.ref I) >>= _) _ _ s
 refine Dc (Hg d H ?_)
 dsimp only
 refine Dc (FK f b k ?_)
 simp only[EV,Dq,↓reduceIte]
 simp only[D8]
 refine Dc (l _ _ ?_)
 dsimp only
 refine Dc (D4 d H Ie ?_)
 have g:=DW (Obj.mapFields (·.setIfInBounds 0 (rawInt nx))) d (Ei (DS H _))
 have D:=DS H (·.setIfInBounds 0 (rawInt nx))
 refine Dc (D4 g D Ie (De #[x,Z,n _ ?_ ((EN ..).trans (EN ..))]))
 exact K9 (s:={ s with heap:=_ }) g ((FY ..).trans p) D _ _ (by simp [rawInt])
theorem qo(l:A.handled=none){I S:Addr}{i j:Nat}{O:Obj}{a:Array (Int×Value)}{c:Nat}{t:SetTable}{Q:Option Value->Shared->Prop}
  (h:bH s.heap I (.int j 0) i S a.size c) (m:s.heap.get? S=some O) (d:O.data= .set a c t) (n:t.fits a.size=true)
  (p:∀(q:Option (Value×Nat)->Shared->Prop) r,q none s->wpAny (model prog w) A.in1 (setNext S j i c) q r s)
  (u:∀H,(∀b o,b≠I->s.heap.get? b=some o->H.get? b=some o)->Q none { s with heap:=H }):
  wpAny (model prog w) A (pyNext (.ref I)) Q E s:=by
 refine JF h ?_
 obtain⟨o,f,y,g⟩:=h
 show wpAny _ _ (fieldsOf (.ref I) >>= _) _ _ s
 refine Dc (Hg f g ?_)
 dsimp only
 refine Dc (FK m d n ?_)
 simp only[EV,Dq,↓reduceIte]
 simp only[D8]
 refine Dc (p _ _ ?_)
 dsimp only
 refine Dc (D4 f g Ie ?_)
 refine JE (s:={ s with heap:=_ }) (by simpa using l) λH e k T=>#[T,u H λb o v x=>k b o ?_]
 exact(Du _ _ (DQ v)).trans x
theorem qS(a:w.params.followText "set-order"=true){S:Addr}(b:s.heap.get? S=some o)(H:o.data= .set c d t)
  (f:t.fits c.size=true) {Q:Option (Value×Nat)->Shared->Prop} (h:Q (((pickOrder (w.params.setOrder S d) c)[i]?).map λe=>(e.2,j)) s):
  wpAny (model prog w) A (setNext S j i d) Q E s:=by
 unfold setNext
 refine Dc (EG b H f ?_)
 dsimp only
 unfold setsByText
 refine Dc (Dc (FE (De ?_)))
 dsimp only
 rw[show(model prog w).w.params.followText "set-order"=_ from a]
 simp only[↓reduceIte,EV,Dq]
 unfold setWalk
 refine Dc (Dc (EG b H f ?_))
 dsimp only
 unfold setsByText
 refine Dc (Dc (FE (De ?_)))
 dsimp only
 rw[show(model prog w).w.params.followText "set-order"=_ from a]
 simp only[↓reduceIte]
 exact Dc (FE (De (De h)))
theorem Jv(a:w.params.followText "set-order"=false){S:Addr}(b:s.heap.get? S=some o)(H:o.data= .set e c t)
  (d:t.fits e.size=true) (f:t.led=true) (l:e.size<=1) {Q:Option (Value×Nat)->Shared->Prop}
  (h:Q (match e[SetTable.below t.place j]?,t.place[SetTable.below t.place j]? with |some (_,x),some k=>some (x,k+1) |_,_=>none) s):
  wpAny (model prog w) A (setNext S j i c) Q E s:=by
 unfold setNext
 refine Dc (EG b H d ?_)
 dsimp only
 unfold setsByText
 refine Dc (Dc (FE (De ?_)))
 dsimp only
 rw[show(model prog w).w.params.followText "set-order"=_ from a]
 simp only[Dq,↓reduceIte]
 split
 ·rename_i z
  have g:(!t.plain&&decide (e.size > 1))=true:=z
  simp only[Ej,decide_eq_true_eq]at g
  omega
 ·refine Dc ?_
  show wpAny _ _ (if (!t.led&&!e.isEmpty)=true then _ else _) _ _ _
  rw[f]
  simp only[Fy,Bool.false_and,Dq,↓reduceIte]
  exact De (De h)
end
theorem Xc{a:Type}(f:Nat->Nat):∀(n k:Nat) (l:List a) (o:Array a),l.length=n->(pickOrder.go f n k l o).toList.Perm (o.toList++l):=by
 intro n
 induction n with
 |zero=>
  intro k l o h
  rw[List.length_eq_zero_iff.mp h]
  unfold pickOrder.go
  simp
 |succ n i=>
  intro k l o h
  unfold pickOrder.go
  have H:f k % l.length < l.length:=Nat.mod_lt _ Ic
  rw[Dh H]
  dsimp only
  refine(i _ _ _ (by rw[HL H,h];rfl)).trans ?_
  rw[Array.toList_push,Hn,List.singleton_append]
  refine List.Perm.append_left _ ?_
  rw[Hq]
  refine List.perm_middle.symm.trans ?_
  rw[List.getElem_cons_drop,GP]
theorem j7{a:Type}(f:Nat->Nat)(x:Array a):(pickOrder f x).toList.Perm x.toList:=by
 have h:=Xc f x.size 0 x.toList (List.toArray []) (DF ..)
 simpa [pickOrder] using h
theorem QR{a:Type}(x:Array a)(d:a):(List.range x.size).map (λp=>(x[p]?).getD d)=x.toList:=by
 refine List.ext_getElem Ie λi b h=>?_
 have H:i < x.size:=by simpa using h
 simp [H]
def lW(ord:List (Int×Value))(i:Nat)(v:Value):Prop:=∃e,ord[i]?=some e/\v=e.2
section
variable {prog:Program}{w:World}{A:Around}{E:Value->Shared->Prop}{s:Shared}
theorem qx{S:Addr}(H:bH s.heap I f i S n e){Q:Value->Shared->Prop}(h:Q (.ref I) s):wpAny (model prog w) A (pyIter (.ref I)) Q E s:=by
 refine HJ H.is zP (DZ zP H.is Jj ?_ (JB _))
 show wpAny _ _ (ret (.ref I)) _ _ s
 exact De #[_,Z,"set_iterator",_,H.is,jY.lookup,h]
theorem XH(D:A.handled=none)(I S P:Addr)(l:S≠I)(m:P≠I){O oP:Obj}{y:List Nat}{c:Nat}(f:O.data= .set d G t)
  (u:t.fits d.size=true) (g:oP.data= .seq (y.map λ(i:Nat)=>rawInt i).toArray c) (n:y.Perm (List.range d.size)):
  WalksS prog w A I [I,S,P] [I] (λa b=>b=a) d.size (lW (y.map λp=>(d[p]?).getD (0,.none)))
   (λi s=>bH s.heap I (.ref P) i S d.size G/\s.heap.get? S=some O/\s.heap.get? P=some oP) where
 sub:=λb H=>by simp at H;simp [H]
 grefl:=λ_=>Z
 gtrans:=λ_ _ _ F J=>J.trans F
 frame:=λi s v T st _ k=>#[st.1.at λo e=>k I Ie o e,k S Ie _ st.2.1,k P Ie _ st.2.2]
 item:=λi s Q E K st j=>by
  have B:y.length=d.size:=by rw[n.length_eq,Hm]
  have h:i < y.length:=by omega
  have C:y[i] < d.size:=List.mem_range.mp (n.mem_iff.mp (EK h))
  refine XG (p:=y[i]) (hx:=(d[y[i]]).1) (x:=(d[y[i]]).2) st.1 st.2.1 f u st.2.2 g (by simp [h,rawInt]) (by simp [C]) λv q r=>?_
  refine j _ _ #[d[y[i]],by simp [h,C],Z] #[q,?_,?_] #[λb o H e=>?_,Z,Z,Z,Dk _]
  ·rw[r.2 S l];exact st.2.1
  ·rw[r.2 P m];exact st.2.2
  ·rw[r.2 b (λz=>H (by simp [z]))];exact e
 done:=λs Q E st j=>by
  have B:y.length=d.size:=by rw[n.length_eq,Hm]
  refine Ko D st.1 st.2.1 f u st.2.2 g (by simp [B]) λv k=>j _ #[λb o H e=>k b o (λz=>H (by simp [z])) e,Z,Z,Z,Dk _]
 self:=λ_ _ _ _ st j=>qx st.1 j
theorem YX(r:A.handled=none)(m:w.params.followText "set-order"=true)(I S:Addr)(l:S≠I){O:Obj}(h:O.data= .set c d t)
  (j:t.fits c.size=true):
  WalksS prog w A I [I,S] [I] (λa b=>b=a) c.size (lW (pickOrder (w.params.setOrder S d) c).toList)
   (λi s=>bH s.heap I (.int (0:Nat) 0) i S c.size d/\s.heap.get? S=some O) where
 sub:=λb H=>by simp at H;simp [H]
 grefl:=λ_=>Z
 gtrans:=λ_ _ _ u v=>v.trans u
 frame:=λi s n T st _ k=>#[st.1.at λo e=>k I Ie o e,k S Ie _ st.2]
 item:=λi s Q E D st f=>by
  have y:(pickOrder (w.params.setOrder S d) c).size=c.size:=by rw[<- DF,(j7 _ _).length_eq,DF]
  have g:i < (pickOrder (w.params.setOrder S d) c).size:=by omega
  refine Qa (x:=(pickOrder (w.params.setOrder S d) c)[i].2) (nx:=0) st.1 st.2 h j (λB C q=>qS m st.2 h j (by rw[ES g];exact q)) λn q p=>?_
  refine f _ _ #[(pickOrder (w.params.setOrder S d) c)[i],by rw[EO];exact ES g,Z] #[q,?_] #[λb o H e=>?_,Z,Z,Z,Dk _]
  ·rw[p.2 S l];exact st.2
  ·rw[p.2 b (λz=>H (by simp [z]))];exact e
 done:=λs Q E st f=>by
  have y:(pickOrder (w.params.setOrder S d) c).size=c.size:=by rw[<- DF,(j7 _ _).length_eq,DF]
  refine qo r st.1 st.2 h j (λB C q=>qS m st.2 h j (by rw[Gu Ic];exact q)) λn k=>f _ #[λb o H e=>k b o (λz=>H (by simp [z])) e,Z,Z,Z,Dk _]
 self:=λ_ _ _ _ st f=>qx st.1 f
theorem XI(p:Nat):SetTable.below (List.toArray [p]) 0=0:=by simp [SetTable.below,SetTable.below.go]
theorem XJ(p:Nat):SetTable.below (List.toArray [p]) (p+1)=1:=by simp [SetTable.below,SetTable.below.go]
theorem nJ(G:A.handled=none)(u:w.params.followText "set-order"=false)(I S:Addr)(n:S≠I){O:Obj}(h:O.data= .set c L t)
  (g:t.fits c.size=true) (v:t.led=true) (y:c.size<=1):
  WalksS prog w A I [I,S] [I] (λa b=>b=a) c.size (lW c.toList)
   (λi s=>(∃j:Nat,bH s.heap I (.int j 0) i S c.size L/\(i=0->j=0)/\(i=1->∃p,t.place=(List.toArray [p])/\j=p+1))/\s.heap.get? S=some O) where
 sub:=λb d=>by simp at d;simp [d]
 grefl:=λ_=>Z
 gtrans:=λ_ _ _ K M=>M.trans K
 frame:=λi s B W st _ k=>#[let #[j,a,r]:=st.1;#[j,a.at λo e=>k I Ie o e,r],k S Ie _ st.2]
 item:=λi s Q E X st l=>by
  obtain⟨⟨j,H,J,C⟩,f⟩:=st
  have N:i=0:=by omega
  subst N
  cases J Z
  have D:c.size=1:=by omega
  have P:t.place.size=1:=by
   simp only[SetTable.fits,Ej,beq_iff_eq]at g
   omega
  obtain⟨p,m⟩:=Array.size_eq_one_iff.mp P
  refine Qa (x:=(c[0]'Ic).2) (nx:=p+1) H f h g (λR T q=>Jv u f h g v y (by rw[m,XI,ES Ic];exact q)) λB q F=>?_
  refine l _ _ #[c[0]'Ic,by rw[EO];exact ES Ic,Z] #[#[_,q,λz=>by omega,λ_=>#[p,m,Z]],?_] #[λb o d e=>?_,Z,Z,Z,Dk _]
  ·rw[F.2 S n];exact f
  ·rw[F.2 b (λz=>d (by simp [z]))];exact e
 done:=λs Q E st l=>by
  obtain⟨⟨j,H,J,C⟩,f⟩:=st
  refine qo G H f h g (λR T q=>Jv u f h g v y ?_) λB k=>l _ #[λb o d e=>k b o (λz=>d (by simp [z])) e,Z,Z,Z,Dk _]
  by_cases z:c.size=0
  ·rw[Gu (show c.size<=_ by omega)];exact q
  ·have D:c.size=1:=by omega
   obtain⟨p,U,V⟩:=C D
   subst V
   rw[U,XJ,Gu (show c.size<=1 by omega)];exact q
 self:=λ_ _ _ _ st l=>let #[#[_,a,_],_]:=st;qx a l
end
theorem zM{prog:Program}{w:World}(h:ElemsOf (PySem.strKind prog w) E)(i:Nat)(v:Value)(b:lW E i v):∃x t,(E.map λe=>ig e.2)[i]?=some x/\v= .str x t:=by
 obtain⟨e,H,rfl⟩:=b
 obtain⟨⟨k,c,_⟩,_⟩:=h e (Dx H)
 obtain⟨t,a⟩:=Ge c
 exact#[k,t,by rw[DE,H];show some (ig e.2)=_;rw[a];rfl,a]
def yE(p:Program)(w:World)(s c:Shared)(S I:Addr)(L:List Str):Prop:=
 ∃(f:List Addr) (d:List Str) (P:Nat->Value->Prop) (St:Nat->Shared->Prop),(∀b o,s.heap.get? b=some o->c.heap.get? b=some o)/\c.gens=s.gens/\c.os=s.os/\s.toks<=c.toks/\
  s.heap.objs.size<=I/\I < c.heap.objs.size/\c.TypeIs (.ref I) "set_iterator"/\(∀b∈f,b=S∨s.heap.objs.size<=b)/\(∀A:Around,A.handled=none->WalksS p w A I f [I] (λa b=>b=a) d.length P St)/\St 0 c/\
  (∀i v,P i v->∃x t,d[i]?=some x/\v= .str x t)/\d.Perm L
section
variable {prog:Program}{w:World}{A:Around}{E:Value->Shared->Prop}{s:Shared}
theorem XL{S:Addr}(V:bY prog w s.heap S L){Q:Value->Shared->Prop}(h:∀f I,yE prog w s f S I L->Q (.ref I) f):wpAny (model prog w) A (pyIter (.ref S)) Q E s:=by
 obtain⟨o,a,x,t,H,W,m,n,M,X,r,u,Y,N⟩:=V
 have P:s.TypeIs (.ref S) "set":=#[o,H,W.1]
 have v:S < s.heap.objs.size:=Dm H
 refine HJ P PySem.F.slot_set_iter (DZ PySem.F.slot_set_iter P Jz ?_ (PySem.F.args_set_iter_1 _))
 unfold Builtin.«frozenset.__iter__»
 show wpAny _ _ (Builtin.Frozenset.sizeOf S >>= _) _ _ s
 unfold Builtin.Frozenset.sizeOf
 refine Dc (Dc (FK H m u (De ?_)))
 unfold setDrawn
 refine Dc (Dc (EG H m u ?_))
 dsimp only
 unfold setsByText
 refine Dc (Dc (FE (De (De ?_))))
 split
 ·rename_i z
  have B:(!(w.params.followText "set-order")&&(!t.plain&&decide (a.size > 1)))=true:=z
  simp only[Ej,decide_eq_true_eq]at B
  refine Dc (Q9 a.size (List.range a.size) s Ie λy d G=>?_)
  have C:y.length=a.size:=by rw[G.length_eq,Hm]
  have O:((y.map λ(i:Nat)=>rawInt i).length)<=sizeLine:=by rw[Di,C];exact Gw r
  refine Dc (wpAny_newTuple (s:={ s with drawn:=d }) ?_ O)
  refine Dc ?_
  unfold setEpoch
  refine Dc (EG (Dg _ H) m u (De ?_))
  refine Dc (DX (De #[_,Z,"set_iterator",_,#[_,Dl _ Z,Z],jY.lookup,h _ _ ?_]))
  generalize J:s.heap.push { cls:=.type "tuple",data:=.seq (y.map λ(i:Nat)=>rawInt i).toArray }=g
  have R:g.objs.size=s.heap.objs.size+1:=by rw[<- J,D5]
  have gP:g.get? s.heap.objs.size=some { cls:=.type "tuple",data:=.seq (y.map λ(i:Nat)=>rawInt i).toArray }:=by rw[<- J];exact Dl _ Z
  have gS:g.get? S=some o:=by rw[<- J];exact Dg _ H
  refine#[[g.objs.size,S,s.heap.objs.size],(y.map λp=>(a[p]?).getD (0,.none)).map λe=>ig e.2,lW (y.map λp=>(a[p]?).getD (0,.none)),
   (λi f=>bH f.heap g.objs.size (.ref s.heap.objs.size) i S a.size x/\f.heap.get? S=some o/\f.heap.get? s.heap.objs.size=some { cls:=.type "tuple",data:=.seq (y.map λ(i:Nat)=>rawInt i).toArray }),λb o e=>?_,Z,Z,Dk _,?_,?_,#[_,Dl _ Z,Z],λb r=>?_,
   λT D=>?_,#[#[_,Dl _ Z,Z,Z],Dg _ gS,Dg _ gP],?_,?_]
  ·exact Dg _ (by rw[<- J];exact Dg _ e)
  ·show s.heap.objs.size<=g.objs.size
   omega
  ·show g.objs.size < (g.push _).objs.size
   rw[D5];exact Eo _
  ·simp only[EZ,DO,F']at r
   rcases r with e |e |e
   ·subst e;exact .inr Ic
   ·exact .inl e
   ·rw[e];exact .inr (Dk _)
  ·have q:=XH (prog:=prog) (w:=w) D g.objs.size S s.heap.objs.size (Dp (by rw[R];exact Fh v)) (Dp (by rw[R];exact Eo _)) m u (oP:={ cls:=.type "tuple",data:=.seq (y.map λ(i:Nat)=>rawInt i).toArray }) (c:=0) Z G
   simpa [C] using q
  ·refine zM (prog:=prog) (w:=w) (n.perm ?_)
   have q:=G.map λp=>(a[p]?).getD ((0:Int),Value.none)
   rwa [QR]at q
  ·have q:=G.map λp=>(a[p]?).getD ((0:Int),Value.none)
   rw[QR]at q
   exact(q.map _).trans M
 ·rename_i z
  have B:¬(!(w.params.followText "set-order")&&(!t.plain&&decide (a.size > 1)))=true:=z
  refine Dc (De ?_)
  refine Dc ?_
  unfold setEpoch
  refine Dc (EG H m u (De ?_))
  refine Dc (DX (De #[_,Z,"set_iterator",_,#[_,Dl _ Z,Z],jY.lookup,h _ _ ?_]))
  have k:∀b∈[s.heap.objs.size,S],b=S∨s.heap.objs.size<=b:=λb r=>by
   simp only[EZ,DO,F']at r
   rcases r with e |e
   ·subst e;exact .inr (Dk _)
   ·exact .inl e
  have l:∀U:Obj,s.heap.objs.size < (s.heap.push U).objs.size:=λU=>by rw[D5];exact Eo _
  cases K:w.params.followText "set-order" with
  |true=>
   have pl:(pickOrder (w.params.setOrder S x) a).toList.length=a.size:=by rw[(j7 _ _).length_eq,DF]
   refine#[[s.heap.objs.size,S],(pickOrder (w.params.setOrder S x) a).toList.map λe=>ig e.2,lW (pickOrder (w.params.setOrder S x) a).toList,
    (λi f=>bH f.heap s.heap.objs.size (.int (0:Nat) 0) i S a.size x/\f.heap.get? S=some o),λb o e=>Dg _ e,Z,Z,Dk _,Dk _,l _,#[_,Dl _ Z,Z],k,
    λT D=>?_,#[#[_,Dl _ Z,Z,Z],Dg _ H],?_,?_]
   ·have q:=YX (prog:=prog) (w:=w) D K s.heap.objs.size S (Dp v) m u
    rw[Di,pl];exact q
   ·exact zM (prog:=prog) (w:=w) (n.perm (j7 _ _))
   ·exact((j7 _ _).map _).trans M
  |false=>
   have hs:a.size<=1:=by
    rw[K]at B
    rcases N with e |e
    ·rw[e]at B
     simp at B
     exact B
    ·omega
   refine#[[s.heap.objs.size,S],a.toList.map λe=>ig e.2,lW a.toList,
    (λi f=>(∃j:Nat,bH f.heap s.heap.objs.size (.int j 0) i S a.size x/\(i=0->j=0)/\(i=1->∃p,t.place=(List.toArray [p])/\j=p+1))/\f.heap.get? S=some o),λb o e=>Dg _ e,Z,Z,Dk _,Dk _,l _,#[_,Dl _ Z,Z],k,
    λT D=>?_,#[#[0,#[_,Dl _ Z,Z,Z],λ_=>Z,λz=>by cases z],Dg _ H],?_,?_]
   ·have q:=nJ (prog:=prog) (w:=w) D K s.heap.objs.size S (Dp v) m u (by rw[Y,K];rfl) hs
    rw[Di,DF];exact q
   ·exact zM (prog:=prog) (w:=w) n
   ·exact M
theorem qp:∀(V:List Value) (S:List Str),V.length=S.length->(∀(i:Nat) (v:Value),V[i]?=some v->∃x t,S[i]?=some x/\v=Value.str x t)->StrsAre V S
 | [],[],_,_=>.nil
 | [],_::_,h,_=>by cases h
 |_::_,[],h,_=>by cases h
 |v::V,y::S,h,k=>by
  obtain⟨x,t,e,rfl⟩:=k 0 v Z
  cases e
  exact .cons y t (qp V S (by simpa using h) λi u H=>k (i+1) u (by simpa using H))
theorem KB{S:Addr}(hh:A.handled=none)(y:bY prog w s.heap S L){Q:List Value->Shared->Prop}
  (h:∀a V g,s.heap.objs.size<=a.heap.objs.size->(∀b o,s.heap.get? b=some o->a.heap.get? b=some o)->a.gens=s.gens->a.os=s.os->s.toks<=a.toks->StrsAre V g->g.Perm L->Q V a):wpAny (model prog w) A (collect (.ref S)) Q E s:=by
 have n:L.length < scanBound:=by
  obtain⟨o,es,ep,t,j,J,hd,h0,u,h1,k,hf,hl,h2⟩:=y
  rw[<- u.length_eq,Di,DF];exact k
 unfold collect
 refine Dc (wpAny_runValue (Es HF ?_))
 rw[Ec HE]
 show wpAny _ A.in1 (newList [] >>= λl=>again (.builtin "list.__iadd__" #[[l,.ref S],[]])) _ _ s
 refine Dc (DX (De #[Fd FH _,Es HW ?_]))
 rw[Ec FH]
 show wpAny _ A.in1 (Builtin.List.listExtendWith (.ref s.heap.objs.size) (.ref S) (.ref s.heap.objs.size)) _ _ _
 unfold Builtin.List.listExtendWith
 have p:S < s.heap.objs.size:=by obtain⟨o,_,_,_,j,_⟩:=y;exact Dm j
 generalize x:s.heap.push { cls:=.type "list",data:=.seq ([]:List Value).toArray }=H
 have gl:H.get? s.heap.objs.size=some { cls:=.type "list",data:=.seq ([]:List Value).toArray }:=by rw[<- x];exact Dl _ Z
 have M:bY prog w H S L:=y.at λo e=>by rw[<- x];exact Dg _ e
 have gk:∀b o,s.heap.get? b=some o->H.get? b=some o:=λb o e=>by rw[<- x];exact Dg _ e
 have R:Shared.TypeIs { s with heap:=H } (.ref S) "set":=by
  obtain⟨o,_,_,_,j,J,_⟩:=M
  exact#[o,j,J.1]
 refine Dc (EQ R ?_)
 have n1:Builtin.List.listSameRef (.ref s.heap.objs.size) (.ref S)=false:=by
  simp only[Builtin.List.listSameRef,beq_eq_false_iff_ne]
  exact D6 p
 have n2:(Value.type "set"==Value.type "list")=false:=by decide
 have n3:(Value.type "set"==Value.type "tuple")=false:=by decide
 simp only[n1,n2,n3,HU,Dq,Ek]
 refine Dc (XL (s:={ s with heap:=H }) M λr I #[fp,g,P,St,K,kg,ko,kt,B,h3,h4,C,W,st,hv,u]=>?_)
 have D:H.objs.size=s.heap.objs.size+1:=by rw[<- x,D5]
 have f:r.TypeIs (.ref S) "set":=by
  obtain⟨o,j,hc⟩:=R
  exact#[o,K _ _ j,hc]
 refine Dc (DI ?_)
 unfold Builtin.List.listLengthHint
 refine Dc (EH f PySem.F.slot_set_len.lookup ?_)
 wp_delta
 refine Dc (Ff (b:=true) f sub_set_self ?_)
 show wpAny _ A.in1 (typeOf (Value.ref S) >>= _) _ _ _
 refine Dc (EQ f (De ?_))
 rw[DB Ib]
 refine Dc (EU ?_)
 have T:=K _ _ gl
 refine Dc ?_
 show wpAny _ A.in1 (updateSeq s.heap.objs.size (·.push .none) >>= λ_=>updateSeq s.heap.objs.size (·.pop)) _ _ _
 refine Dc (G8 T Z ?_)
 have U:=DW (Obj.mapSeq (·.push Value.none)) T Z
 refine G8 U Z ?_
 have g3:=DW (Obj.mapSeq (·.pop)) U Z
 have N:¬s.heap.objs.size∈fp:=λm=>by
  rcases C _ m with e |e
  ·exact absurd p (by rw[<- e];exact Ee _)
  ·have e':H.objs.size<=s.heap.objs.size:=e
   omega
 have O:∀b o,b≠s.heap.objs.size->r.heap.get? b=some o->((r.heap.update s.heap.objs.size (Obj.mapSeq (·.push Value.none))).update s.heap.objs.size (Obj.mapSeq (·.pop))).get? b=some o:=
  λb o k e=>(Du _ _ (DQ k)).trans ((Du _ _ (DQ k)).trans e)
 have X:=W A.in1 (by simpa using hh)
 have hn:g.length<=sizeLine:=by rw[u.length_eq];exact Gw n
 refine De #[Fd HN _,codeAny_extend_loopS X hn _ N _ g.length 0 _ _ _ Z (Dt _) (X.frame 0 r _ r.toks st (Dk _) λb k o e=>O b o (λz=>N (z▸k)) e) g3 (ItemsOf.nil P) λa G c m Y d=>?_]
 show wpAny _ A (load s.heap.objs.size >>= _) _ _ a
 refine Dc (wpAny_load Y (De (h a G.toList g (Fq (Dm Y)) (λb o e=>?_) ?_ ?_ ?_ ?_ u)))
 ·have ne:b≠s.heap.objs.size:=Dp (Dm e)
  refine m.heap b o ?_ (O b o ne (K b o (gk b o e)))
  simp only[EZ,DO,F',not_or]
  refine#[ne,λz=>?_]
  have q:s.heap.objs.size+1<=I:=D▸B
  have q2:=Dm e
  rw[z]at q2
  exact absurd (Dr (Fh q2) q) (Ee _)
 ·exact m.gens.trans kg
 ·exact m.os.trans ko
 ·exact Ds kt m.toks
 ·refine qp _ _ (by rw[DF,d.1]) λi v e=>hv i v (d.2 i v (by rwa [EO]at e))
end
section
variable {prog:Program}{w:World}{A:Around}{E:Value->Shared->Prop}{s:Shared}
theorem QE{S:Addr}(z:A.handled=none)(B:bY prog w s.heap S L)(j:L.length < 64){Q:Value->Shared->Prop}
  (h:∀f a c v i,s.heap.objs.size<=a->(∀b o,s.heap.get? b=some o->f.heap.get? b=some o)->f.gens=s.gens->f.os=s.os->f.heap.get? a=some (seqObj "list" v c)->StrsAre v.toList i->i.Perm L->sortedS i=true->Q (.ref a) f):
  wpAny (model prog w) A (call (.builtin "sorted") [.ref S]) Q E s:=by
 refine Calls.call_function_entry kind_sorted plain_sorted entry_sorted (args_sorted1 _) ?_
 unfold Builtin.«sorted»
 refine Dc (m:=checkCount "sorted" 1 1 _) (De ?_)
 refine Dc (KB (by simpa using z) B λd v i K k C D P H r=>?_)
 have F:v.length < 64:=by rw[<- L2.StrsAre.len H,r.length_eq];exact j
 refine Dc (wpAny_newList ?_ (by have q:sizeLine=1000000000∨64<=sizeLine:=.inr Ib;omega))
 have g:=Dl d.heap (o:=seqObj "list" v.toArray 0) Z
 refine Dc (DI (DZ slot_list_sort #[_,g,Z] entry_list_sort (list_sort_treeK strKind_oneLt g H.keysOf (λV t R e=>keyKind_strs (by rw[<- e];exact H)) F λl G I=>#[_,Z,?_]) (args_list_sort _)))
 obtain⟨n,u,J,M⟩:=sorted_out_str H G I
 generalize (arrOf l).map (·.2)=out at u ⊢
 obtain⟨c,N⟩:=sortedHeap_at (out:=out) g
 have O:∀b o,s.heap.get? b=some o->(sortedHeap (d.heap.push (seqObj "list" v.toArray 0)) d.heap.objs.size v out).get? b=some o:=by
  intro b o e
  have x:=k b o e
  have y:b < d.heap.objs.size:=Dm x
  have p:b < (d.heap.push (seqObj "list" v.toArray 0)).objs.size:=by rw[size_push'];exact Fh y
  rw[sortedHeap_old (Dp y) p]
  exact Dg _ x
 exact De #[_,Z,h { d with heap:=sortedHeap (d.heap.push (seqObj "list" v.toArray 0)) d.heap.objs.size v out } d.heap.objs.size c out n K O C D N u (J.trans r) M]
end
theorem qT(h:StrsAre v s):au (s.map V.str) v:=by
 induction h with
 |nil=>exact .nil
 |cons y t _ i=>exact .cons #[t,Z] i
noncomputable def Bo(P:Program)(w:World)(a:Addr)(L:List Str):HO:=.ext λh=>bY P w h a L
section
variable {X:Cx}
theorem zN(i:X.calm=true):dy X (.builtin "sorted") (λx H Q=>∃(p:Addr) (L:List Str),x=[.ref p]/\H p=some (Bo X.prog X.w p L)/\L.length < 64/\
  ∀l S,H l=none->S.Perm L->L.Nodup->sortedS S=true->Q (.ref l) (af H l (.lst (S.map V.str)))):=by
 intro P s B H x U Q I r h
 obtain⟨p,L,rfl,j,d,q⟩:=h
 obtain⟨u,rfl,R⟩:=dQ r
 cases R
 obtain⟨f,_,_⟩:=I.hok p _ j
 have b:L.Nodup:=by obtain⟨_,_,_,_,_,_,_,_,_,b,_⟩:=f;exact b
 refine QE (I.ok.hd i) f d λm a c v S e k K o t y g A=>?_
 have len:(S.map V.str).length<=sizeLine:=by rw[Di,g.length_eq];exact Ds (Fq d) Ib
 have n:aG X.prog X.w (af H a (.lst (S.map V.str))) m.heap a (.lst (S.map V.str)):=#[len,v.toList,c,qT y,t]
 refine#[.ref a,_,I.call' (ch:=[]) o (Un.laid k e (I.hok.fresh e)) (I.hok.laid k e n) (by rw[K];exact I.bare) (λ_ z=>nomatch z),Z,q _ _ (I.hok.fresh e) g b A]
theorem QF:dy X (.builtin "sorted") (λx H Q=>∃(p:Addr) (a:List Str),x=[.ref p]/\aE X.K H p (a.map V.str)/\a.length < 64/\
  ∀l S,H l=none->S.Perm a->sortedS S=true->Q (.ref l) (af H l (.lst (S.map V.str)))):=by
 intro P s v H x U Q I r h
 obtain⟨p,a,rfl,f,b,q⟩:=h
 obtain⟨u,rfl,R⟩:=dQ r
 cases R
 obtain⟨i,g,j,y⟩:=I.list f
 have d:=zK g
 have k:i.length=a.length:=(L2.StrsAre.len d).symm
 refine sorted_strs j.isList d (by rw[k];exact b) λo S m A n=>?_
 obtain⟨c,t⟩:=sortedAll_at s.heap i o
 have len:(S.map V.str).length<=sizeLine:=by rw[Di,A.length_eq];exact Ds (Fq b) Ib
 refine#[.ref (s.heap.objs.size+1),_,I.laid (t':=s.toks) (λ_ _ e=>sortedAll_old e) (EA _) (show aG X.prog X.w _ _ _ (.lst (S.map V.str)) from #[len,o.toList,c,qT m,t]),Z,q _ _ (I.hok.fresh (EA _)) A n]
end
theorem Yi:mroOf (.type "reversed")=pure [.type "reversed",.type "object"]:=by rw[mroOf_type];kernel_rfl
theorem Kq:typeLookup (.type "reversed") "__new__"=pure (some (.builtin "reversed.__new__")):=by rw[Er,D2];kernel_rfl
theorem KC:Slot "reversed" "__init__" "object.__init__":=by
 refine .of (owner:="object") (n:="__init__") ?_ Ig Ig Ig ?_ ?_
 ·rw[Er,D2];kernel_rfl
 ·first |exact .inl Ig |exact .inr Ig
 ·rw[EE];kernel_rfl
theorem XN:TypeCalled "reversed" "reversed.__new__" "object.__init__":=by
 refine#[Ig,Ig,#[_,_,Yi],madeBy_type Yi Kq Ig,Ig,?_,KC]
 rw[EE];kernel_rfl
theorem QG(a:Value):checkTypeCall "reversed" #[[a],[]]=pure ():=by kernel_rfl
theorem Xd(a:Value):checkBuiltinCall "reversed.__new__" #[[.type "reversed",a],[]]=pure ():=by kernel_rfl
theorem KD:entryFor table "reversed.__new__"=some Builtin.«reversed.__new__»:=GU (by kernel_rfl)
theorem uk:isSubtype (.type "reversed") (.type "reversed")=pure true:=by rw[EE];kernel_rfl
theorem QH:typeLookup (.type "tuple") "__reversed__"=pure none:=by rw[Er,D2];kernel_rfl
theorem Kr:isSubtype (.type "tuple") (.type "dict")=pure false:=by rw[EE];kernel_rfl
noncomputable def revObj(t:Addr)(n:Int):Obj:={ cls:=.type "reversed",data:=.fields (List.toArray [.ref t,.int (n - 1) 0]) }
section
variable {prog:Program}{w:World}{A:Around}{E:Value->Shared->Prop}{s:Shared}
theorem rj{Q:Value->Shared->Prop}(H:IsTup s.heap t i)(c:(i.size:Int) < 2 ^ 63)
  (h:Q (.ref s.heap.objs.size) { s with heap:=s.heap.push (revObj t i.size),toks:=s.toks+1+1 }):wpAny (model prog w) A (call (.type "reversed") [.ref t]) Q E s:=by
 refine callType_new (S:=λ_ R a=>a=s/\R (.ok (.ret (.ref s.heap.objs.size))) { s with heap:=s.heap.push (revObj t i.size),toks:=s.toks+1+1 }) XN Ib (QG _) (Xd _) (λo=>Gc o _) KD
  (.of_wp λp W f R a d=>?_) #[Z,#[_,Dl _ Z,Z],h]
 obtain⟨rfl,e⟩:=d
 unfold Builtin.«reversed.__new__» Builtin.SmallTypes.newClass
 refine Dc ?_
 dsimp only
 refine Dc (De ?_)
 simp only[Fy,Dq,Ek]
 refine Dc (Gv uk ?_)
 simp only[Fy,Dq,Ek]
 refine De ?_
 refine Dc (m:=Builtin.SmallTypes.refuseKeywords _ _ _) (De ?_)
 refine Dc (m:=checkCount "reversed" 1 1 _) (De ?_)
 dsimp only
 refine Dc (EH H.typeIs QH ?_)
 dsimp only
 refine Dc ?_
 show wpAny _ _ (isInstance (.ref t) (.type "dict") >>= _) _ _ _
 refine Dc (Ff (b:=false) H.typeIs Kr ?_)
 simp only[Dq,Ek]
 refine Dc (EH H.typeIs PyProof.Rows.slot_tuple_getitem.lookup ?_)
 dsimp only
 rw[DB Ig]
 refine De ?_
 simp only[Fy,Dq,Ek]
 refine Dc (len_tuple H c ?_)
 refine Dc (m:=asInt? _) (De ?_)
 dsimp only
 show wpAny _ _ (newObj (.type "reversed") (.fields [Value.ref t,rawInt ((i.size:Int) - 1)].toArray) >>= _) _ _ _
 exact Dc (DX (De #[_,Z,e]))
end
theorem zB:Slot "reversed" "__next__" "reversed.__next__":=by
 refine .of (owner:="reversed") (n:="__next__") ?_ Ig Ig Ig ?_ ?_
 ·rw[Er,D2];kernel_rfl
 ·first |exact .inl Ig |exact .inr Ig
 ·rw[EE];kernel_rfl
theorem qq:Slot "reversed" "__iter__" "reversed.__iter__":=by
 refine .of (owner:="reversed") (n:="__iter__") ?_ Ig Ig Ig ?_ ?_
 ·rw[Er,D2];kernel_rfl
 ·first |exact .inl Ig |exact .inr Ig
 ·rw[EE];kernel_rfl
theorem Ks:entryFor table "reversed.__next__"=some Builtin.«reversed.__next__»:=GU (by kernel_rfl)
theorem Kt:entryFor table "reversed.__iter__"=some Builtin.«dict_keyiterator.__iter__»:=by
 refine Hj (id':="dict_keyiterator.__iter__") ?_ Z Ig ?_<;>kernel_rfl
theorem KE(a:Value):argsOk "reversed.__next__" #[[a],[]]:=by unfold argsOk;kernel_rfl
theorem KF(a:Value):argsOk "reversed.__iter__" #[[a],[]]:=by unfold argsOk;kernel_rfl
def de(h:Heap)(I t:Addr)(k:Int):Prop:=∃o,h.get? I=some o/\o.cls= .type "reversed"/\o.data= .fields (List.toArray [.ref t,.int k 0])
theorem de.at{H:Heap}(x:de h I t k)(e:∀o,h.get? I=some o->H.get? I=some o):de H I t k:=let #[o,a,r]:=x;#[o,e o a,r]
theorem de.is{s:Shared}(x:de s.heap I t k):s.TypeIs (.ref I) "reversed":=let #[o,h,H,_]:=x;#[o,h,H]
section
variable {prog:Program}{w:World}{A:Around}{E:Value->Shared->Prop}{s:Shared}
theorem QS(H:de s.heap I t k)
  (h:wpAny (model prog w) A.in1 (Builtin.«reversed.__next__» #[[.ref I],[]]) (λf S=>∃v,f= .done (.ret v)/\Q (some v) S) (λe S=>S.TypeIs e "StopIteration"/\Q none S) s):
  wpAny (model prog w) A (pyNext (.ref I)) Q E s:=by
 unfold pyNext
 refine Dc (FM (DV (name:=Str.ofString "__next__") H.is zB (DZ zB H.is Ks ?_ (KE _))))
 refine Eh h (λf S q=>?_) λe S q=>?_
 ·obtain⟨v,e,q⟩:=q
  exact#[v,e,De q]
 ·exact Dc (Ff (T:="StopIteration") (b:=true) q.1 Hi (De q.2))
theorem Au{I t:Addr}{k:Nat}{items:Array Value}{x:Value}{Q:Option Value->Shared->Prop}(H:de s.heap I t k)(c:IsTup s.heap t items)(d:items[k]?=some x)(e:(items.size:Int) < 2 ^ 63)
  (f:∀b,de b I t ((k:Int) - 1)->Heap.SameBut I s.heap b->Q (some x) { s with heap:=b,toks:=s.toks+1 }):wpAny (model prog w) A (pyNext (.ref I)) Q E s:=by
 refine QS H ?_
 obtain⟨o,a,g,h⟩:=H
 have i:k < items.size:=(Array.getElem?_eq_some_iff.mp d).1
 show wpAny _ _ (field (.ref I) 0 >>= _) _ _ s
 refine Dc (DH a h (x:=.ref t) Z (Dc (DH a h (x:=.int k 0) Z ?_)))
 dsimp only
 rw[DC Ic]
 refine Dc (EH c.typeIs PyProof.Rows.slot_tuple_getitem.lookup ?_)
 simp only[Option.isNone_some,Dq,Ek]
 refine Dc (wpAny_mkInt (Dc (FM ?_)))
 refine getItem_tuple (s:={ s with toks:=s.toks+1 }) c Ic Ic (j:=k) ?_ d ?_
 ·unfold seqIndex?
  simp
  omega
 refine Dc (DH (s:={ s with toks:=s.toks+1 }) a h (x:=.int k 0) Z ?_)
 dsimp only
 refine Dc (D4 a h Ie (De #[x,Z,f _ ?_ (EN ..)]))
 exact#[_,DW _ a (Ei (DS h _)),(FY ..).trans g,by rw[DS h];simp [rawInt]]
theorem YY(f:A.handled=none){Q:Option Value->Shared->Prop}(h:de s.heap I t (-1))
  (g:∀a,(∀b o,b≠I->s.heap.get? b=some o->a.get? b=some o)->Q none { s with heap:=a }):wpAny (model prog w) A (pyNext (.ref I)) Q E s:=by
 refine QS h ?_
 obtain⟨o,c,j,H⟩:=h
 show wpAny _ _ (field (.ref I) 0 >>= _) _ _ s
 refine Dc (DH c H (x:=.ref t) Z (Dc (DH c H (x:=.int (-1) 0) Z ?_)))
 dsimp only
 rw[DB Ib]
 refine Dc (EU (Dc ?_))
 show wpAny _ _ (setField (.ref I) 1 (rawInt (-1)) >>= λ_=>setField (.ref I) 0 .none) _ _ _
 refine Dc (D4 c H Ie ?_)
 refine D4 (DW _ c (Ei (DS H _))) (DS H _) Ie ?_
 refine Dc ?_
 refine JE (s:={ s with heap:=_ }) (by simpa using f) λa e k T=>#[T,g a λb o d i=>k b o ?_]
 exact(Du _ _ (DQ d)).trans ((Du _ _ (DQ d)).trans i)
theorem vw(H:de s.heap I t k){Q:Value->Shared->Prop}(h:Q (.ref I) s):wpAny (model prog w) A (pyIter (.ref I)) Q E s:=by
 refine HJ H.is qq (DZ qq H.is Kt ?_ (KF _))
 show wpAny _ _ (ret (.ref I)) _ _ s
 exact De #[_,Z,"reversed",_,H.is,zB.lookup,h]
end
theorem Jw:entryFor table "dict.update.loop"=some Builtin.«dict.update.loop»:=GU (by kernel_rfl)
theorem zr:plainId "dict.update.loop"=true:=by decide+kernel
section
variable {X:Cx}{o lo hi:Expr}{to tl th:TE}{pos p2:Pos}
def C2(to tl th:TE):TG:=λv d H Q=>to d H λO e=>tl d e λa f=>th d f λc h=>∃l b x y i j,O= .ref l/\v= .ref b/\a= .int i/\c= .int j/\h l=some (.lst x)/\h b=some (.lst y)/\l≠b/\0<=i/\i<=j/\j<=(x.length:Int)/\
 x.length+y.length<=sizeLine/\Q d (af h l (.lst (x.take i.toNat++y++x.drop j.toNat)))
theorem nU(m:PE X o to)(n:PE X lo tl)(t:PE X hi th)
  (w:∀v,assign (.Subscript o (.Slice (some lo) (some hi) none p2) pos) X.env v=(do
   let O <- holding [v] (eval o X.env)
   let c <- holding [v,O] (eval (.Slice (some lo) (some hi) none p2) X.env)
   standAt pos
   holding [v,O,c] (setItem O c v)
   release [c,v,O] []):=by intro _;rfl):PG X (.Subscript o (.Slice (some lo) (some hi) none p2) pos) (C2 to tl th):=by
 intro p s a H v u Q I r h
 rw[w]
 refine Dc (DI (aL (m p s a H _ I h) λO A #[x,B,C,R,D]=>?_))
 refine Dc (DI ?_)
 refine wpAny_Slice (aL (n p A a B _ C D) λV E #[y,F,G,J,K]=>aL (t p E a F _ G K) λk S d=>?_)
 obtain⟨z,L,M,N,l,b,xs,ys,i,j,P,T,U,W,Y,h2,f,h0,g,hj,hz,q⟩:=d
 subst P T U W
 cases (show O=Value.ref l from R)
 cases (show u=Value.ref b from r)
 refine De ?_
 have I4:ap X p a L { S with heap:=S.heap.push { cls:=.type "slice",data:=.fields (List.toArray [V,k,.none]) } }:=M.kept (t':=S.toks) λb o e=>Dg _ e
 refine Dc (Fp (Dc (DI ?_)))
 exact YL I4 Y h2 f (Heap.IsSliceOf.new S.heap V k .none) J N h0 g hj hz λs5 I5=>wpAny_release #[a,_,I5,q]
end
end L2
namespace L2
open PySem PySem.Spec PyProof.Rows Builtin Builtin.Str
section
variable {prog:Program}{w:World}{A:Around}{E:Value->Shared->Prop}{s:Shared}
theorem qW{lo:Option Int}{Q:Value->Shared->Prop}(H:IsTup s.heap t i)(d:s.heap.IsSliceOf e v j .none)(p:IsPart v lo)(P:IsPart j f)
  (g:HT.sIx i.size 0 lo=0/\HT.sIx i.size i.size f=i.size) (h:Q (.ref t) s):wpAny (model prog w) A (getItem (.ref t) (.ref e)) Q E s:=by
 obtain⟨os,a,b,k⟩:=id d
 have c:s.TypeIs (.ref e) "slice":=#[os,a,b]
 unfold getItem
 try with_reducible refine DI ?_
 first |refine Dc (De ?_) |skip
 refine Dc (HI H.typeIs Ib ?_)
 refine Dc (DV (name:=Str.ofString "__getitem__") H.typeIs Fb
  (DZ Fb H.typeIs PyProof.Rows.entry_tuple_getitem ?_ (PyProof.Rows.args_tuple_getitem _ _)))
 show wpAny _ _ (Builtin.Tuple.tupleItemsOf (.ref t) >>= _) _ _ s
 refine Dc (PyProof.Rows.tupleItemsOf_ H ?_)
 refine Dc (EQ c ?_)
 rw[DB Ib]
 refine Dc (HT.sliceApplied_gen d p P ?_)
 show wpAny _ _ (if (((HT.sIx i.size 0 lo:Nat):Int)==0&&(1:Int)==1&&(HT.sIx i.size i.size f - HT.sIx i.size 0 lo)==i.size)=true then _ else _) _ _ s
 rw[g.1,g.2,DB Ie]
 unfold Builtin.Tuple.tupleIsExact
 refine Dc (Dc (EQ H.typeIs (De ?_)))
 rw[DB Ib]
 first
  |exact EU (De #[_,Z,De h])
  |exact Dc (EU (De #[_,Z,De h]))
  |exact Dc (De (De #[_,Z,De h]))
end
section
variable {X:Cx}
def u5:R2:=λx y H Q=>∃a b c Y,x= .ref a/\y= .ref b/\H a=some (.tup c)/\H b=some (.tup Y)/\c.length+Y.length<=sizeLine/\∀r h,h r=some (.tup (c++Y))->ae H h->Q (.ref r) h
theorem j4:eW X (binaryOp .Add) u5:=by
 intro P s G H x y v u Q I r R h
 obtain⟨a,b,m,Y,rfl,rfl,d,f,J,q⟩:=h
 have t:=aA.of (K:=X.K) d
 have w:=aA.of (K:=X.K) f
 by_cases z:m=[]
 ·subst z
  cases r
  cases R
  obtain⟨l,L,M,_⟩:=I.tuple t
  obtain⟨i,r2,N,_⟩:=I.tuple w
  have O:l=[]:=L.nil_iff.mpr Z
  subst O
  obtain⟨⟨T,U,A,V⟩,B,C,n,E⟩:=id M
  obtain⟨⟨F,D,data2,S⟩,g,j,W,k⟩:=id N
  simp only at C E j k
  subst C E j k
  exact concat_meets #[_,B,Z] #[_,g,Z] HR seq_tuple_add Go Gn (Gg _ _)
   (tuple_addW0 a b ([]:List Value).toArray i.toArray n W U D V S Z) #[B,g,.ref b,H,I,Z,q b H f (ae.refl H)]
 ·refine rR P s G H _ _ v u Q I r R #[a,b,m,Y,Z,Z,t,w,z,J,λe=>?_,λ_ p np=>?_]
  ·subst e
   exact q a H (by rw[GF];exact d) (ae.refl H)
  ·exact q p _ jc λc o e=>by rw[ji (jj e np)];exact e
def AG:V->Option Int->Option Int->Hp->VK->Prop:=λx lo c H Q=>∃a b,x= .ref a/\H a=some (.tup b)/\∀r h,h r=some (.tup (aT b lo c))->ae H h->Q (.ref r) h
theorem qh:Bn X AG:=by
 intro P s u H x v V w lo j S Q I R k l m h
 obtain⟨a,b,rfl,d,q⟩:=h
 have n:=aA.of (K:=X.K) d
 by_cases g:HT.sIx b.length 0 lo=0/\HT.sIx b.length b.length j=b.length
 ·cases R
  obtain⟨i,r,t,y⟩:=I.tuple n
  have f:i.toArray.size=b.length:=by rw[Dn];exact r.length.symm
  refine#["tuple",_,PyProof.Rows.slot_tuple_getitem.lookup,t.typeIs,?_]
  refine qW t k l m (by rw[f];exact g) #[.ref a,H,I,Z,q a H ?_ (ae.refl H)]
  rw[d]
  unfold aT
  rw[g.1,g.2,List.drop_zero,Hk,DY]
 ·exact wB P s u H _ v V w lo j S Q I R k l m #[a,b,Z,n,g,λp N=>q p _ jc λc o e=>by rw[ji (jj e N)];exact e]
end
end L2
namespace L2
open PySem PySem.Spec PyProof.Rows
theorem vo{G:Bool->Hp->Prop}(y:G true H)(n:b=false->G b H):G b H:=by
 cases b
 ·exact n Z
 ·exact y
theorem aP{A:Prop}(h:∀G:Prop,(A->G)->G):A:=h A λz=>z
section
variable {t u:TS}{D:be}{σ:St}{H:Hp}
theorem dX(h:∀E:be,(∀a b,u D a b->E.nx a b)->t E σ H):eZ t u D σ H:=h { D with nx:=u D } λ_ _ h=>h
theorem ak(h:∀F:St->Hp->Prop,(∀a b,u D a b->F a b)->t { D with nx:=F } σ H):eZ t u D σ H:=h _ λ_ _ h=>h
theorem my{c:TT}(h:∀F:Bool->Hp->Prop,(∀b a,(if b=true then t D σ a else u D σ a)->F b a)->c σ H F):gu c t u D σ H:=h _ λ_ _ x=>x
theorem vE{c:TT}(h:∀F:Bool->Hp->Prop,(∀a,t D σ a->F true a)->(∀a,u D σ a->F false a)->c σ H F):gu c t u D σ H:=by
 refine h _ (λa x=>?_) λa x=>?_
 ·show if true=true then _ else _
  rw[DB Z];exact x
 ·show if false=true then _ else _
  rw[DC Ib];exact x
theorem df(R:St->Hp->Prop)(c:∀E:be,E.rt=D.rt->(∀a b,R a b->E.nx a b)->t E σ H)(d:∀a b,R a b->D.nx a b):Ab t D σ H:=#[R,c { D with nx:=R } Z λ_ _ h=>h,d]
theorem oE{c:TT}{T:TS}(W:Nat->St->Hp->Prop)(d:Nat)(e:W d σ H)
  (f:∀m σ H,∀E:be,E.rt=D.rt->(∀M a b,M < m->W M a b->E.nx a b)->∀F:Bool->Hp->Prop,(∀b,T E σ b->F true b)->(∀b,D.nx σ b->F false b)->∀G:Prop,(c σ H F->G)->W m σ H->G):oI c T D σ H:=by
 refine#[W,#[d,e],λm σ H w=>?_]
 refine f m σ H { D with nx:=λa b=>∃M,M < m/\W M a b,ct:=λa b=>∃M,M < m/\W M a b,bk:=D.nx } Z (λM a b l g=>#[M,l,g]) _ (λb x=>?_) (λb x=>?_) _ (λz=>z) w
 ·show if true=true then _ else _
  rw[DB Z]
  exact#[_,λ_ _ h=>h,x]
 ·show if false=true then _ else _
  rw[DC Ib];exact x
def nD(J:It)(g:TG)(T:TS)(D:be)(σ:St)(H:Hp):Prop:=∃W:Nat->Nat->St->Hp->Prop,(∃m,W 0 m σ H)/\∀i m σ H,W i m σ H->
 (J.stop i H/\D.nx σ H)∨(J.go i H/\∃N:St->Hp->Prop,(∀a h,N a h->∃M,M < m/\W (i+1) M a h)/\∀x h,J.yld i H x h->g x σ h λb c=>T { D with nx:=N,ct:=N,bk:=D.nx } b c)
theorem dU{w:TI}(h:∀F:It->Hp->Prop,(∀J a,nD J g T D σ a->F J a)->w σ H F):yC w g T D σ H:=h _ λ_ _ z=>z
theorem CV{g:TG}{Q:St->Hp->Prop}(h:∀F:St->Hp->Prop,(∀a b,Q a b->F a b)->g x σ H F):g x σ H Q:=h _ λ_ _ z=>z
theorem zp{lo:Int}{g:TG}{T:TS}{D:be}(Pv:Nat->St->Hp->Prop)(d:Pv 0 σ H)
  (e:∀E:be,E.rt=D.rt->∀i σ H,i < n->(∀a c,Pv (i+1) a c->E.nx a c)->∀G:Prop,((g (.int (lo+i)) σ H λb f=>T E b f)->G)->Pv i σ H->G) (j:∀σ H,Pv n σ H->D.nx σ H):nD (tX lo n) g T D σ H:=
 KR Pv d (λi σ H k p=>e { D with nx:=Pv (i+1),ct:=Pv (i+1),bk:=D.nx } Z i σ H k (λ_ _ h=>h) _ (λz=>z) p) j
theorem Jh{K:Frag}{a:Addr}{xs:List V}{g:TG}{T:TS}{D:be}(Pv:Nat->St->Hp->Prop)(e:Pv 0 σ H)(f:∀i σ H,i<=xs.length->Pv i σ H->aE K H a xs)
  (j:∀E:be,E.rt=D.rt->∀i x σ H,xs[i]?=some x->(∀b d,Pv (i+1) b d->E.nx b d)->∀G:Prop,((g x σ H λc k=>T E c k)->G)->Pv i σ H->G) (l:∀σ H,Pv xs.length σ H->D.nx σ H):nD (uQ K a) g T D σ H:=
 Z3 Pv e f (λi x σ H m p=>j { D with nx:=Pv (i+1),ct:=Pv (i+1),bk:=D.nx } Z i x σ H m (λ_ _ h=>h) _ (λz=>z) p) l
theorem J7{K:Frag}{xs:List V}{g:TG}{T:TS}{D:be}(Pv:Nat->St->Hp->Prop)(e:Pv 0 σ H)(f:∀i σ H,i<=xs.length->Pv i σ H->aA K H a xs)
  (j:∀E:be,E.rt=D.rt->∀i x σ H,xs[i]?=some x->(∀b d,Pv (i+1) b d->E.nx b d)->∀G:Prop,((g x σ H λc k=>T E c k)->G)->Pv i σ H->G) (l:∀σ H,Pv xs.length σ H->D.nx σ H):nD (uf K a) g T D σ H:=
 tj Pv e f (λi x σ H m p=>j { D with nx:=Pv (i+1),ct:=Pv (i+1),bk:=D.nx } Z i x σ H m (λ_ _ h=>h) _ (λz=>z) p) l
end
end L2
namespace L2
open PySem PySem.Spec PyProof.Rows PySem.SeqAt
inductive Tr where
 |lf (v:V) |tp (l:Tr) |nil |cons (h t:Tr)
noncomputable def Tr.isL:Tr->Bool
 | .nil=>true
 | .cons _ _=>true
 |_=>false
noncomputable def C6:V->Bool
 | .byt _=>false
 | .flt _=>false
 |_=>true
end L2
namespace L2
open PySem PySem.Spec PyProof.Rows
noncomputable def BS(K:Frag)(a:Addr)(n:Nat):It:=
 #[λi H=>∃X x,aA K H a X/\X.length=n/\X.reverse[i]?=some x,λi H x h=>h=H/\∀X,aA K H a X->X.reverse[i]?=some x,λi H=>∃X,aA K H a X/\X.length=n/\i=n]
theorem oH{P:Program}{K:Frag}(a f:Addr)(n:Nat):iY P w K tg (BS K a n) [f] f (λi h=>de h f a ((n:Int) - 1 - i)) where
 mem:=by simp
 obj:=λi h st b j=>by
  have e:b=f:=by simpa using j
  subst e
  obtain⟨o,e,c,d⟩:=st
  exact#[o,e,λv z=>by rw[d]at z;cases z]
 keep:=λi h q st k=>st.at λo e=>k f Ie o e
 item:=by
  intro X y A B O i g s Q H E I t st C
  subst y A B
  obtain⟨l,x,D,T,m⟩:=C
  obtain⟨r,R,p,hz⟩:=I.tuple D
  have hl:=R.length
  have U:=dE
  have V:i < l.length:=by
   rcases Gs i l.length with z |z
   ·exact z
   ·rw[Ex (by simpa using z)]at m;cases m
  have F:l[l.length - 1 - i]?=some x:=by rw[FV V]at m;exact m
  obtain⟨u,W,Y⟩:=R.get F
  obtain⟨G,J,f2,L,M,N⟩:=t f Ie
  have e:((n:Int) - 1 - i)=((l.length - 1 - i:Nat):Int):=by omega
  rw[e]at st
  refine Au (items:=r.toArray) st (show IsTup s.heap a r.toArray from p) (x:=u) (by simpa using W) (by simp only[Dn];omega) λq S sb=>?_
  have I1:ap X g Q H { s with heap:=q,toks:=s.toks+1 }:=I.turned (t':=s.toks+1) (λb o j e=>(sb.2 b j).trans e) G J L M N
  obtain⟨o,e',c,d⟩:=id S
  refine#[u,Z,X5 (s:={ s with heap:=q,toks:=s.toks+1 }) e' c d Ib #[x,H,I1,Y,#[Z,λys hy=>by rw[I.tuple_inj hy D];exact m],?_,λb j=>(t b j).1]]
  have e2:((n:Int) - 1 - ((i+1:Nat):Int))=((l.length - 1 - i:Nat):Int) - 1:=by omega
  show de q f a ((n:Int) - 1 - ((i+1:Nat):Int))
  rw[e2];exact S
 done:=by
  intro X y A B O i g s Q H E I t st C
  subst y A B
  obtain⟨l,D,T,m⟩:=C
  obtain⟨G,J,f2,L,M,N⟩:=t f Ie
  have e:((n:Int) - 1 - (i:Int))= -1:=by omega
  rw[e]at st
  exact YY (I.ok.hd O) st λq eb=>#[Z,I.turned (t':=s.toks) (λb o j e=>eb b o j e) G J L M N]
 self:=λ_ _ _ _ _ st h=>vw st h
section
variable {X:Cx}{tg:Expr}
def BG(K:Frag)(t:TE):TI:=λc H R=>t c H λx h=>∃a b,x= .ref a/\aA K h a b/\R (BS K a b.length) h
theorem ZM{e:Expr}{t:TE}{c:Str}{p P:Pos}(j:Gl X c)(k:X.mg c=none)(l:bootBuiltins c=some (.type "reversed"))(y:PE X e t)(m:c≠"__name__":=by decide)(n:(c==("__debug__":Str))=false:=by decide)
  (r:starEach [e] X.env=(false,eval e X.env)::starEach [] X.env:=by rfl) (z:(backTo P (starEach [] X.env)).any (·.1)=false:=by rfl):PI X tg (.Call (.Name c p) [e] [] P) (BG X.K t):=by
 intro d s A H R I h
 refine Ed (zu I j k l ?_ m n)
 refine D3 ?_ r z
 rw[r]
 show wpAny _ _ (spliced ((false,eval e X.env)::backTo P (starEach [] X.env))) _ _ s
 refine EY (aL (y d s A H _ I h) λu S #[x,B,g,C,a,v,E,D,q]=>?_)
 subst E
 cases (show u=Value.ref a from C)
 obtain⟨i,F,G,M⟩:=g.tuple D
 have f:=F.length
 have J:=dE
 refine Ft (rj (show IsTup S.heap a i.toArray from G) (by simp only[Dn];omega) ?_)
 have w:de (S.heap.push (revObj a i.toArray.size)) S.heap.objs.size a ((v.length:Int) - 1 - ((0:Nat):Int)):=#[_,Dl _ Z,Z,by rw[Dn,<- f];simp [revObj]]
 refine vw (s:={ S with heap:=S.heap.push (revObj a i.toArray.size),toks:=S.toks+1+1 }) w ?_
 refine#[S.heap.objs.size,[S.heap.objs.size],_,_,B,Z,g.kept (t':=S.toks+1+1) λb o e=>Dg _ e,oH a _ v.length,w,λb L=>?_,q]
 have e:b=S.heap.objs.size:=by simpa using L
 subst e
 exact g.fpOk (Dk _) (g.hok.fresh (Dk _))
end
theorem QT{K:Frag}{xs:List V}{g:TG}{t:TS}{D:be}(Pv:Nat->St->Hp->Prop)(k:Pv 0 b H)(l:∀i b H,i<=xs.length->Pv i b H->aA K H a xs)
  (n:∀E:be,E.rt=D.rt->∀i x b H,xs.reverse[i]?=some x->(∀c f,Pv (i+1) c f->E.nx c f)->∀G:Prop,((g x b H λj o=>t E j o)->G)->Pv i b H->G) (r:∀b H,Pv xs.length b H->D.nx b H):nD (BS K a xs.length) g t D b H:=by
 refine#[λi m b H=>m=xs.length - i/\i<=xs.length/\Pv i b H,#[xs.length,Ie,Dt _,k],?_]
 rintro i m b H ⟨rfl,s,p⟩
 have q:=l i b H s p
 by_cases d:i < xs.length
 ·refine .inr #[#[xs,_,q,Z,Dh (by simpa using d)],Pv (i+1),λc f P=>#[xs.length - (i+1),Ic,Z,d,P],λx f y=>?_]
  obtain⟨e,y⟩:=y
  subst e
  exact n { D with nx:=Pv (i+1),ct:=Pv (i+1),bk:=D.nx } Z i x b _ (y xs q) (λ_ _ h=>h) _ (λz=>z) p
 ·have e:i=xs.length:=by omega
  subst e
  exact .inl #[#[xs,q,Z,Z],r b H p]
theorem rE:Slot "list_reverseiterator" "__length_hint__" "list_reverseiterator.__length_hint__":=by
 refine Slot.of (owner:="list_reverseiterator") (n:="__length_hint__") (by rw[Er,D2];kernel_rfl) Ig Ig Ig ?_ (by rw[EE];kernel_rfl)
 first |exact .inl Ig |exact .inr Ig
theorem YZ:typeLookup (.type "list_reverseiterator") "__len__"=pure none:=by rw[Er,D2];kernel_rfl
theorem xS:isSubtype (.type "list_reverseiterator") (.type "list_reverseiterator")=pure true:=by rw[EE];kernel_rfl
section
variable {prog:Program}{w:World}{A:Around}{E:Value->Shared->Prop}{s:Shared}
theorem xI(H:s.heap.IsRevIter I t k){Q:Bool->Shared->Prop}(h:Q false s):wpAny (model prog w) A (Builtin.List.listLengthHint (.ref I)) Q E s:=by
 unfold Builtin.List.listLengthHint
 refine Dc (EH H.typeIs YZ ?_)
 show wpAny _ A (specialOf (Value.ref I) (Str.ofString "__length_hint__") >>= _) _ _ _
 refine Dc (EH H.typeIs rE.lookup ?_)
 have e:splitId "list_reverseiterator.__length_hint__"=some ("list_reverseiterator","__length_hint__"):=by decide+kernel
 dsimp only
 rw[e]
 dsimp only
 refine Dc (Ff (b:=true) H.typeIs xS ?_)
 simp only[Fy,Dq,Ek]
 rw[DB Ig,DC Ig]
 exact De h
theorem nj{a:Array Value}{Q:List Value->Shared->Prop}(z:A.handled=none)(f:s.heap.IsRevIter I t ((a.size:Int) - 1))(r:s.heap.IsList t a)(B:t≠I)(C:a.size<=sizeLine)
  (D:∀S,(∀b o,b≠I->s.heap.get? b=some o->S.heap.get? b=some o)->s.heap.objs.size<=S.heap.objs.size->S.gens=s.gens->S.os=s.os->Q a.toList.reverse S):wpAny (model prog w) A (collect (.ref I)) Q E s:=by
 have j:I < s.heap.objs.size:=by obtain⟨o,k,_⟩:=f;exact Dm k
 have n:t < s.heap.objs.size:=by obtain⟨o,k,_⟩:=r;exact Dm k
 have u:I≠s.heap.objs.size:=Dp j
 have F:t≠s.heap.objs.size:=Dp n
 unfold collect
 refine Dc (wpAny_runValue (Es HF (by
  rw[Ec HE _]
  show wpAny _ A.in1 (newList [] >>= λl=>again (.builtin "list.__iadd__" #[[l,.ref I],[]])) _ _ s
  refine Dc (DX (De #[Fd FH _,Es HW ?_]))
  rw[Ec FH _]
  generalize v:s.heap.push { cls:=.type "list",data:=.seq ([]:List Value).toArray }=H
  have J:H.get? s.heap.objs.size=some { cls:=.type "list",data:=.seq (List.toArray []) }:=by rw[<- v];exact Dl _ Z
  have G:∀b o,s.heap.get? b=some o->H.get? b=some o:=λb o e=>by rw[<- v];exact Dg _ e
  have h:H.IsRevIter I t ((a.size:Int) - 1):=f.at λo e=>G I o e
  have p:H.IsList t a:=r.at λo e=>G t o e
  show wpAny _ A.in1 (Builtin.List.listExtendWith (.ref s.heap.objs.size) (.ref I) (.ref s.heap.objs.size)) _ _ { s with heap:=H }
  unfold Builtin.List.listExtendWith
  refine Dc (EQ (s:={ s with heap:=H }) h.typeIs ?_)
  have K:Builtin.List.listSameRef (.ref s.heap.objs.size) (.ref I)=false:=by
   simp only[Builtin.List.listSameRef,beq_eq_false_iff_ne]
   exact DQ u
  have L:(Value.type "list_reverseiterator"==Value.type "list")=false:=by decide
  have M:(Value.type "list_reverseiterator"==Value.type "tuple")=false:=by decide
  simp only[K,L,M,HU,Dq,Ek]
  refine Dc (wpAny_pyIter_revIter (s:={ s with heap:=H }) h (Dc (DI (xI (s:={ s with heap:=H }) h ?_))))
  have N:¬s.heap.objs.size∈[I,t]:=by simp only[EZ,DO,F',not_or];exact#[DQ u,DQ F]
  rw[DC Ig]
  refine De #[Fd HN _,?_]
  have W:=(Walks.listRev (prog:=prog) (w:=w) (A:=A.in1) (by simpa using z) I t B a).toS
  refine codeAny_extend_loopS W C _ N _ a.size 0 _ (List.toArray []) _ Z (Dt _) #[Dt _,by simpa using h,p] J (ItemsOf.nil _) λS d U m x c=>?_
  have O:d=a.toList.reverse.toArray:=by
   apply Array.ext'
   refine List.ext_getElem? λi=>?_
   by_cases y:i < a.size
   ·have g:i < d.size:=by rw[c.1];exact y
    have q:=c.2 i d[i] (by simp [g])
    rw[EO,ES g,<- q]
    show a[a.size - 1 - i]?=a.toList.reverse[i]?
    rw[FV (by simpa using y)]
    simp
   ·rw[Ex (by rw[DF,c.1];omega),Ex (by simp;omega)]
  subst O
  show wpAny _ A (load s.heap.objs.size >>= _) _ _ S
  refine Dc (wpAny_load x (De ?_))
  have P:a.toList.reverse.toArray.toList=a.toList.reverse:=by simp
  rw[P]
  refine D S (λb o R e=>?_) ?_ m.gens m.os
  ·have T:b≠s.heap.objs.size:=Dp (Dm e)
   exact m.heap b o (by simp only[EZ,DO,F',not_or];exact#[T,R]) (G b o e)
  ·exact Fq (Dm x))))
end
section
variable {prog:Program}{w:World}{A:Around}{E:Value->Shared->Prop}{s:Shared}
theorem QI{i:Array Value}{Q:Value->Shared->Prop}(f:A.handled=none)(H:s.heap.IsRevIter I t ((i.size:Int) - 1))(g:s.heap.IsList t i)(j:t≠I)(d:i.size<=sizeLine)
  (h:∀S:Shared,(∀b o,b≠I->s.heap.get? b=some o->S.heap.get? b=some o)->s.heap.objs.size<=S.heap.objs.size->S.gens=s.gens->S.os=s.os->
   Q (.ref S.heap.objs.size) { S with heap:=S.heap.push { cls:=.type "tuple",data:=.seq i.toList.reverse.toArray } }):
  codeAny (model prog w) A (.call (.builtin "tuple.__new__") #[[.type "tuple",.ref I],[]]) (wants Q E) s:=by
 refine codeAny_of_tree (show wpAny _ A.in1 (do checkBuiltinCall "tuple.__new__" #[[.type "tuple",.ref I],[]];again (.builtin "tuple.__new__" #[[.type "tuple",.ref I],[]])) _ _ s from ?_)
 refine Dc (Gv (PySem.F.newCall_tuple_1 _) (De #[Fd HV _,Es PySem.F.entry_tuple_new (by
  rw[Ec HV _]
  have e:=sub_tuple_self
  have a:=init_tuple_lookup
  have l:=madeHere_tuple
  have c:=H.typeIs
  wp_walk using EQ c,nj (by simpa using f) H g j d
  intro S k z m n
  show wpAny _ _ (Builtin.Tuple.tupleExact i.toList.reverse.toArray >>= λv=>ret v) _ _ _
  unfold Builtin.Tuple.tupleExact
  exact Dc (DX (De (h S k z m n)) (by show i.toList.reverse.toArray.size<=sizeLine;simpa using d)))]))
theorem QJ{items:Array Value}{Q:Value->Shared->Prop}(d:A.handled=none)(c:s.heap.IsRevIter I t ((items.size:Int) - 1))(e:s.heap.IsList t items)(f:t≠I)(g:items.size<=sizeLine)
  (h:∀a:Shared,(∀b o,b≠I->s.heap.get? b=some o->a.heap.get? b=some o)->s.heap.objs.size<=a.heap.objs.size->a.gens=s.gens->a.os=s.os->
   Q (.ref a.heap.objs.size) { a with heap:=a.heap.push { cls:=.type "tuple",data:=.seq items.toList.reverse.toArray } }):wpAny (model prog w) A (call (.type "tuple") [.ref I]) Q E s:=by
 refine callType_codes (Q₁:=λO S=>S.TypeIs O "tuple"/\Q O S) PySem.F.called_tuple (PySem.F.typeCall_tuple_1 _) PySem.F.entry_object_init (QI (by simpa using d) c e f g λa k z i j=>#[#[_,Dl _ Z,Z],h a k z i j]) λO S H=>?_
 exact#[H.1,Gc O _,object_init_meets PySem.F.called_tuple.init.lookup PySem.F.called_tuple.made Ib prog w A.in1 _ S #[H.1,Z,H.2]]
end
section
variable {X:Cx}{e:Expr}{te:TE}{xl xr:Str}{p p2 pos pos2:Pos}
def uD(K:Frag)(te:TE):TE:=λc H Q=>te c H λx h=>∃a b,x= .ref a/\aE K h a b/\∀l,h l=none->Q (.ref l) (af h l (.tup b.reverse))
theorem Y0(L:X.calm=true)(g:Gl X xl)(j:X.mg xl=none)(l:bootBuiltins xl=some (.type "tuple"))(m:Gl X xr)(n:X.mg xr=none)(r:bootBuiltins xr=some (.type "reversed"))(M:PE X e te)
  (t:xl≠"__name__":=by decide) (v:(xl==("__debug__":Str))=false:=by decide) (y:xr≠"__name__":=by decide) (A:(xr==("__debug__":Str))=false:=by decide)
  (D:starEach [.Call (.Name xr p2) [e] [] pos2] X.env=(false,eval (.Call (.Name xr p2) [e] [] pos2) X.env)::starEach [] X.env:=by rfl) (O:(backTo pos (starEach [] X.env)).any (·.1)=false:=by rfl)
  (E:starEach [e] X.env=(false,eval e X.env)::starEach [] X.env:=by rfl) (T:(backTo pos2 (starEach [] X.env)).any (·.1)=false:=by rfl):
  PE X (.Call (.Name xl p) [.Call (.Name xr p2) [e] [] pos2] [] pos) (uD X.K te):=by
 intro P s U H Q I h
 refine Ed (zu I g j l ?_ t v)
 refine D3 ?_ D O
 rw[D]
 show wpAny _ _ (spliced ((false,eval (.Call (.Name xr p2) [e] [] pos2) X.env)::backTo pos (starEach [] X.env))) _ _ s
 refine EY ?_
 refine Ed (zu I m n r ?_ y A)
 refine D3 ?_ E T
 rw[E]
 show wpAny _ _ (spliced ((false,eval e X.env)::backTo pos2 (starEach [] X.env))) _ _ s
 refine EY (aL (M P s U H _ I h) λu d #[x,V,f,W,a,F,Y,hq,q]=>?_)
 subst Y
 cases (show u=Value.ref a from W)
 obtain⟨i,R,B,hz⟩:=f.list hq
 have G:=R.length
 refine Ft (call_reversed_list B.isList (Ft ?_))
 have C:a < d.heap.objs.size:=by obtain⟨o,ho,_⟩:=B.isList;exact Dm ho
 refine QJ (s:={ d with heap:=d.heap.push (PySem.revObj a ((i.toArray.size:Int) - 1)) }) (items:=i.toArray) (I.ok.hd L) #[_,Dl _ Z,Z,Z] (B.isList.at λo e=>Dg _ e) (Dp C)
  (by simp only[Dn];omega) λS k hl kg ko=>?_
 have c:d.heap.objs.size<=S.heap.objs.size:=Ds (by show _<=(d.heap.push _).objs.size;rw[D5];exact EA _) hl
 have J:∀b o,d.heap.get? b=some o->(S.heap.push { cls:=.type "tuple",data:=.seq i.toArray.toList.reverse.toArray }).get? b=some o:=λb o e=>Dg _ (k b o (Dp (Dm e)) (Dg _ e))
 have hg:(S.heap.push { cls:=.type "tuple",data:=.seq i.toArray.toList.reverse.toArray }).get? S.heap.objs.size=some { cls:=.type "tuple",data:=.seq i.toArray.toList.reverse.toArray }:=Dl _ Z
 have N:aG X.prog X.w (af V S.heap.objs.size (.tup F.reverse)) (S.heap.push { cls:=.type "tuple",data:=.seq i.toArray.toList.reverse.toArray }) S.heap.objs.size (.tup F.reverse):=by
  refine#[by rw[List.length_reverse];exact hz,i.reverse,au.reverse R,?_]
  have ee:i.toArray.toList.reverse.toArray=i.reverse.toArray:=by simp
  rw[<- ee]
  exact#[_,hg,Z,_,Z]
 exact#[.ref S.heap.objs.size,_,f.call' (ch:=[]) ko (Un.laid J c (f.hok.fresh c)) (f.hok.laid J c N) (by show AllBare S.gens;rw[kg];exact f.bare) (λ_ z=>nomatch z),Z,q _ (f.hok.fresh c)]
end
section
variable {prog:Program}{w:World}{A:Around}{E:Value->Shared->Prop}{s:Shared}
theorem Ki{x:Value}{Q:Value->Shared->Prop}(a:s.heap.IsTupleIter J T i)(e:s.heap.IsTuple T I)(f:I[i]?=some x)
  (q:∀b,b.IsTupleIter J T (i+1)->Heap.SameBut J s.heap b->Q x { s with heap:=b }):wpAny (model prog w) A (Builtin.SmallTypes.nextOf (.ref J)) Q E s:=by
 obtain⟨o,H,g,h⟩:=id a
 obtain⟨O,c,_,n,d⟩:=e
 unfold Builtin.SmallTypes.nextOf
 refine Dc (DV (name:=Str.ofString "__next__") a.typeIs Eg (DZ Eg a.typeIs FL (show wpAny _ _ (field (.ref J) 0 >>= _) _ _ s from ?_) (FG _)))
 refine Dc (DH H h (x:=.ref T) Z (show wpAny _ _ (if (Value.ref T==Value.none)=true then _ else _) _ _ s from ?_))
 rw[DC (show ¬((Value.ref T==Value.none)=true) from Do)]
 refine(show wpAny _ _ (field (.ref J) 1 >>= _) _ _ s from Dc (DH H h (x:=.int i 0) Z (show wpAny _ _ (seqItems? (.ref T) >>= _) _ _ s from Dc (D9 c d ?_))))
 simp only[D8,f]
 refine Dc (D4 H h Ie (De #[x,Z,De (q _ #[_,DW _ H (Ei (DS h _)),(FY ..).trans g,by rw[DS h];simp [rawInt]] (EN ..))]))
theorem Y1(g:A.handled=none)(H:s.heap.IsTupleIter J T i)(j:s.heap.IsTuple T I)(l:I[i]?=none)
  (q:∀h e,Heap.ExtBut J s.heap h->Shared.TypeIs { s with heap:=h } e "StopIteration"->E e { s with heap:=h }):wpAny (model prog w) A (Builtin.SmallTypes.nextOf (.ref J)) Q E s:=by
 obtain⟨o,a,p,c⟩:=id H
 obtain⟨O,d,_,N,f⟩:=j
 unfold Builtin.SmallTypes.nextOf
 refine Dc (DV (name:=Str.ofString "__next__") H.typeIs Eg (DZ Eg H.typeIs FL (show wpAny _ _ (field (.ref J) 0 >>= _) _ _ s from ?_) (FG _)))
 refine Dc (DH a c (x:=.ref T) Z (show wpAny _ _ (if (Value.ref T==Value.none)=true then _ else _) _ _ s from ?_))
 rw[DC (show ¬((Value.ref T==Value.none)=true) from Do)]
 refine(show wpAny _ _ (field (.ref J) 1 >>= _) _ _ s from Dc (DH a c (x:=.int i 0) Z (show wpAny _ _ (seqItems? (.ref T) >>= _) _ _ s from Dc (D9 d f ?_))))
 simp only[D8,l]
 refine Dc (EU (Dc (D4 a c Ie ?_)))
 refine JE (by simpa using g) λh e k t=>q h e (λb o m n=>k b o ?_) t
 exact(Du _ _ (DQ m)).trans n
end
def fg(b:Bool)(h:Heap)(i l:Addr)(k:Nat):Prop:=match b with
 |true=>h.IsListIter i l k
 |false=>h.IsTupleIter i l k
def gK(b:Bool)(h:Heap)(l:Addr)(x:Array Value):Prop:=match b with
 |true=>h.IsList l x
 |false=>h.IsTuple l x
noncomputable def eO:Bool->String
 |true=>"list_iterator"
 |false=>"tuple_iterator"
theorem fg.kp{b:Bool}{H:Heap}(x:fg b h i l k)(e:∀o,h.get? i=some o->H.get? i=some o):fg b H i l k:=by
 cases b
 ·exact Heap.IsTupleIter.at x e
 ·obtain⟨o,a,r⟩:=x;exact#[o,e o a,r]
theorem gK.kp{b:Bool}{H:Heap}(x:gK b h l a)(e:∀o,h.get? l=some o->H.get? l=some o):gK b H l a:=by
 cases b
 ·obtain⟨o,c,r⟩:=x;exact#[o,e o c,r]
 ·exact Heap.IsList.at x e
theorem fg.ob(x:fg b h i l k):∃o,h.get? i=some o/\o.cls= .type (eO b)/\∀v,o.data≠ .cell v:=by
 cases b
 ·obtain⟨o,H,c,d⟩:=x;exact#[o,H,c,λv z=>by rw[d]at z;cases z]
 ·obtain⟨o,H,c,d⟩:=x;exact#[o,H,c,λv z=>by rw[d]at z;cases z]
section
variable {prog:Program}{w:World}{A:Around}{E:Value->Shared->Prop}{s:Shared}
theorem zL{Q:Value->Shared->Prop}(H:fg b s.heap J T i)(a:gK b s.heap T I)(c:I[i]?=some x)
  (q:∀h,fg b h J T (i+1)->Heap.SameBut J s.heap h->Q x { s with heap:=h }):wpAny (model prog w) A (Builtin.SmallTypes.nextOf (.ref J)) Q E s:=by
 cases b
 ·exact Ki H a c q
 ·exact wpAny_nextOf_list_item H a c q
theorem Qb(H:A.handled=none)(a:fg b s.heap J T i)(c:gK b s.heap T I)(d:I[i]?=none)
  (q:∀h e,Heap.ExtBut J s.heap h->Shared.TypeIs { s with heap:=h } e "StopIteration"->E e { s with heap:=h }):wpAny (model prog w) A (Builtin.SmallTypes.nextOf (.ref J)) Q E s:=by
 cases b
 ·exact Y1 H a c d q
 ·exact wpAny_nextOf_list_end H a c d λh e k #[o,f,g]=>q h (.ref e) k #[o,f,g]
theorem uR{Q:Value->Shared->Prop}(h:gK b s.heap T i)
  (q:Q (.ref s.heap.objs.size) { s with heap:=s.heap.push { cls:=.type (eO b),data:=.fields (List.toArray [.ref T,.int 0 0]) } }):wpAny (model prog w) A (pyIter (.ref T)) Q E s:=by
 cases b
 ·exact FT h q
 ·exact FX h q
structure su(z u v c d a b:Addr):Prop where
 uz:u≠z
 vz:v≠z
 cz:c≠z
 dz:d≠z
 uv:u≠v
 uc:u≠c
 ud:u≠d
 vc:v≠c
 vd:v≠d
 cd:c≠d
 az:a≠z
 av:a≠v
 ac:a≠c
 ad:a≠d
 bz:b≠z
 bv:b≠v
 bc:b≠c
 bd:b≠d
theorem uy{Q:Option Value->Shared->Prop}(D:su z u v c d a b)
  (H:IsZip s.heap z u v .none) (hu:IsPair s.heap u (.ref c) (.ref d)) (hv:IsPair s.heap v p q) (h1:fg B s.heap c a k) (h2:fg C s.heap d b k) (g1:gK B s.heap a xs) (g2:gK C s.heap b ys) (hx:xs[k]?=some x) (hy:ys[k]?=some y)
  (hQ:∀h,IsZip h z u v (rawInt s.heap.objs.size)->IsPair h v x y->fg B h c a (k+1)->fg C h d b (k+1)->IsPair h s.heap.objs.size x y->h.objs.size=s.heap.objs.size+1->
   (∀e o,e≠z->e≠v->e≠c->e≠d->s.heap.get? e=some o->h.get? e=some o)->Q (some (.ref s.heap.objs.size)) { s with heap:=h }):wpAny (model prog w) A (pyNext (.ref z)) Q E s:=by
 have W:s.TypeIs (.ref z) "zip":=#[_,H,Z]
 unfold pyNext
 refine Dc (FM (DV (name:=Str.ofString "__next__") W En (DZ En W FP (show wpAny _ _ (field (.ref z) 2 >>= _) _ _ _ from ?_) (FJ _))))
 refine Dc (DH H Z (x:=.bool false) Z (show wpAny _ _ (field (.ref z) 3 >>= _) _ _ _ from Dc (DH H Z (x:=.ref u) Z (Dc (D9 hu Z ?_)))))
 refine(show wpAny _ _ (Builtin.SmallTypes.ownedTupleIsFree (.ref z) >>= _) _ _ _ from Dc ?_)
 unfold Builtin.SmallTypes.ownedTupleIsFree
 refine Dc (DH H Z (x:=.none) Z (De ?_))
 simp only[FN]
 refine Dc (EU (Dc (DH H Z (x:=.ref v) Z (Dc (Fj H Ie λX F S=>?_)))))
 replace F:IsZip X z u v .ellipsis:=F
 refine Dc ?_
 simp only[List.zipIdx_cons,List.zipIdx_nil,EC,Fo]
 refine Dc (Dc (wpAny_onRaise (show wpAny _ _ (Builtin.SmallTypes.nextOf (.ref c) >>= _) _ _ _ from ?_)))
 refine Dc (zL (s:={ s with heap:=X }) (h1.kp λo e=>S.extBut _ _ D.cz e) (g1.kp λo e=>S.extBut _ _ D.az e) hx λG i2 l=>De ?_)
 have Y:IsPair G v p q:=l.extBut _ _ D.vc (S.extBut _ _ D.vz hv)
 refine Dc (D9 (s:={ s with heap:=G }) Y Z (Dc (wpAny_updateSeq_pair (s:={ s with heap:=G }) Y λI J r=>?_)))
 replace J:IsPair I v x q:=J
 refine Dc (wpAny_letGo (De (Dc (Dc (wpAny_onRaise (show wpAny _ _ (Builtin.SmallTypes.nextOf (.ref d) >>= _) _ _ _ from ?_))))))
 have K:∀e o,e≠z->e≠c->e≠v->s.heap.get? e=some o->I.get? e=some o:=λe o N f g w=>r.extBut _ _ g (l.extBut _ _ f (S.extBut _ _ N w))
 refine Dc (zL (s:={ s with heap:=I }) (h2.kp λo e=>K _ _ D.dz D.cd.symm D.vd.symm e) (g2.kp λo e=>K _ _ D.bz D.bc D.bv e) hy λL i4 i=>De ?_)
 have v4:IsPair L v x q:=i.extBut _ _ D.vd J
 refine Dc (D9 (s:={ s with heap:=L }) v4 Z (Dc (wpAny_updateSeq_pair (s:={ s with heap:=L }) v4 λm V j=>?_)))
 replace V:IsPair m v x y:=V
 refine Dc (wpAny_letGo (De (De (Dc (D9 (s:={ s with heap:=m }) V Z (Dc (wpAny_newTuple ?_)))))))
 have e5:m.objs.size=s.heap.objs.size:=by rw[j.1,i.1,r.1,l.1,S.1]
 have k5:∀e o,e≠z->e≠v->e≠c->e≠d->s.heap.get? e=some o->m.get? e=some o:=λe o N f g O w=>j.extBut _ _ f (i.extBut _ _ O (K e o N g f w))
 have z5:IsZip m z u v .ellipsis:=j.extBut _ _ D.vz.symm (i.extBut _ _ D.dz.symm (r.extBut _ _ D.vz.symm (l.extBut _ _ D.cz.symm F)))
 have j1:fg B m c a (k+1):=i2.kp λo e=>j.extBut _ _ D.vc.symm (i.extBut _ _ D.cd (r.extBut _ _ D.vc.symm e))
 have j2:fg C m d b (k+1):=i4.kp λo e=>j.extBut _ _ D.vd.symm e
 have lz:z < m.objs.size:=Dm z5
 refine(show wpAny _ _ (Builtin.SmallTypes.ownedTupleHandOut (.ref z) (.ref m.objs.size) >>= _) _ _ _ from Dc ?_)
 unfold Builtin.SmallTypes.ownedTupleHandOut
 have z6:IsZip (m.push { cls:=.type "tuple",data:=.seq (List.toArray [x,y]) }) z u v .ellipsis:=Dg _ z5
 refine Dc (Fj z6 Ie λm7 P R=>?_)
 replace P:IsZip m7 z u v (rawInt m.objs.size):=P
 refine Fj P Ie λM t T=>?_
 replace t:IsZip M z u v (rawInt m.objs.size):=t
 have U:∀e o,e≠z->m.get? e=some o->M.get? e=some o:=λe o n w=>T.extBut _ _ n (R.extBut _ _ n (Dg _ w))
 have t8:IsPair M m.objs.size x y:=T.extBut _ _ (D6 lz) (R.extBut _ _ (D6 lz) (Dl _ Z))
 have e8:M.objs.size=m.objs.size+1:=by rw[T.1,R.1,D5]
 rw[e5]at t t8 e8
 refine De #[_,Z,De ?_]
 show Q (some (.ref m.objs.size)) _
 rw[e5]
 exact hQ M t (U _ _ D.vz V) (j1.kp λo e=>U _ o D.cz e) (j2.kp λo e=>U _ o D.dz e) t8 e8 λe o N f g O w=>U e o N (k5 e o N f g O w)
theorem xw{b2:Bool}{ys:Array Value}{p q:Value}{Q:Option Value->Shared->Prop}(C:A.handled=none)(D:su z u v c d a b)
  (h:IsZip s.heap z u v .none) (F:IsPair s.heap u (.ref c) (.ref d)) (G:fg I s.heap c a k) (J:gK I s.heap a L) (K:L[k]?=none)
  (O:∀H,(∀e o,e≠z->e≠v->e≠c->e≠d->s.heap.get? e=some o->H.get? e=some o)->Q none { s with heap:=H }):wpAny (model prog w) A (pyNext (.ref z)) Q E s:=by
 have g:s.TypeIs (.ref z) "zip":=#[_,h,Z]
 unfold pyNext
 refine Dc (FM (DV (name:=Str.ofString "__next__") g En (DZ En g FP (show wpAny _ _ (field (.ref z) 2 >>= _) _ _ _ from ?_) (FJ _))))
 refine Dc (DH h Z (x:=.bool false) Z (show wpAny _ _ (field (.ref z) 3 >>= _) _ _ _ from Dc (DH h Z (x:=.ref u) Z (Dc (D9 F Z ?_)))))
 refine(show wpAny _ _ (Builtin.SmallTypes.ownedTupleIsFree (.ref z) >>= _) _ _ _ from Dc ?_)
 unfold Builtin.SmallTypes.ownedTupleIsFree
 refine Dc (DH h Z (x:=.none) Z (De ?_))
 simp only[FN]
 refine Dc (EU (Dc (DH h Z (x:=.ref v) Z (Dc (Fj h Ie λm f S=>?_)))))
 replace f:IsZip m z u v .ellipsis:=f
 refine Dc ?_
 simp only[List.zipIdx_cons,List.zipIdx_nil,EC,Fo]
 refine Dc (Dc (wpAny_onRaise (show wpAny _ _ (Builtin.SmallTypes.nextOf (.ref c) >>= _) _ _ _ from ?_)))
 refine Dc (Qb (s:={ s with heap:=m }) (by simpa using C) (G.kp λo e=>S.extBut _ _ D.cz e) (J.kp λo e=>S.extBut _ _ D.az e) K λM e i j=>?_)
 have l:IsZip M z u v .ellipsis:=i _ _ D.cz.symm f
 refine Fj (s:={ s with heap:=M }) l Ie λn U r=>?_
 have t:Shared.TypeIs { s with heap:=n } e "StopIteration":=by
  cases e with
  |ref x=>
   obtain⟨o,y,B⟩:=j
   have P:x≠z:=λw=>by
    subst w
    have:=y.symm.trans l
    cases this
    injection B with w
    exact absurd w Ib
   exact#[o,r.extBut _ _ P y,B]
  |_=>exact j
 exact Dc (Ff (T:="StopIteration") (b:=true) t Hi (De (O n λe o N V R W w=>r.extBut _ _ N (i _ _ R (S.extBut _ _ N w)))))
theorem vN{b1 b2:Bool}{xs ys:Array Value}{Q:Value->Shared->Prop}(J:gK b1 s.heap a xs)(L:gK b2 s.heap b ys)
  (h:∀H,IsZip H (s.heap.objs.size+4) (s.heap.objs.size+2) (s.heap.objs.size+3) .none->IsPair H (s.heap.objs.size+2) (.ref s.heap.objs.size) (.ref (s.heap.objs.size+1))->
   IsPair H (s.heap.objs.size+3) .none .none->fg b1 H s.heap.objs.size a 0->fg b2 H (s.heap.objs.size+1) b 0->(∀e o,s.heap.get? e=some o->H.get? e=some o)->Q (.ref (s.heap.objs.size+4)) { s with heap:=H }):
  wpAny (model prog w) A (call (.type "zip") [.ref a,.ref b]) Q E s:=by
 refine callType_new (S:=λ_ R c=>c=s/\R (.ok (.ret (.ref (s.heap.objs.size+4)))) { s with heap:=((((s.heap.push { cls:=.type (eO b1),data:=.fields (List.toArray [.ref a,.int 0 0]) }).push { cls:=.type (eO b2),data:=.fields (List.toArray [.ref b,.int 0 0]) }).push { cls:=.type "tuple",data:=.seq (List.toArray [.ref s.heap.objs.size,.ref (s.heap.objs.size+1)]) }).push { cls:=.type "tuple",data:=.seq (List.toArray [.none,.none]) }).push { cls:=.type "zip",data:=.fields (List.toArray [.none,.bool false,.bool false,.ref (s.heap.objs.size+2),.ref (s.heap.objs.size+3)]) } })
  PySem.F.called_zip Ib (PySem.F.typeCall_zip_2 _ _) (PySem.F.newCall_zip_2 _ _) (λO=>PySem.F.args_object_init_3 O _ _) PySem.F.entry_zip_new (.of_wp λp w' A' R c P=>?_) #[Z,?_]
 ·obtain⟨rfl,q⟩:=P
  obtain⟨r,g,D,t,os⟩:=c
  have u:=sub_zip
  have T:gK b1 (Shared.heap #[r,g,D,t,os]) a xs:=J
  have L2:gK b2 (Shared.heap #[r.push { cls:=.type (eO b1),data:=.fields (List.toArray [.ref a,.int 0 0]) },g,D,t,os]) b ys:=L.kp λo e=>Dg _ e
  wp_walk using uR T,uR L2
  refine#[_,Z,?_]
  simp only[D5]at q ⊢
  exact q
 ·have z (h:Heap) (o:Obj):(h.push o).objs.size=h.objs.size+1:=D5 ..
  generalize d:s.heap.push { cls:=.type (eO b1),data:=.fields (List.toArray [.ref a,.int 0 0]) }=M
  generalize f:M.push { cls:=.type (eO b2),data:=.fields (List.toArray [.ref b,.int 0 0]) }=i
  generalize j:i.push { cls:=.type "tuple",data:=.seq (List.toArray [.ref s.heap.objs.size,.ref (s.heap.objs.size+1)]) }=k
  generalize l:k.push { cls:=.type "tuple",data:=.seq (List.toArray [.none,.none]) }=n
  generalize v:n.push { cls:=.type "zip",data:=.fields (List.toArray [.none,.bool false,.bool false,.ref (s.heap.objs.size+2),.ref (s.heap.objs.size+3)]) }=m
  have N:M.objs.size=s.heap.objs.size+1:=by rw[<- d,z]
  have x:i.objs.size=s.heap.objs.size+2:=by rw[<- f,z,N]
  have y:k.objs.size=s.heap.objs.size+3:=by rw[<- j,z,x]
  have U:n.objs.size=s.heap.objs.size+4:=by rw[<- l,z,y]
  have K:∀e o,n.get? e=some o->m.get? e=some o:=λe o w=>by rw[<- v];exact Dg _ w
  have B:∀e o,k.get? e=some o->m.get? e=some o:=λe o w=>K e o (by rw[<- l];exact Dg _ w)
  have C:∀e o,i.get? e=some o->m.get? e=some o:=λe o w=>B e o (by rw[<- j];exact Dg _ w)
  have G:∀e o,M.get? e=some o->m.get? e=some o:=λe o w=>C e o (by rw[<- f];exact Dg _ w)
  have V:∀e o,s.heap.get? e=some o->m.get? e=some o:=λe o w=>G e o (by rw[<- d];exact Dg _ w)
  have I:IsZip m (s.heap.objs.size+4) (s.heap.objs.size+2) (s.heap.objs.size+3) .none:=by rw[<- U,<- v];exact Dl _ Z
  have W:IsPair m (s.heap.objs.size+3) .none .none:=K _ _ (by rw[<- y,<- l];exact Dl _ Z)
  have X:IsPair m (s.heap.objs.size+2) (.ref s.heap.objs.size) (.ref (s.heap.objs.size+1)):=B _ _ (by rw[<- x,<- j];exact Dl _ Z)
  have Y:m.get? (s.heap.objs.size+1)=some { cls:=.type (eO b2),data:=.fields (List.toArray [.ref b,.int 0 0]) }:=C _ _ (by rw[<- N,<- f];exact Dl _ Z)
  have q1:m.get? s.heap.objs.size=some { cls:=.type (eO b1),data:=.fields (List.toArray [.ref a,.int 0 0]) }:=G _ _ (by rw[<- d];exact Dl _ Z)
  refine#[#[_,I,Z],h m I X W ?_ ?_ V]
  ·cases b1<;>exact#[_,q1,Z,Z]
  ·cases b2<;>exact#[_,Y,Z,Z]
end
theorem sq(n a b:Nat)(h:a < n)(H:b < n):su (n+4) (n+2) (n+3) n (n+1) a b:=by
 refine#[?_,?_,?_,?_,?_,?_,?_,?_,?_,?_,?_,?_,?_,?_,?_,?_,?_,?_]<;>(show(_:Nat)≠_;omega)
section
variable {prog:Program}{w:World}{A:Around}{E:Value->Shared->Prop}
theorem vL(h:l≠J):∀(n i:Nat) (s:Shared) (Q:List Value->Shared->Prop),s.heap.IsListIter J l i->s.heap.IsList l I->i+n<=I.size->
  (∀a,a.IsListIter J l (i+n)->Heap.SameBut J s.heap a->Q ((I.toList.drop i).take n) { s with heap:=a })->wpAny (model prog w) A (draw (.ref J) n) Q E s
 |0,i,s,Q,b,_,_,q=>show wpAny _ _ (pure []) Q E s from De (by simpa using q s.heap b (Heap.SameBut.refl ..))
 |n+1,i,s,Q,b,c,d,q=>by
  have H:i < I.size:=by omega
  refine(show wpAny _ _ (pyNext (.ref J) >>= _) Q E s from Dc (wpAny_pyNext_list_item b c (x:=I[i]) (by simp [H]) λm j S=>?_))
  refine Dc (DI (vL h n (i+1) _ _ j (c.extBut S.extBut h) Ic λf g k=>De ?_))
  have e:=q f (by rw[show i+(n+1)=i+1+n by omega];exact g) (S.trans k)
  rwa [show I.toList.drop i=I[i]::I.toList.drop (i+1) by simp [List.drop_eq_getElem_cons,H],List.take_succ_cons]at e
theorem ur{s:Shared}{Q:List Value->Shared->Prop}(f:A.handled=none)(h:s.heap.IsList l i)(a:i.size=n)
  (q:∀c,Heap.ExtBut s.heap.objs.size s.heap c->Q i.toList { s with heap:=c }):wpAny (model prog w) A (unpackItems (.ref l) n none) Q E s:=by
 have H:l≠s.heap.objs.size:=by obtain⟨o,g,_⟩:=h;exact Dp (Dm g)
 unfold unpackItems
 refine Dc ?_
 unfold notIterableAtAll
 refine Dc (EH h.typeIs slot_list_iter.lookup ?_)
 refine De ?_
 simp only[Dq,Ek]
 refine Dc (DI (FX h ?_))
 have I:(s.heap.push { cls:=.type "list_iterator",data:=.fields (List.toArray [.ref l,.int 0 0]) }).IsListIter s.heap.objs.size l 0:=#[_,Dl _ Z,Z,Z]
 refine Dc (DI (vL H n 0 _ _ I (h.push _) Ic λj J S=>?_))
 have k:(i.toList.drop 0).take n=i.toList:=by rw[List.drop_zero,EF (by simp [a])]
 rw[k,DC (by simp [a])]
 have L:j.IsList l i:=(h.push _).extBut S.extBut H
 refine Dc (DI (wpAny_pyNext_list_end f J L (by simp [a]) λm p=>?_))
 simp only[Option.isSome_none,Dq,Ek]
 exact De (q m λb o d e=>p b o d (S.extBut b o d (Dg _ e)))
end
section
variable {X:Cx}{pos:Pos}
def CO(K:Frag)(n:Nat)(t:rK):TG:=λv b H Q=>∃a x,v= .ref a/\aE K H a x/\x.length=n/\t x b H Q
theorem Yj{E:List Expr}{k n:Nat}{t:rK}(g:X.calm=true)(h:yH X E t)
  (i:(assignEach E X.env).length=n:=by rfl) (c:(assignEach E X.env).findIdx? (·.1)=none:=by rfl):PG X (.Tuple E k pos) (CO X.K n t):=by
 intro P s f H v u Q I r d
 obtain⟨a,x,j,l,m,d⟩:=d
 subst j
 cases r
 obtain⟨q,R,p,A⟩:=I.list l
 rw[assign_Tuple]
 refine Dc (Fp ?_)
 unfold unpack
 rw[i,c]
 refine Dc (DI (ur (I.ok.hd g) p.isList (by simp [<- m,R.length]) λw y=>?_))
 have z:ap X P f H { s with heap:=w }:=I.kept (t':=s.toks) λb o e=>y b o (Dp (Dm e)) e
 exact h P _ f H x _ Q z (by simpa using R) d
def vk(K:Frag)(t:TE)(i j k:Nat):TS:=λD b H=>t b H λx h=>∃a v V c,x= .ref a/\aA K h a [v,V,c]/\D.nx (((b.set k (some c)).set j (some V)).set i (some v)) h
theorem sH{t e:Expr}{T:TE}{x y z:Str}{i j k:Nat}(m:X.calm=true)(c:X.N.Nodup)(n:X.N[i]?=some x)(w:X.N[j]?=some y)(A:X.N[k]?=some z)(L:px X.env.scope x)(B:px X.env.scope y)(C:px X.env.scope z)(E:PE X e T)
  (F:X.fn x=true∨X.env.scope.names.lookup x=some .local:=by first |exact .inl Z |exact .inr Z) (G:X.fn y=true∨X.env.scope.names.lookup y=some .local:=by first |exact .inl Z |exact .inr Z) (J:X.fn z=true∨X.env.scope.names.lookup z=some .local:=by first |exact .inl Z |exact .inr Z)
  (M:swapsWithSole [t] e pos.line X.env=pure false:=by rfl) (O:swappedStores [t] e X.env=pure (some [x,y,z]):=by rfl):PS X (.Assign [t] e pos) (vk X.K T i j k):=by
 intro p s d H D I h
 rw[exec_Assign_arm]
 refine Dc (Fp ?_)
 rw[M]
 refine Dc (De ?_)
 rw[DC Ib]
 refine Dc (aL (E p s d H _ I h) λv S #[xv,f,g,R,a,v1,v2,v3,P,Q,q]=>?_)
 rw[O]
 refine Dc (De ?_)
 subst P
 cases R
 obtain⟨V,r,W,hz⟩:=g.tuple Q
 cases r with
 |cons Y r=>
  cases r with
  |cons q2 r=>
   cases r with
   |cons q3 r=>
    cases r
    rename_i u U l
    unfold assignStores
    refine Dc (EU (Dc (wpAny_unpackItems_tuple (items:=(List.toArray [u,U,l])) (I.ok.hd m) W λh' hx=>?_)))
    have I2:ap X p d f { S with heap:=h' }:=g.kept (t':=S.toks) λb o e=>hx b o (Dp (Dm e)) e
    refine Dc ?_
    show wpAny _ _ (assignInOrder [λv=>bindName X.env z v,λv=>bindName X.env y v,λv=>bindName X.env x v] [l,U,u]) _ _ _
    refine Dc (DI (wpAny_bindName (zh I2 c A C q3 (λs2 I3=>?_) J)))
    refine Dc (DI (wpAny_bindName (zh I3 c w B q2 (λs3 I4=>?_) G)))
    refine Dc (DI (wpAny_bindName (zh I4 c n L Y (λs4 I5=>?_) F)))
    exact De (De #[_,f,I5,q])
end
theorem uE(l b:Addr)(I i:Array Value)(n N:Nat)(D:Option Addr)(S:Array (Option Value))(e:¬(!I.isEmpty&&Builtin.List.listTooLong (I.size+i.size))=true)(W:I.size<=sizeLine)(a:I.size+i.size<=sizeLine+1):
  Meets (Builtin.«list.extend» #[[.ref l,.ref b],[]]) (λ_ R s=>s.heap.get? l=some { cls:=.type "list",dict:=none,data:=.seq I n,slots:=(List.toArray []) }/\s.heap.get? b=some #[.type "tuple",D,.seq i N,S]/\R (.ok (.ret Value.none)) { s with heap:=s.heap.update l (Obj.mapSeq λx=>x++i),toks:=s.toks }):=by
 refine Meets.of_wp λp w A R s h=>?_
 obtain⟨f,g,d,t,os⟩:=s
 obtain⟨H,c,h⟩:=h
 have F:=AutoSeq1.idx_int
 have j:=AutoSeq1.sub_tuple_tuple
 have k:=AutoSeq1.sub_list_list
 have m:=AutoSeq1.sub_tuple_list
 have o:=AutoSeq1.sub_list_tuple
 have hz:(I++i).size<=sizeLine+1:=by rw[Ho];exact a
 wp_walk using (G8 H Z (hz:=W) (_hz':=hz)),ED H,ED c
 exact#[_,Z,h]
section
variable {X:Cx}
def iV(K:Frag):V->List V->Hp->VK->Prop:=λx v H Q=>∃l b a z,x= .ref l/\v=[.ref b]/\H l=some (.lst a)/\aA K H b z/\a.length+z.length<=sizeLine/\Q .non (af H l (.lst (a++z)))
theorem XO:Bq X "list.extend" (iV X.K):=by
 intro p s A H x V v U Q I g j h
 obtain⟨l,b,B,C,rfl,rfl,f,k,D,q⟩:=h
 cases g
 obtain⟨u,rfl,m⟩:=j.one
 cases m
 obtain⟨z,a,n,r,E,e⟩:=I.lstM f
 obtain⟨i,R,P,G⟩:=I.tuple k
 have o:=R.length
 have d:a.toArray.size+i.toArray.size<=sizeLine:=by rw[Dn,Dn];omega
 have c:¬(!a.toArray.isEmpty&&Builtin.List.listTooLong (a.toArray.size+i.toArray.size))=true:=by
  rw[eF d,HM]
  exact Do
 obtain⟨⟨J,O,L,S⟩,t,w,N,y⟩:=P
 cases w
 cases y
 refine Hy F.slot_list_extend #[_,e,Z] F.entry_list_extend (F.args_list_extend_2 _ _) (uE l b a.toArray i.toArray n N O S c (by rw[Dn];omega) Ic) #[e,t,?_]
 refine#[.non,_,I.lset (its':=a++i) f e Ie (r.append R) (by rw[Dj];omega),Z,q]
end
section
variable {prog:Program}{w:World}{A:Around}{E:Value->Shared->Prop}{s:Shared}
theorem qX{R:Result->Shared->Prop}{P:Nat->Value->Prop}{St:Nat->Shared->Prop}
  (W:WalksS prog w A.in1 I N j G n P St) (S:Addr) (H:¬S∈N) (c:List Str) (O:c.length=n) (Q:∀i v,P i v->∃x t,c[i]?=some x/\v= .str x t) (d:∀L:List Str,L.Nodup->(∀x∈L,x∈c)->L.length+1 < scanBound):
  ∀(k i:Nat) (s:Shared) (L:List Str),n - i=k->i<=n->St i s->bY prog w s.heap S L->(∀x,x∈L↔x∈c.take i)->L.length<=i->
   (∀a l,Moved (S::j) G s a->bY prog w a.heap S l->(∀x,x∈l↔x∈c)->l.length<=n->R (.ok (.ret .none)) a)->
   codeAny (model prog w) A (.builtin "set.update.loop" #[[.ref S,.ref I],[]]) R s:=by
 have f:¬S∈j:=λz=>H (W.sub _ z)
 have sub:∀b∈j,b∈S::j:=λb z=>DK _ z
 intro k
 induction k with
 |zero=>
  intro i s L T U st p q F r
  have e:i=n:=by omega
  subst e
  refine Es GX ?_
  rw[Ec Fu]
  show wpAny _ A.in1 (pyNext (.ref I) >>= _) _ _ s
  refine Dc (W.done s _ _ st λa m=>?_)
  show wpAny _ A.in1 (ret Value.none) _ _ a
  refine De (r a L (m.mono sub) (p.at λo e=>m.heap S o f e) (λx=>?_) F)
  rw[q x,<- O,DY]
 |succ k V=>
  intro i s L T U st p q F r
  have J:i < n:=by omega
  refine Es GX ?_
  rw[Ec Fu]
  show wpAny _ A.in1 (pyNext (.ref I) >>= _) _ _ s
  refine Dc (W.item i s _ _ J st λv a X u m=>?_)
  obtain⟨x,t,B,rfl⟩:=Q i v X
  show wpAny _ A.in1 (holding [Value.str x t] (setAdd S (.str x t)) >>= _) _ _ a
  refine Dc (DI ?_)
  have h:L.Nodup:=by obtain⟨_,_,_,_,_,_,_,_,_,h,_⟩:=p;exact h
  refine Xa (p.at λo e=>m.heap S o f e) (d L h λx B=>Ea ((q x).mp B)) λb h' Y K S2 g=>?_
  refine De #[Fd Fu _,V (i+1) _ _ Ic J (W.frame _ a _ _ u g λb d o e=>?_) S2 (λy=>?_) ?_ λC l M D q1 q2=>?_]
  ·rw[K.2 b (λz:b=S=>H (by rw[<- z];exact d))];exact e
  ·have tk:c.take (i+1)=c.take i++[x]:=by rw[Fm,B];rfl
   rw[tk,FD,He,<- q y]
   split
   ·rename_i hm
    exact#[.inl,λz=>z.elim id λe=>e▸hm]
   ·rw[FD,He]
  ·split
   ·omega
   ·rw[Dj,Fg];omega
  ·refine r C l (Moved.trans W.gtrans ((m.mono sub).then_heap g λb o d e=>?_) M) D q1 q2
   rw[K.2 b (λz:b=S=>d (by rw[z];exact DA))];exact e
end
section
variable {prog:Program}{w:World}{A:Around}{E:Value->Shared->Prop}{s:Shared}
set_option maxHeartbeats 3200000 in
theorem JC{Q:Value->Shared->Prop}
  (hh:A.handled=none) (hl:s.heap.IsList l I) (hi:StrsAre I.toList n) (C:∀L:List Str,L.Nodup->(∀x∈L,x∈n)->L.length+1 < scanBound)
  (h:∀(a:Heap) (t:Nat) L,bY prog w a s.heap.objs.size L->(∀x,x∈L↔x∈n)->L.length<=I.size->
   (∀b o,b < s.heap.objs.size->s.heap.get? b=some o->a.get? b=some o)->s.toks<=t->Q (.ref s.heap.objs.size) { s with heap:=a,toks:=t }):
  wpAny (model prog w) A (call (.type "set") [.ref l]) Q E s:=by
 obtain⟨c,tl,m1⟩:=PySem.F.called_set.mro
 have m0:=PySem.F.called_set.made
 have sb:=PySem.F.called_set.sub
 refine wpAny_call (codeAny_of_tree ?_)
 show wpAny _ _ (callAny (.type "set") _) _ _ _
 refine De #[Code.quiet_builtin _ Ig,Es PySem.F.entry_type_call ?_]
 rw[Around.under_plain (weight_type_call_type "set" [.ref l] []) Z]
 have n1:=PySem.F.called_set.notType
 have n2:=PySem.F.called_set.canCreate
 have ct:=PySem.F.typeCall_set_1 (.ref l)
 repeat (any_goals (first |assumption |wp_step))
 refine FF (KA (.ref l) (E:=E) (G:=λv S=>v= .ref s.heap.objs.size/\S={ s with heap:=s.heap.push (a8 w) }) #[Z,Z]) λr S D=>?_
 cases r with
 |error e=>exact D
 |ok fl=>
  cases fl with
  |ret o2=>
   obtain⟨rfl,rfl⟩:=D
   have J:(s.heap.push (a8 w)).get? s.heap.objs.size=some (a8 w):=Dl _ Z
   have hT:Shared.TypeIs { s with heap:=s.heap.push (a8 w) } (.ref s.heap.objs.size) "set":=#[_,J,Z]
   have li:=PySem.F.called_set.init.lookup
   have bi:=PySem.F.called_set.init.bind (.ref s.heap.objs.size)
   repeat (any_goals (first |assumption |wp_step))
   refine FF (codeAny_call_builtin (R:=wants (λr d=>r= .none/\∃a t L,d={ s with heap:=a,toks:=t }/\bY prog w a s.heap.objs.size L/\(∀x,x∈L↔x∈n)/\L.length<=I.size/\
     (∀b o,b < s.heap.objs.size->s.heap.get? b=some o->a.get? b=some o)/\s.toks<=t) E) PySem.F.called_set.init.plain PySem.F.entry_set_init (check_set_init_1 hT ?_)) λp d H=>?_
   ·obtain⟨ol,q,u,nl,y⟩:=hl
    obtain⟨o1,g,K,O⟩:=ol
    simp only at u y
    subst u
    subst y
    have f:(s.heap.push (a8 w)).get? l=some { cls:=.type "list",dict:=g,data:=.seq I nl,slots:=O }:=Dg _ q
    have ns:=PySem.F.sub_list_set
    have nf:=PySem.F.sub_list_frozenset
    have ne:(Value.type "list"==Value.type "dict")=false:=by decide
    have j:(s.heap.push (a8 w)).IsList l I:=#[_,f,Z,nl,Z]
    unfold a8 at J hT f j ⊢
    unfold Builtin.«set.__init__» noKeywords Builtin.Frozenset.updateFrom
    generalize M:pyIter=PI
    wp_walk
    subst M
    refine FX j ?_
    refine Dc (wpAny_runValue ?_)
    have z:l < s.heap.objs.size:=Dm q
    have h3:A.in1.in1.in1.handled=none:=by simp [hh]
    have N:l≠(s.heap.push (a8 w)).objs.size:=by rw[D5];exact Dp (Fh z)
    have P:¬s.heap.objs.size∈[(s.heap.push (a8 w)).objs.size,l]:=by
     rw[D5]
     simp only[EZ,DO,F',not_or]
     exact#[Dp (Eo _),D6 z]
    have B:n.length=I.size:=by rw[L2.StrsAre.len hi,DF]
    refine qX ((Walks.list h3 _ l N I).toS) s.heap.objs.size P n B (λi v hv=>StrsAre.at' hi i v (by rw[EO];exact hv)) C (I.size - 0) 0 _ [] Ic (Dt _)
     #[#[_,Dl _ Z,Z,Z],j.push _] (Xb (Dg _ J)) (λx=>by simp) (Dk _) λs' L m T U V=>?_
    obtain⟨a,g',d',W,X⟩:=s'
    have eg:g'=s.gens:=m.gens
    have ed:d'=s.drawn:=m.drawn
    have eo:X=s.os:=m.os
    subst eg
    subst ed
    subst eo
    show wpAny _ _ _ _ _ _
    refine De ?_
    show wpAny _ _ (ret Value.none) _ _ _
    refine De #[Z,a,W,L,Z,T,U,V,λb o C e=>?_,m.toks]
    have b1:b≠s.heap.objs.size:=Dp C
    have b2:b≠(s.heap.push (a8 w)).objs.size:=by rw[D5];exact Dp (Fh C)
    exact m.heap b o (by simp only[EZ,DO,F',not_or];exact#[b1,b2]) (Dg _ (Dg _ e))
   ·cases p with
    |error e=>exact H
    |ok k=>
     cases k with
     |ret r=>
      obtain⟨rfl,a,t,L,rfl,T,U,V,Y,q3⟩:=H
      repeat (any_goals (first |assumption |wp_step))
      exact h _ _ _ T U V Y q3
     |_=>exact H.elim
  |_=>exact D.elim
end
section
variable {X:Cx}
theorem qy(m:X.calm=true):dy X (.type "set") (λg H Q=>∃(p:Addr) (S:List Str),g=[.ref p]/\aE X.K H p (S.map V.str)/\(∀L:List Str,L.Nodup->(∀x∈L,x∈S)->L.length+1 < scanBound)/\
  ∀l L,H l=none->L.Nodup->(∀x,x∈L↔x∈S)->Q (.ref l) (af H l (Bo X.prog X.w l L))):=by
 intro P s B H g U Q I r h
 obtain⟨p,S,rfl,n,t,q⟩:=h
 obtain⟨u,rfl,R⟩:=dQ r
 cases R
 obtain⟨i,v,y,C⟩:=I.list n
 have j:=zK v
 have D:i.length=S.length:=(L2.StrsAre.len j).symm
 refine JC (I.ok.hd m) y.isList (by simpa using j) t λc T L d z E k _=>?_
 have a:L.Nodup:=by obtain⟨_,_,_,_,_,_,_,_,_,a,_⟩:=d;exact a
 have A:∀b o,s.heap.get? b=some o->c.get? b=some o:=λb o e=>k b o (Dm e) e
 obtain⟨o,f⟩:∃o,c.get? s.heap.objs.size=some o:=let #[o,_,_,_,f,_]:=d;#[o,f]
 exact#[.ref s.heap.objs.size,_,I.laid A (Dk _) (show aG X.prog X.w _ c _ (Bo X.prog X.w s.heap.objs.size L) from #[d,#[o,f],λF G x e=>bY.at x e]),Z,q _ _ (I.hok.fresh (Dk _)) a z]
end
section
variable {X:Cx}{CX:mX}{k:Nat}{f C:Addr}{fd:FuncData}{ps:List Str}{sp:Sp}{dvs:List V}{ds:List Value}{E:XK}{x m:Str}{p pos apos:Pos}{e:Expr}{es:List Expr}{t:TA}
structure yb(K:Frag)(C:Addr)(m:Str)(f:Addr):Prop where
 rd:PySem.W.readsIn K C (.type "type")=true
 ga:specialIn K (.ref C) "__getattribute__"=some (some (.builtin "type.__getattribute__"))
 at_:PySem.W.findCls K (.ref C) (.type "type") m=some (.val (.ref f))
 kp:keepIn K (.ref f)=true
theorem uJ{pl:Sem Bool}(j:Gl X x)(l:X.mg x=some (.ref C))(M:yb X.K C m f)(F:ai X.prog X.w X.K X.mg X.base CX k f fd ps sp)(n:bq k X.A)(q:aw X.K fd ps ds)(u:au dvs ds)(v:cV CX X E)(y:PA X (e::es) t)
  (a:(x==("__debug__":Str))=false:=by decide)
  (c:starEach (e::es) X.env=(false,eval e X.env)::starEach es X.env:=by rfl) (d:(backTo pos (starEach es X.env)).any (·.1)=false:=by rfl)
  (z:eval (.Call (.Attribute (.Name x p) m apos) (e::es) [] pos) X.env=(do
   let O <- eval (.Name x p) X.env
   standAt apos.atName
   let (f,first) <- holding [O] (getMethod O m pl)
   callWith pos f first (backTo pos (starEach (e::es) X.env)) (backToKw pos (keywordEach [] X.env))):=by rfl):
  PE X (.Call (.Attribute (.Name x p) m apos) (e::es) [] pos) (dq sp dvs E t):=by
 intro P s g H Q I h
 refine GJ (pl:=pl) (kX I j l ?_ a) z
 refine PySem.W.method_cls I.kIn M.ga (PySem.W.cls_value I.kIn M.rd M.at_ Z ?_)
 have B:ap X P g H { s with toks:=s.toks+1 }:=I.kept (h':=s.heap) λb o e=>e
 refine HK (h₀:=X.base) I.ok.mod.kin M.kp (aL (y pos P _ g H _ B h) λU S #[G,J,i,r,D]=>#[i.kIn,?_]) c d
 exact Qk F n q u v i r D
end
abbrev dW(h:Heap)(z u v T:Addr)(f:Bool):Prop:=
 h.get? z=some { cls:=.type "zip",dict:=none,data:=.fields (List.toArray [rawInt T,.bool f,.bool false,.ref u,.ref v]),slots:=(List.toArray []) }
section
variable {prog:Program}{w:World}{A:Around}{E:Value->Shared->Prop}{s:Shared}
theorem Y2{Q:Option Obj->Shared->Prop}(h:Q (s.heap.get? a) s):wpAny M A (loadIfAlive a) Q E s:=λ_ _ _=>h
theorem AQ{Q:Bool->Shared->Prop}(H:dW s.heap z u v T f)(a:∃o,s.heap.get? T=some o)
  (q:∀h,dW h z u v T true->Heap.ExtBut z s.heap h->h.objs.size=s.heap.objs.size->Q false { s with heap:=h }):wpAny (model prog w) A (Builtin.SmallTypes.ownedTupleIsFree (.ref z)) Q E s:=by
 unfold Builtin.SmallTypes.ownedTupleIsFree
 refine Dc (DH H Z (x:=rawInt T) Z ?_)
 show wpAny _ _ (loadIfAlive ((T:Int).toNat) >>= _) _ _ s
 refine Dc (Y2 ?_)
 obtain⟨o,c⟩:=a
 rw[D8,c]
 simp only[Option.isNone_some,Dq,Ek]
 refine Dc (DH H Z (x:=.bool f) Z ?_)
 cases f with
 |true=>
  simp only[EV,Dq,Ek]
  exact Dc (De (De (q s.heap H (λb o _ e=>e) Z)))
 |false=>
  rw[DB Ib]
  refine Dc (Fj H Ie λh d S=>De (q h d S.extBut S.1))
theorem uC{Q:Option Value->Shared->Prop}(D:su z u v c d a b)
  (g:dW s.heap z u v T f) (p:∃o,s.heap.get? T=some o) (q:IsPair s.heap u (.ref c) (.ref d)) (r:fg B s.heap c a k) (t:fg l s.heap d b k) (G:gK B s.heap a C) (F:gK l s.heap b Y) (I:C[k]?=some x) (J:Y[k]?=some y)
  (L:∀h,dW h z u v T true->fg B h c a (k+1)->fg l h d b (k+1)->IsPair h s.heap.objs.size x y->h.objs.size=s.heap.objs.size+1->
   (∀e o,e≠z->e≠c->e≠d->s.heap.get? e=some o->h.get? e=some o)->Q (some (.ref s.heap.objs.size)) { s with heap:=h }):wpAny (model prog w) A (pyNext (.ref z)) Q E s:=by
 have H:s.TypeIs (.ref z) "zip":=#[_,g,Z]
 unfold pyNext
 refine Dc (FM (DV (name:=Str.ofString "__next__") H En (DZ En H FP (show wpAny _ _ (field (.ref z) 2 >>= _) _ _ _ from ?_) (FJ _))))
 refine Dc (DH g Z (x:=.bool false) Z (show wpAny _ _ (field (.ref z) 3 >>= _) _ _ _ from Dc (DH g Z (x:=.ref u) Z (Dc (D9 q Z ?_)))))
 refine(show wpAny _ _ (Builtin.SmallTypes.ownedTupleIsFree (.ref z) >>= _) _ _ _ from Dc (AQ g p λO P i n=>?_))
 simp only[Dq,Ek]
 refine Dc ?_
 simp only[List.forIn_toArray,EC,Fo]
 refine Dc (Dc (DI (show wpAny _ _ (Builtin.SmallTypes.nextOf (.ref c) >>= _) _ _ _ from ?_)))
 refine Dc (zL (s:={ s with heap:=O }) (r.kp λo e=>i _ _ D.cz e) (G.kp λo e=>i _ _ D.az e) I λM R j=>De (De ?_))
 refine Dc (Dc (DI (show wpAny _ _ (Builtin.SmallTypes.nextOf (.ref d) >>= _) _ _ _ from ?_)))
 have K:∀e o,e≠z->e≠c->s.heap.get? e=some o->M.get? e=some o:=λe o n U w=>j.extBut _ _ U (i _ _ n w)
 refine Dc (zL (s:={ s with heap:=M }) (t.kp λo e=>K _ _ D.dz D.cd.symm e) (F.kp λo e=>K _ _ D.bz D.bc e) J λm V S=>De (De (De ?_)))
 show wpAny _ _ (newTuple [x,y] >>= _) _ _ _
 refine Dc (wpAny_newTuple (De #[_,Z,De ?_]))
 have N:m.objs.size=s.heap.objs.size:=by rw[S.1,j.1];exact n
 have W:dW m z u v T true:=S.extBut _ _ D.dz.symm (j.extBut _ _ D.cz.symm P)
 show Q (some (.ref m.objs.size)) _
 rw[N]
 refine L _ (Dg _ W) (R.kp λo e=>Dg _ (S.extBut _ _ D.cd e)) (V.kp λo e=>Dg _ e) (by rw[<- N];exact Dl _ Z) (by rw[D5,N]) λe o X a2 a3 w=>Dg _ (S.extBut _ _ a3 (K _ _ X a2 w))
theorem vZ{b2:Bool}{ys:Array Value}{Q:Option Value->Shared->Prop}(j:A.handled=none)(D:su z u v c d a b)
  (H:dW s.heap z u v T f) (l:∃o,s.heap.get? T=some o) (m:IsPair s.heap u (.ref c) (.ref d)) (p:fg B s.heap c a k) (G:gK B s.heap a q) (r:q[k]?=none)
  (t:∀i,(∀e o,e≠z->e≠c->e≠d->s.heap.get? e=some o->i.get? e=some o)->Q none { s with heap:=i }):wpAny (model prog w) A (pyNext (.ref z)) Q E s:=by
 have h:s.TypeIs (.ref z) "zip":=#[_,H,Z]
 unfold pyNext
 refine Dc (FM (DV (name:=Str.ofString "__next__") h En (DZ En h FP (show wpAny _ _ (field (.ref z) 2 >>= _) _ _ _ from ?_) (FJ _))))
 refine Dc (DH H Z (x:=.bool false) Z (show wpAny _ _ (field (.ref z) 3 >>= _) _ _ _ from Dc (DH H Z (x:=.ref u) Z (Dc (D9 m Z ?_)))))
 refine(show wpAny _ _ (Builtin.SmallTypes.ownedTupleIsFree (.ref z) >>= _) _ _ _ from Dc (AQ H l λM F g n=>?_))
 simp only[Dq,Ek]
 refine Dc ?_
 simp only[List.forIn_toArray,EC,Fo]
 refine Dc (Dc (DI (show wpAny _ _ (Builtin.SmallTypes.nextOf (.ref c) >>= _) _ _ _ from ?_)))
 refine Dc (Qb (s:={ s with heap:=M }) (by simpa using j) (p.kp λo e=>g _ _ D.cz e) (G.kp λo e=>g _ _ D.az e) r λy e S C=>?_)
 exact Dc (Ff (T:="StopIteration") (b:=true) C Hi (De (t y λe o n N I w=>S _ _ N (g _ _ n w))))
end
theorem Jk:typeLookup (.type "zip") "__getattr__"=pure none:=by rw[Er,D2];kernel_rfl
theorem Xe:typeLookup (.type "zip") "keys"=pure none:=by rw[Er,D2];kernel_rfl
theorem QK:entryFor table "zip.__getattribute__"=some Builtin.«object.__getattribute__»:=
 Hj (id':="object.__getattribute__") (by kernel_rfl) Ig Ig (by kernel_rfl)
theorem Ku(a:Addr)(x:Array Value)(S:Array (Option Value))(u:Tok):
  Meets (Builtin.«object.__getattribute__» #[[.ref a,.str "keys" u],[]]) (λA R s=>s.heap.get? a=some { cls:=.type "zip",dict:=none,data:=.fields x,slots:=S }/\raisesAttr (.ref a) "keys" A R s):=
 Meets.of_wp λp w A R s H=>by
  obtain⟨c,g,d,t,os⟩:=s
  obtain⟨e,H⟩:=H
  have f:(#[c,g,d,t,os]:Shared).TypeIs (.ref a) "zip":=#[_,e,Z]
  have b:=Xe
  have h:(["__module__","__name__","__qualname__","__doc__","__annotations__"]:List Str).contains "keys"=false:=by decide+kernel
  unfold Builtin.«object.__getattribute__»
  repeat (any_goals (first |assumption |wp_step))
  try simp only[h,Dq,Ek]
  repeat (any_goals (first |assumption |wp_step))
  exact wpAny_raiseAttrError H.1 H.2 (attrMsg_fits Ig (by size_fits))
section
variable {prog:Program}{w:World}{A:Around}{E:Value->Shared->Prop}{s:Shared}
theorem tq{Q:Option Value->Shared->Prop}(f:s.heap.get? a=some { cls:=.type "zip",dict:=none,data:=.fields x,slots:=j })(k:A.handled=none)
  (h:∀c T,(∀b o,s.heap.get? b=some o->c.get? b=some o)->Q none { s with heap:=c,toks:=T }):wpAny (model prog w) A (getAttr? (.ref a) "keys") Q E s:=by
 obtain⟨l,g,d,T,os⟩:=s
 have i:∀t,(#[l,g,d,t,os]:Shared).TypeIs (.ref a) "zip":=λ_=>#[_,f,Z]
 have m:=sub_AttributeError
 have n:=PySem.F.slot_zip_getattribute.lookup
 have p:=PySem.F.slot_zip_getattribute.bind (.ref a)
 have q:=Jk
 unfold getAttr? getAttrBy? getAttrBy
 repeat (any_goals (first |assumption |exact i _ | ((with_reducible show wpAny _ _ (call (Value.builtin "zip.__getattribute__") _ _) _ _ _);refine Hy PySem.F.slot_zip_getattribute (i _) QK (PySem.F.args_zip_getattribute_2 _ _) (Ku a x j _) #[f,by simpa using k,λc t e H=>?_]) |wp_step))
 obtain⟨r,u,v⟩:=H.there
 show wpAny _ _ (getattributeRaised _ _ _ _ _ _ _) _ _ _
 unfold getattributeRaised
 repeat (any_goals (first |assumption |wp_step))
 exact h _ _ H.keeps
def wS(h:Heap)(z u v c d a b Dd:Addr)(x y:Array Value)(i:Nat):Prop:=
 ((IsZip h z u v .none/\∃p q,IsPair h v p q)∨∃T f o,dW h z u v T f/\h.get? T=some o/\T≠z/\T≠c/\T≠d/\T≠Dd)/\IsPair h u (.ref c) (.ref d)/\fg false h c a i/\fg false h d b i/\gK false h a x/\gK false h b y
theorem rO{Dd:Addr}{Q:Option Value->Shared->Prop}(D:su z u v c d a b)(l:Dd < s.heap.objs.size)(S:wS s.heap z u v c d a b Dd J Y k)(L:J[k]?=some x)(M:Y[k]?=some y)
  (N:∀h,wS h z u v c d a b Dd J Y (k+1)->IsPair h s.heap.objs.size x y->h.objs.size=s.heap.objs.size+1->(∀e o,e≠z->e≠v->e≠c->e≠d->s.heap.get? e=some o->h.get? e=some o)->Q (some (.ref s.heap.objs.size)) { s with heap:=h }):wpAny (model prog w) A (pyNext (.ref z)) Q E s:=by
 obtain⟨H,g,j,m,G,i⟩:=S
 obtain⟨oc,n,_⟩:=j.ob
 obtain⟨od,r,_⟩:=m.ob
 rcases H with ⟨H,p,q,U⟩ | ⟨T,f,o,H,O,t,P,R,V⟩
 ·refine uy D H g U j m G i L M λh B v1 I C t F K=>N h #[.inr #[s.heap.objs.size,false,_,B,t,D6 (Dm H),D6 (Dm n),D6 (Dm r),D6 l],K _ _ D.uz D.uv D.uc D.ud g,I,C,G.kp λo e=>K _ _ D.az D.av D.ac D.ad e,i.kp λo e=>K _ _ D.bz D.bv D.bc D.bd e] t F K
 ·refine uC D H #[o,O] g j m G i L M λh B I C W F K=>N h #[.inr #[T,true,o,B,K _ _ t P R O,t,P,R,V],K _ _ D.uz D.uc D.ud g,I,C,G.kp λo e=>K _ _ D.az D.ac D.ad e,i.kp λo e=>K _ _ D.bz D.bc D.bd e] W F λe o X n2 n3 n4 w=>K e o X n3 n4 w
theorem we{Dd:Addr}{Q:Option Value->Shared->Prop}(g:A.handled=none)(D:su z u v c d a b)(n:wS s.heap z u v c d a b Dd x ys k)(i:x[k]?=none)
  (j:∀H,(∀e o,e≠z->e≠v->e≠c->e≠d->s.heap.get? e=some o->H.get? e=some o)->Q none { s with heap:=H }):wpAny (model prog w) A (pyNext (.ref z)) Q E s:=by
 obtain⟨h,l,m,B,G,C⟩:=n
 rcases h with ⟨h,p,q,F⟩ | ⟨T,f,o,h,r,I,J,L,M⟩
 ·exact xw (b2:=false) (p:=p) (q:=q) (ys:=ys) g D h l m G i j
 ·exact vZ (b2:=false) (ys:=ys) g D h #[o,r] l m G i λH K=>j H λe o N O t y w=>K e o N t y w
structure Bu(D z u v c d a b:Addr):Prop where
 z:D≠z
 u:D≠u
 v:D≠v
 c:D≠c
 d:D≠d
 a:D≠a
 b:D≠b
theorem wS.keep{h j:Heap}{Dd:Addr}(F:Bu Dd z u v c d a b)(k:∀e o,e≠Dd->h.get? e=some o->j.get? e=some o)(st:wS h z u v c d a b Dd x y i):wS j z u v c d a b Dd x y i:=by
 obtain⟨H,l,m,n,G,r⟩:=st
 refine#[?_,k _ _ F.u.symm l,m.kp λo e=>k _ _ F.c.symm e,n.kp λo e=>k _ _ F.d.symm e,G.kp λo e=>k _ _ F.a.symm e,r.kp λo e=>k _ _ F.b.symm e]
 rcases H with ⟨H,p,q,B⟩ | ⟨T,f,o,H,g,C,D,I,t⟩
 ·exact .inl #[k _ _ F.z.symm H,p,q,k _ _ F.v.symm B]
 ·exact .inr #[T,f,o,k _ _ F.z.symm H,k _ _ t g,C,D,I,t]
theorem Kv{K:Type}[DecidableEq K]{knd:KeyKind prog w K}{R:Result->Shared->Prop}{Dd:Addr}{x:Array Value}(X:A.handled=none)(D:su z u v c d a b)(F:Bu Dd z u v c d a b)(m:List (K×Value))(Y:m.length=x.size)(h0:x.size<=sizeLine)
  (hP:∀(i:Nat),i < x.size->∃f V k,x[i]?=some f/\ys[i]?=some V/\knd.is k f=true/\m[i]?=some (k,V)):
  ∀(j i:Nat) (s:Shared) (n:Int),x.size - i=j->i<=x.size->wS s.heap z u v c d a b Dd x ys i->s.heap.DictOf knd Dd (merged [] (m.take i))->
   (∀h T,(∀e o,e≠Dd->e≠z->e≠v->e≠c->e≠d->s.heap.get? e=some o->h.get? e=some o)->h.DictOf knd Dd (merged [] m)->R (.ok (.ret .none)) { s with heap:=h,toks:=T })->
   codeAny (model prog w) A (.builtin "dict.update.loop" #[[.ref Dd,.ref z,.int n 0,.none],[]]) R s:=by
 intro j
 induction j with
 |zero=>
  intro i s n hj hi st q C
  have e:i=x.size:=by omega
  subst e
  refine Es Jw ?_
  rw[Ec zr]
  show wpAny _ A.in1 (pyNext (.ref z) >>= _) _ _ s
  refine Dc (we (by simpa using X) D st Ie λh g=>?_)
  show wpAny _ A.in1 (Builtin.Dict.addKeywords Dd [] >>= λ_=>ret Value.none) _ _ { s with heap:=h }
  refine Dc ?_
  unfold Builtin.Dict.addKeywords
  refine De (De (C h s.toks (λe o _ N t y B w=>g e o N t y B w) ?_))
  rw[<- Y,DY]at q
  obtain⟨o,es,ep,ho,r⟩:=q
  exact#[o,es,ep,g _ _ F.z F.v F.c F.d ho,r]
 |succ j ih=>
  intro i s n hj hi st q C
  have M:i < x.size:=by omega
  obtain⟨f,V,k,hx,hy,O,hm⟩:=hP i M
  refine Es Jw ?_
  rw[Ec zr]
  show wpAny _ A.in1 (pyNext (.ref z) >>= _) _ _ s
  obtain⟨oD,G,I,H,rD⟩:=id q
  have L:Dd < s.heap.objs.size:=Dm H
  refine Dc (rO D L st hx hy λl S P N g=>?_)
  have hb:Shared.TypeIs { s with heap:=l } (.ref s.heap.objs.size) "tuple":=#[_,P,Z]
  have J:l.DictOf knd Dd (merged [] (m.take i)):=#[oD,G,I,g _ _ F.z F.v F.c F.d H,rD]
  dsimp only
  refine Dc (DI ?_)
  refine Dc (wpAny_tryCatch ?_)
  unfold Builtin.Dict.pairItems
  refine Dc (EQ hb ?_)
  rw[DB Ib]
  refine Dc (D9 P Z (De ?_))
  show wpAny _ A.in1 (holding [f,V] (dictSet Dd f V)) _ _ { s with heap:=l }
  unfold dictSet
  refine DI (DI (Dc (knd.pyHash O ?_)))
  have Q:(merged ([]:List (K×Value)) (m.take i)).length<=i:=by
   have:=merged_length_le ([]:List (K×Value)) (m.take i)
   rw[DG]at this
   simp only[HD]at this
   omega
  refine wpAny_dictSetHashed_pairs (s:={ s with heap:=l,toks:=s.toks+1 }) O J (λh p sb=>?_) Ic
  rw[<- merged_take_succ [] m i (k,V) hm]at p
  have U:∀e o,e≠Dd->l.get? e=some o->h.get? e=some o:=λe o ne w=>(sb.2 e ne).trans w
  refine De #[Fd zr _,ih (i+1) _ (n+1) Ic M (S.keep F U) p λh2 T k2 d2=>C h2 T (λe o W N t y B w=>k2 e o W N t y B (U _ _ W (g e o N t y B w))) d2]
theorem KG{K:Type}[DecidableEq K]{knd:KeyKind prog w K}{more:List (K×Value)}{Q:Value->Shared->Prop}(N:A.handled=none)(D:su z u v c d a b)
  (j:IsZip s.heap z u v .none) (P:IsPair s.heap u (.ref c) (.ref d)) (m:∃p q,IsPair s.heap v p q) (U:fg false s.heap c a 0) (V:fg false s.heap d b 0) (W:gK false s.heap a x) (X:gK false s.heap b ys)
  (hn:more.length=x.size) (n:x.size<=sizeLine) (hP:∀(i:Nat),i < x.size->∃Y vu k,x[i]?=some Y/\ys[i]?=some vu/\knd.is k Y=true/\more[i]?=some (k,vu))
  (h:∀l t,l.DictOf knd s.heap.objs.size (merged [] more)->(∀e o,e≠z->e≠v->e≠c->e≠d->s.heap.get? e=some o->l.get? e=some o)->Q (.ref s.heap.objs.size) { s with heap:=l,toks:=t }):
  wpAny (model prog w) A (call (.type "dict") [.ref z]) Q E s:=by
 refine callType_codes (Q₁:=λO S=>O= .ref s.heap.objs.size/\S={ s with heap:=s.heap.push { cls:=.type "dict",data:=.dict (List.toArray []) } }) PySem.F.kt_called_dict (PySem.F.kt_typeCall_dict_1 _) PySem.F.entry_dict_init (kt_code_dict_new _ #[Z,Z]) ?_
 rintro O S ⟨rfl,rfl⟩
 have f:(s.heap.push { cls:=.type "dict",data:=.dict (List.toArray []) }).DictOf knd s.heap.objs.size []:=Heap.DictOf.new s.heap
 refine#[f.typeIs,PySem.F.args_dict_init_2 _ _,?_]
 unfold Builtin.«dict.__init__»
 refine Dc ?_
 unfold Builtin.Dict.selfAndRest
 refine Dc (wpAny_notOrdered_dict f.typeIs ?_)
 show wpAny _ _ (pure (s.heap.objs.size,[Value.ref z])) _ _ _
 refine De ?_
 show wpAny _ _ (Builtin.Dict.updateFrom "dict.__init__" s.heap.objs.size (.ref z) [] .none) _ _ _
 unfold Builtin.Dict.updateFrom
 generalize hH:s.heap.push { cls:=.type "dict",data:=.dict (List.toArray []) }=H at f ⊢
 have G:∀b o,s.heap.get? b=some o->H.get? b=some o:=λb o e=>by rw[<- hH];exact Dg _ e
 refine Dc (EQ #[_,G _ _ j,Z] ?_)
 rw[DB Ib]
 refine Dc (tq (s:={ s with heap:=H }) (G _ _ j) (by simpa using N) λM t k1=>?_)
 simp only[Option.isNone_none,FN]
 refine Dc (EU ?_)
 have g:∀b o,s.heap.get? b=some o->M.get? b=some o:=λb o e=>k1 _ _ (G _ _ e)
 refine Dc (wpAny_pyIter_zip (s:={ s with heap:=M,toks:=t }) (g _ _ j) ?_)
 obtain⟨oD,eD,y,B,rD⟩:=f
 obtain⟨p,q,m⟩:=m
 obtain⟨oc,C,_⟩:=U.ob
 obtain⟨od,I,_⟩:=V.ob
 obtain⟨oa,J,_⟩:=id W
 obtain⟨ob,L,_⟩:=id X
 have F:Bu s.heap.objs.size z u v c d a b:=#[D6 (Dm j),D6 (Dm P),D6 (Dm m),D6 (Dm C),D6 (Dm I),D6 (Dm J),D6 (Dm L)]
 refine De #[Fd zr _,FF (Kv (knd:=knd) (A:=A.in1) (R:=λr s'=>r= .ok (.ret .none)/\Q (.ref s.heap.objs.size) s') (by simpa using N) D F more hn n hP x.size 0 { s with heap:=M,toks:=t } 0 Z (Dt _)
  #[.inl #[g _ _ j,p,q,g _ _ m],g _ _ P,U.kp λo e=>g _ _ e,V.kp λo e=>g _ _ e,W.kp λo e=>g _ _ e,X.kp λo e=>g _ _ e] #[oD,eD,y,k1 _ _ B,rD] λl T k2 d2=>#[Z,?_]) λr s' q=>?_]
 ·exact h l T d2 λe o n1 n2 n3 n4 w=>k2 e o (Dp (Dm w)) n1 n2 n3 n4 (g _ _ w)
 ·obtain⟨rfl,q⟩:=q
  exact#[Z,q]
end
section
variable {X:Cx}{e1 e2:Expr}{ta:TA}{p p2 pos pos2:Pos}
def CS(K:Frag)(ta:TA):TE:=λc H Q=>ta c H λv h=>∃(a b:Addr) (k:List aY) (y:List V),v=[.ref a,.ref b]/\aA K h a (k.map kV)/\aA K h b y/\k.length=y.length/\∀l,h l=none->Q (.ref l) (af h l (.dK (cr [] (k.zip y))))
theorem Yk{P:Program}{w:World}:∀{K:List aY} {U:List Value},au (K.map kV) U->∀(i:Nat) (k:aY),K[i]?=some k->∃u,U[i]?=some u/\(aN P w).is k u=true
 | [],_,_,i,k,h=>by simp at h
 |k0::K,_,.cons (b:=u) h t,0,k,e=>by
  have E:k0=k:=by simpa using e
  subst E
  exact#[u,Z,KL h]
 |k0::K,_,.cons h t,i+1,k,e=>by simpa using Yk (P:=P) (w:=w) t i k (by simpa using e)
theorem ZN:∀{K:List aY} {y:List V} {u:List Value},au y u->KV (K.zip y) (K.zip u)
 | [],_,_,_=>by simp only[List.zip_nil_left];exact .nil
 |_::_,_,_,.nil=>by simp only[List.zip_nil_right];exact .nil
 |k::K,_,_,.cons h t=>.cons #[Z,h] (ZN t)
theorem Yl(m:Gl X "dict")(n:X.mg "dict"=none)(t:Gl X "zip")(v:X.mg "zip"=none)(M:X.calm=true)(N:PA X [e1,e2] ta)
  (O:starEach [e1,e2] X.env=(false,eval e1 X.env)::starEach [e2] X.env:=by rfl) (T:(backTo pos2 (starEach [e2] X.env)).any (·.1)=false:=by rfl)
  (f:starEach [Expr.Call (.Name "zip" p2) [e1,e2] [] pos2] X.env=(false,eval (.Call (.Name "zip" p2) [e1,e2] [] pos2) X.env)::starEach [] X.env:=by rfl) (x:(backTo pos (starEach [] X.env)).any (·.1)=false:=by rfl):
  PE X (.Call (.Name "dict" p) [.Call (.Name "zip" p2) [e1,e2] [] pos2] [] pos) (CS X.K ta):=by
 intro P s U H Q I h
 refine Ed (zu I m n PyProof.Rows.boot_dict ?_)
 refine D3 ?_ f x
 rw[f]
 show wpAny _ _ (spliced ((false,eval _ X.env)::backTo pos (starEach [] X.env))) _ _ s
 refine EY ?_
 refine Ed (zu I t v PyProof.Rows.boot_zip ?_)
 refine D3 (aL (N pos2 P s U H _ I h) λus S #[vs,H1,d,V,W]=>?_) O T
 obtain⟨a,b,c,ys,e,Y,gy,hl,q⟩:=W
 subst e
 cases V with
 |cons r rr=>
  cases rr with
  |cons r' y=>
   cases y
   cases r
   cases r'
   obtain⟨z,E,G,z1⟩:=d.tuple Y
   obtain⟨j,R,A,z2⟩:=d.tuple gy
   have l1:=E.length
   have l2:=R.length
   rw[Di]at l1 z1
   have la:a < S.heap.objs.size:=by obtain⟨o,C,_⟩:=G;exact Dm C
   have lb:b < S.heap.objs.size:=by obtain⟨o,C,_⟩:=A;exact Dm C
   refine vN (b1:=false) (b2:=false) (xs:=z.toArray) (ys:=j.toArray) G A λD F u' v' i1 i2 k=>?_
   refine Ft ?_
   have Dz:=sq S.heap.objs.size a b la lb
   refine KG (s:={ S with heap:=D }) (knd:=aN X.prog X.w) (more:=c.zip j) (d.ok.hd M) Dz F u' #[_,_,v'] i1 i2 (gK.kp (b:=false) G λo e=>k _ _ e) (gK.kp (b:=false) A λo e=>k _ _ e) (by rw[HC,Dn];omega) (by rw[Dn];omega) (λi hi=>?_) λh2 tk dd k2=>?_
   ·rw[Dn]at hi
    have J:i < c.length:=by omega
    have L:i < j.length:=by omega
    obtain⟨u,hu,ku⟩:=Yk E i _ (Dh J)
    refine#[u,j[i],c[i],by simpa using hu,by simp [L],ku,?_]
    rw[HP]
    exact#[Dh J,Dh L]
   ·have g:KV (cr [] (c.zip ys)) (merged [] (c.zip j)):=KV.merge (ZN R) .nil
    have zl:(cr [] (c.zip ys)).length<=sizeLine:=by
     rw[g.length]
     have:=merged_length_le ([]:List (aY×Value)) (c.zip j)
     rw[HC]at this
     simp only[HD]at this
     omega
    have k3:∀e o,S.heap.get? e=some o->h2.get? e=some o:=λe o w=>by
     have l:=Dm w
     exact k2 e o (Dp (Dr l (Fs _ _))) (Dp (Dr l (Fs _ _))) (Dp l) (Dp (Dr l (Fs _ _))) (k _ _ w)
    have B:S.heap.objs.size<=D.objs.size:=Fq (Ez (Fs _ 4) (Dm F))
    exact#[.ref D.objs.size,_,d.laid k3 B (ZK zl (beq_eq_false_iff_ne.mpr (DQ (Dp (Dr d.big B)))) g dd),Z,q _ (d.hok.fresh B)]
end
end L2
namespace L2
open PySem PySem.Spec PyProof.Rows PySem.SeqAt
section
variable {X:Cx}
theorem Y3{P:List (Addr×Obj)}{f:St}{H:Hp}{s:Shared}(I:ap X P f H s){A:Around}{k:List (aY×V)}{v a:List (aY×Value)}(r:KV k v)(g:KV k a)(N:(a.map (·.1)).Nodup)(j:∀p∈k,∃i,p.2= .int i):PySem.W.KeqHits A s a v true:=by
 refine J6 λp l=>?_
 have L:=r.length
 obtain⟨i,m,e⟩:=List.getElem_of_mem l
 have h:i < k.length:=by omega
 have b:k[i]?=some (k[i].1,k[i].2):=Dh h
 obtain⟨o,q,R⟩:=r.get b
 obtain⟨x,Q,c⟩:=g.get b
 have E:p=(k[i].1,o):=by
  have:v[i]?=some p:=by rw[Dh m,e]
  rw[this]at q
  exact DT q
 subst E
 obtain⟨n,t⟩:=j _ (EK h)
 rw[t]at R c
 obtain⟨T,rfl⟩:=R
 obtain⟨u,rfl⟩:=c
 refine#[_,qd N (Dx Q),?_]
 obtain⟨y,d,w⟩:=HT.eqAt_int A s n T n u
 rw[w.mpr Z]at d
 exact d
theorem v0(e:X.A.units < cLine):eW X (compareOp .NotEq) (λx y H Q=>∃a b k,x= .ref a/\y= .ref b/\H a=some (.dK k)/\H b=some (.dK k)/\(∀p∈k,∃i,p.2= .int i)/\Q (.bl false) H):=by
 intro P s w H x y v u Q I f g h
 obtain⟨a,b,k,rfl,rfl,j,l,m,q⟩:=h
 cases f
 cases g
 obtain⟨z,M,V,R,D⟩:=KN I.hok j
 obtain⟨B,o,C,c,d⟩:=KN I.hok l
 obtain⟨_,_,_,_,_,_,_,_,n⟩:=id d
 have L:=R.length
 have t:=c.length
 refine PySem.W.keq_ne (r:=true) M o D d e (λ_=>Y3 I R c n m) ?_
 rw[<- L,<- t,Ht]
 exact#[.bl false,H,I,Z,q]
end
end L2
namespace L2
open PySem PySem.Spec PyProof.Rows
section
variable {X:Cx}{st:Stmt}{ss:List Stmt}{e:Expr}{es:List Expr}
def C0:TS:=λ_ _ _=>False
theorem ZO:iS X ss C0:=λ_ _ _ _ _ _ h=>False.elim h
end
end L2
namespace L2
open PySem PySem.Spec PyProof.Rows PySem.SeqAt
def Bz(K:Frag):R2:=λx y H Q=>∃a b X Y,x= .ref a/\y= .ref b/\aA K H a X/\aA K H b Y/\
 ((X.all cg=true/\Y.all cg=true/\Q (.bl (oC X Y)) H)∨∃(w:Str) (c:Addr) (z:List V) (u:Str) (i:Int),X=[.str w,.ref c]/\aA K H c z/\Y=[.str u,.int i]/\Q (.bl false) H)
theorem xZ{X:Cx}(d:X.A.units+1 < cLine):eW X (compareOp .Eq) (Bz X.K):=by
 intro p s m H x y v U Q I f g h
 obtain⟨a,b,n,Y,rfl,rfl,k,l,h | ⟨w,c,M,u,i,rfl,o,rfl,q⟩⟩:=h
 ·exact wY (Fi d) p s m H _ _ v U Q I f g #[a,b,n,Y,Z,Z,k,l,h]
 cases f
 cases g
 obtain⟨N,r,P,_⟩:=I.tuple k
 obtain⟨O,R,t,_⟩:=I.tuple l
 obtain⟨S,V,z,_⟩:=I.tuple o
 cases r with
 |cons B r=>
  cases r with
  |cons C r=>
   cases r
   cases R with
   |cons D R=>
    cases R with
    |cons E R=>
     cases R
     obtain⟨T,rfl⟩:=B
     cases C
     obtain⟨F,rfl⟩:=D
     obtain⟨G,rfl⟩:=E
     refine eq_tupleAt (e:=λj=>if j=0 then w==u else false) (show s.heap.IsTuple a _ from P) (show s.heap.IsTuple b _ from t) (Fi d) (λj J L=>?_) ?_
     ·match j,J,L with
      |0,_,_=>exact EqAt.str_str w T u F
      |1,_,_=>exact EqAt.tuple_int i G (show s.heap.IsTuple c _ from z) (by simpa [Around.in1,Around.units] using d)
     ·have e:((List.range (min 2 2)).all (λj=>if j=0 then w==u else false)&&(2:Nat)==2)=false:=by
       show((if 0=0 then w==u else false)&&((if 1=0 then w==u else false)&&true)&&true)=false
       simp
      exact#[.bl false,H,I,El Value.bool e,q]
end L2
namespace L2
open PySem PySem.Spec PyProof.Rows
section
open PySem.W
theorem Y4{K:Frag}(X:K.In h)(a:h.get? x=some o)(b:o.cls= .ref C)(H:clsIn K B≠none)(tB:typeIn K (.ref B)=some (.type "type"))(m:mroIn K B (.type "BaseException")=some true)(c:mroIn K C (.ref B)=some false):
  Looks M h (excMatches (.ref x) (.ref B)) false:=by
 have L:Looks M h (typeOf (.ref x)) (.ref C):=b▸(Looks.ld a).andThen .now
 have l:=looks_typeIn (M:=M) X tB
 have L2:Looks M h (isInstance (.ref B) (.type "tuple")) false:=l.andThen (Looks.of_pure tc_notTuple)
 have d:Looks M h (isType (.ref B)) true:=by
  unfold clsIn at H
  split at H
  ·rename_i e
   intro A Q E s k q
   unfold isType loadHead
   exact Dc (Hf (k _ _ (X _ _ e)) (De q))
  ·exact absurd Z H
 have f:Looks M h (isExcClass (.ref B)) true:=by
  unfold isExcClass
  exact d.andThen (by rw[DB Z];exact Hs X m)
 have g:=Hs (M:=M) X c
 intro A Q E s k q
 unfold excMatches
 refine Dc (L2 A _ E s k ?_)
 rw[DC Ib]
 refine Dc (De ?_)
 dsimp only
 refine Dc ?_
 rw[EC]
 refine Dc (Dc (f A _ E s k ?_))
 simp only[Fy,Dq,Ek]
 refine De ?_
 dsimp only
 rw[Fo]
 refine De ?_
 refine Dc (L A _ E s k ?_)
 refine Dc ?_
 rw[EC]
 refine Dc (Dc (g A _ E s k ?_))
 simp only[Dq,Ek]
 refine De ?_
 dsimp only
 rw[Fo]
 refine De ?_
 exact De q
end
def vf(K:Frag)(A B:Addr)(t:Ca)(b c:TS):TS:=λD a H=>t D (λx C d _ h=>(mroIn K C (.ref A)=some true/\∀T,h T=none->b D a (af (af h T (eN T)) x (fi C d T x)))∨(mroIn K C (.ref A)=some false/\mroIn K C (.ref B)=some true/\∀T,h T=none->c D a (af (af h T (eN T)) x (fi C d T x)))) a H
section
variable {X:Cx}{st a₀ b₀:Stmt}{as bs:List Stmt}{tb:Ca}{ta tc:TS}{ca cb:Str}{np np' hp hp' pos:Pos}{A B:Addr}
theorem sK(b:X.stack=X.env::X.outer)(M:X.env.frame=some X.env.locals)(hb:CN X st tb)(hg:Gl X ca)(hm:X.mg ca=some (.ref A))(hA:clsIn X.K A≠none)(tA:typeIn X.K (.ref A)=some (.type "type"))(mA:mroIn X.K A (.type "BaseException")=some true)
  (N:Gl X cb) (O:X.mg cb=some (.ref B)) (hB:clsIn X.K B≠none) (tB:typeIn X.K (.ref B)=some (.type "type")) (mB:mroIn X.K B (.type "BaseException")=some true)
  (hs:∀e,iS (X.mark e λ_ _=>False) (a₀::as) ta) (P:∀e,iS (X.mark e λ_ _=>False) (b₀::bs) tc) (l:(ca==("__debug__":Str))=false:=by decide) (R:(cb==("__debug__":Str))=false:=by decide):
  PS X (.Try [st] [.ExceptHandler (some (.Name ca np)) none (a₀::as) hp,.ExceptHandler (some (.Name cb np')) none (b₀::bs) hp'] [] [] pos) (vf X.K A B tb ta tc):=by
 intro p s U H D I h
 refine wpAny_Try_except (HQ (Eh (hb p s U H D _ I h) (λf g q=>?_) λe g q=>?_))
 ·cases f with
  |next=>exact FS (FS q)
  |ret v=>exact q
  |brk=>exact q
  |cont=>exact q
 obtain⟨x,C,d,T,V,rfl,m,hx,hT,o,q⟩:=q
 obtain⟨⟨ox,vs,h1,h2,h3,h4,W,h6⟩,_⟩:=m.hok x _ hx
 obtain⟨⟨oT,J,t1,t2,t3⟩,_⟩:=m.hok T _ hT
 have u:=(Array.getElem?_eq_some_iff.mp h6).1
 have Y:X.A.frames=some (X.env::X.outer):=by rw[<- b];exact m.ok.frames
 have f0:g.heap.FunFrames X.base (X.env::X.outer):=by rw[<- b];exact m.stack
 refine K7 (base:=X.base) Y f0 M h1 W h6 o t1 t2 t3 λg2 Nd=>?_
 have E:(dN T g.heap).get? x=some ox:=(Du _ _ o).trans h1
 refine wF (s:={ g with heap:=g2 }) Nd E W u λg3 N0=>?_
 obtain⟨t,hn,F,i⟩:=(m.cleared hT t1 t2 t3).noted (C:=C) (d:=d) (t':=g.toks) hx E h2 h4 W u (by unfold gX;rw[b];exact N0)
 have i:ap X p U (af (af V t (eN t)) x (fi C d t x)) { g with heap:=g3 }:=i
 obtain⟨⟨o1,v1,L,k2,k3,k4,k5,k6⟩,_⟩:=i.hok x _ jc
 have G:af (af V t (eN t)) x (fi C d t x) t=some (eN t):=by rw[ji F,jc]
 obtain⟨⟨o2,t0,u1,u2,u3⟩,_⟩:=i.hok t _ G
 have S:∀{E':Value->Shared->Prop} {c:Stmt} {cs:List Stmt} {J:TS} {hp:Pos},(∀e,iS (X.mark e λ_ _=>False) (c::cs) J)->J D U (af (af V t (eN t)) x (fi C d t x))->codeAny (model X.prog X.w) (X.A.mark (some (.ref x))) (Code.handlers (.ref x) [.ExceptHandler none none (c::cs) hp] X.env) (λr a=>match r with | .ok f=>SP X p D f a | .error y=>cameBackBy (model X.prog X.w) X.A X.env E' y a) { g with heap:=g3 }:=by
  intro E' c cs J hp hz qz
  refine codeAny_handlers_suite ?_
  unfold setFlight
  refine Dc (DH L k5 k6 ?_)
  rw[DB (show(Value.ref t != Value.none)=true from by simp)]
  refine D4 u1 u2 (Array.getElem?_eq_some_iff.mp u3).1 ?_
  have I4:=i.cleared G u1 u2 u3
  refine Eh (hz (.ref x) p _ _ _ D (I4.mark (.ref x) λ_ _=>False) qz) (λf s6 Q=>?_) λ_ _ z=>z.elim
  cases f with
  |next=>obtain⟨j,H6,k,n⟩:=Q;exact#[_,_,k.unmark I.ok,n]
  |brk=>obtain⟨j,H6,k,n⟩:=Q;exact#[_,_,k.unmark I.ok,n]
  |cont=>obtain⟨j,H6,k,n⟩:=Q;exact#[_,_,k.unmark I.ok,n]
  |ret v=>obtain⟨y,j,H6,k,rv,n⟩:=Q;exact#[y,_,_,k.unmark I.ok,rv,n]
 rcases q with ⟨mC,q⟩ | ⟨mC,m0,q⟩
 ·refine Hr (Hc ?_) (by intro z;cases z)
  refine kX (i.mark (.ref x) λ_ _=>False) hg hm ?_ l
  refine qm i.kIn L k2 hA tA mA mC _ _ _ _ (λ_ _ e=>e) ?_
  exact S hs (q t hn)
 ·refine Hr (Hc ?_) (by intro z;cases z)
  refine kX (i.mark (.ref x) λ_ _=>False) hg hm ?_ l
  refine Y4 i.kIn L k2 hA tA mA mC _ _ _ _ (λ_ _ e=>e) ?_
  refine Hr (Hc ?_) (by intro z;cases z)
  refine kX (i.mark (.ref x) λ_ _=>False) N O ?_ R
  refine qm i.kIn L k2 hB tB mB m0 _ _ _ _ (λ_ _ e=>e) ?_
  exact S P (q t hn)
end
theorem Xf(l:Addr)(i:Array Value)(n:Nat)(D:Option Addr)(S:Array (Option Value)):
  Meets (Builtin.«enumerate.__new__» #[[.type "enumerate",.ref l],[]]) (λ_ R s=>s.heap.get? l=some { cls:=.type "tuple",dict:=D,data:=.seq i n,slots:=S }/\
   R (.ok (.ret (.ref (s.heap.push { cls:=.type "tuple_iterator",data:=.fields (List.toArray [.ref l,.int 0 0]) }).objs.size)))
    { s with heap:=(s.heap.push { cls:=.type "tuple_iterator",data:=.fields (List.toArray [.ref l,.int 0 0]) }).push { cls:=.type "enumerate",data:=.fields (List.toArray [.none,.bool false,.ref s.heap.objs.size,rawInt 0,.none,.none]) } }):=
 .of_wp λp w A R s h=>by
  obtain⟨e,g,d,t,os⟩:=s;obtain⟨H,h⟩:=h
  have b:=sub_enumerate
  have a:Heap.IsTuple (Shared.heap #[e,g,d,t,os]) l i:=#[_,H,Z,n,Z]
  wp_walk using ED H
  refine wpAny_stack_any λst=>De ?_
  split
  ·rename_i c _ _ _ _ _
   cases (c==Value.type "enumerate")
   ·wp_walk using ED H,FT a
    exact#[_,Z,h]
   ·wp_walk using ED H,FT a
    exact#[_,Z,h]
  ·wp_walk using ED H,FT a
   exact#[_,Z,h]
section
variable {prog:Program}{w:World}{A:Around}{E:Value->Shared->Prop}{s:Shared}
theorem XQ{Q:Value->Shared->Prop}(j:s.heap.IsTuple l i)
  (h:∀H,IsEnum H (s.heap.objs.size+1) s.heap.objs.size 0 .none->H.IsTupleIter s.heap.objs.size l 0->(∀b o,s.heap.get? b=some o->H.get? b=some o)->Q (.ref (s.heap.objs.size+1)) { s with heap:=H }):
  wpAny (model prog w) A (call (.type "enumerate") [.ref l]) Q E s:=by
 obtain⟨⟨c,d,D,S⟩,k,a,n,e⟩:=j
 replace a:c= .type "tuple":=a
 replace e:D= .seq i n:=e
 subst a e
 refine callType_new PySem.F.called_enumerate Ib (PySem.F.typeCall_enumerate_1 _) (PySem.F.newCall_enumerate_1 _) (λO=>Gc O _) PySem.F.entry_enumerate_new (Xf l i n d S) #[k,?_]
 have f:(s.heap.push { cls:=.type "tuple_iterator",data:=.fields (List.toArray [.ref l,.int 0 0]) }).objs.size=s.heap.objs.size+1:=D5 ..
 show _/\_
 rw[f]
 have g:IsEnum ((s.heap.push { cls:=.type "tuple_iterator",data:=.fields (List.toArray [.ref l,.int 0 0]) }).push { cls:=.type "enumerate",data:=.fields (List.toArray [.none,.bool false,.ref s.heap.objs.size,rawInt 0,.none,.none]) }) (s.heap.objs.size+1) s.heap.objs.size 0 .none:=by
  have:=Dl (s.heap.push { cls:=.type "tuple_iterator",data:=.fields (List.toArray [.ref l,.int 0 0]) }) (o:={ cls:=.type "enumerate",data:=.fields (List.toArray [.none,.bool false,.ref s.heap.objs.size,rawInt 0,.none,.none]) }) Z
  rw[f]at this;exact this
 exact#[#[_,g,Z],h _ g #[_,Dg _ (Dl _ Z),Z,Z] λb o x=>Dg _ (Dg _ x)]
theorem oZ{c:Type}{Q:c->Shared->Prop}(d:A.handled=none)
  (h:∀H (e:Addr),(∀b o,s.heap.get? b=some o->H.get? b=some o)->Shared.TypeIs { s with heap:=H } (.ref e) "StopIteration"->E (.ref e) { s with heap:=H }):
  wpAny (model prog w) A (do raiseNew (<- newExc (.type "StopIteration") []):Sem c) Q E s:=by
 refine Dc ?_
 simp only[newExc,newTuple]
 refine Dc (DX ?_ (by size_fits))
 refine Dc (m:=firstArgMember _ _) (Gv (a:=Value.none) ?_ ?_)
 ·first |rfl | (simp only[firstArgMember];rfl)
 refine DX ?_ (by size_fits)
 simp only[raiseNew]
 refine Dc (wpAny_handled ?_)
 rw[d]
 refine Dc (De (wpAny_throw (h _ _ (λb o e=>Dg _ (Dg _ e)) ?_)))
 exact#[_,Dl _ Z,Z]
theorem Kj{J T:Addr}{i:Nat}{I:Array Value}{Q:Value->Shared->Prop}(g:A.handled=none)(H:s.heap.IsTupleIter J T i)(j:s.heap.IsTuple T I)(l:I[i]?=none)
  (q:∀h (e:Addr),Heap.ExtBut J s.heap h->Shared.TypeIs { s with heap:=h } (.ref e) "StopIteration"->E (.ref e) { s with heap:=h }):wpAny (model prog w) A (Builtin.SmallTypes.nextOf (.ref J)) Q E s:=by
 obtain⟨o,a,p,c⟩:=id H
 obtain⟨O,d,_,N,f⟩:=j
 unfold Builtin.SmallTypes.nextOf
 refine Dc (DV (name:=Str.ofString "__next__") H.typeIs Eg (DZ Eg H.typeIs FL (show wpAny _ _ (field (.ref J) 0 >>= _) _ _ s from ?_) (FG _)))
 refine Dc (DH a c (x:=.ref T) Z (show wpAny _ _ (if (Value.ref T==Value.none)=true then _ else _) _ _ s from ?_))
 rw[DC (show ¬((Value.ref T==Value.none)=true) from Do)]
 refine(show wpAny _ _ (field (.ref J) 1 >>= _) _ _ s from Dc (DH a c (x:=.int i 0) Z (show wpAny _ _ (seqItems? (.ref T) >>= _) _ _ s from Dc (D9 d f ?_))))
 simp only[D8,l]
 refine Dc (EU (Dc (D4 a c Ie ?_)))
 refine oZ (by simpa using g) λh e k t=>q h e (λb o m n=>k b o ?_) t
 exact(Du _ _ (DQ m)).trans n
theorem Y5(m:A.handled=none)(a l:Addr)(d:l≠a)(I:Array Value):
  Draws prog w A a [a,l] I.size (λi v=>I[i]?=some v) (λi h=>h.IsTupleIter a l i/\h.IsTuple l I) where
 live:=λ_ _ st=>let #[o,H,_]:=st.1;#[o,H]
 frame:=λ_ _ _ st g=>#[st.1.at λo e=>g a Ie o e,let #[o,H,r]:=st.2;#[o,g l Ie o H,r]]
 item:=λi s Q E j st n=>Ki st.1 st.2 (x:=I[i]) (by simp [j]) λf b c=>n _ f s.toks (by simp [j]) #[b,let #[o,H,r]:=st.2;#[o,c.extBut l o d H,r]] c
 done:=λs Q E st p=>Kj m st.1 st.2 Ie λf e k t=>p f e k t
theorem XS(c:A.handled=none)(a l:Addr)(I:Array Value)(i:Nat)(d:I[i]?=none):
  Draws prog w A a [a,l] i (λ_ _=>True) (λj h=>j=i/\h.IsTupleIter a l i/\h.IsTuple l I) where
 live:=λ_ _ st=>let #[o,H,_]:=st.2.1;#[o,H]
 frame:=λ_ _ _ st b=>#[st.1,st.2.1.at λo e=>b a Ie o e,let #[o,H,r]:=st.2.2;#[o,b l Ie o H,r]]
 item:=λj s Q E f st n=>absurd st.1 (Dp f)
 done:=λs Q E st g=>Kj c st.2.1 st.2.2 d λm e k t=>g m e k t
end
noncomputable def vY(K:Frag)(a:Addr):It:=
 #[λi H=>∃X x,aA K H a X/\X[i]?=some x,λi H x h=>∃p v,x= .ref p/\H p=none/\h=af H p (.tup [.int i,v])/\∀X,aA K H a X->X[i]?=some v,λi H=>∃X,aA K H a X/\X.length<=i]
theorem XT{P:Program}{K:Frag}(a e g:Addr)(r:e≠g):iY P w K (.Tuple e0 kx tp) (vY K a) [e,g] e (λi h=>(∃O,IsEnum h e g i O)/\h.IsTupleIter g a i) where
 mem:=by simp
 obj:=λi h st b hb=>by
  obtain⟨⟨O,j⟩,⟨o,ei,c,d⟩⟩:=st
  rcases List.mem_cons.mp hb with rfl |hb
  ·exact#[_,j,λv z=>by cases (show Data.fields _=Data.cell v from z)]
  ·have q:b=g:=by simpa using hb
   subst q
   exact#[o,ei,λv z=>by rw[d]at z;cases z]
 keep:=λi h A st k=>#[let #[O,j]:=st.1;#[O,k e Ie _ j],st.2.at λo q=>k g Ie o q]
 item:=by
  intro X Q S T U i f s J H E I L st W
  subst Q S T
  obtain⟨⟨O,j⟩,l⟩:=st
  obtain⟨xs,x,M,N⟩:=W
  obtain⟨m,R,p,hz⟩:=I.tuple M
  obtain⟨u,hu,ru⟩:=R.get N
  have Y:e < s.heap.objs.size:=Dm j
  have l0:g < s.heap.objs.size:=by obtain⟨_,q,_⟩:=l;exact Dm q
  have h0:a≠g:=λz=>by rw[z]at p;obtain⟨o1,e1,c1,_⟩:=l;obtain⟨o2,B,c2,_⟩:=p;rw[e1]at B;cases B;exact absurd (c1.symm.trans c2) Ib
  have h1:e∉[g,a]:=λz=>by
   rcases List.mem_cons.mp z with z |z
   ·exact r z
   ·rw[List.mem_singleton.mp z]at j;obtain⟨o2,B,c2,_⟩:=p;unfold IsEnum at j;rw[j]at B;cases B;exact absurd (show Value.type "enumerate"=Value.type "tuple" from c2) Ib
  refine wpAny_pyNext_enum_itemD (Y5 (by simpa using I.ok.hd U) g a h0 m.toArray) j #[l,p] (by have:=R.length;have:=(List.getElem?_eq_some_iff.mp N).1;simp;omega) r h1 λx' A t C ho y hT h4 hk=>#[_,Z,?_]
  have D:=y.1
  have ex:u=x':=by
   have h2:m.toArray[i]?=some u:=by simpa using hu
   rw[h2]at C
   exact DT C
  subst ex
  have hn:H s.heap.objs.size=none:=I.hok.fresh (Dk _)
  have I1:ap X f J H { s with heap:=A,toks:=t+1 }:=I.turnedN L λb o hb q=>hk b o (λz=>hb (by simp [z])) (λz=>hb (by simp [z])) q
  have r2:au [V.int i,x] [Value.int i t,u]:=.cons #[_,Z] (.cons ru .nil)
  have I2:ap X f J (af H s.heap.objs.size (.tup [.int i,x])) { s with heap:=A,toks:=t+1 }:=
   I1.track (I.fpOk (Dk _) hn) I.sz #[by show 2<=sizeLine;decide,_,r2,_,hT,Z,_,Z]
  have F:∀b∈[e,g],eK X f (af H s.heap.objs.size (.tup [.int i,x])) b:=λb hb=>by
   obtain⟨f0,f1⟩:=L b hb
   refine#[?_,f1]
   rw[ji]
   ·exact f0
   ·rcases List.mem_cons.mp hb with rfl |hb
    ·exact Dp Y
    ·have q:b=g:=by simpa using hb
     subst q
     exact Dp l0
  refine wpAny_letOwnedTupleGo_enum (s:={ s with heap:=A,toks:=t+1 }) ho λG h3 n=>?_
  replace n:Heap.SameBut e A G:=n
  have I3:ap X f J (af H s.heap.objs.size (.tup [.int i,x])) { s with heap:=G,toks:=t+1 }:=I2.turnedN F λb o hb q=>(n.2 b λz=>hb (by simp [z])).trans q
  refine#[.ref s.heap.objs.size,_,I3,Z,#[_,x,Z,hn,Z,λys hy=>by rw[I.tuple_inj hy M];exact N],#[#[u,by simpa using h3],D.at λo q=>(n.2 g r.symm).trans q],λb hb=>(F b hb).1]
 done:=by
  intro X Q S T U i f s J H E I L st W
  subst Q S T
  obtain⟨⟨O,j⟩,l⟩:=st
  obtain⟨xs,M,N⟩:=W
  obtain⟨m,R,p,hz⟩:=I.tuple M
  have hl:=R.length
  refine wpAny_pyNext_enum_endD (XS (by simpa using I.ok.hd U) g a m.toArray i (by simp;omega)) j #[Z,l,p] λA eb=>#[Z,?_]
  exact I.turnedN (t':=s.toks) L λb o hb q=>eb b o (λz=>hb (by simp [z])) q
 self:=λ_ _ _ _ _ st h=>by
  obtain⟨⟨O,j⟩,_⟩:=st
  exact wpAny_pyIter_enum j h
section
variable {X:Cx}{elts:List Expr}{kx:Nat}{tp:Pos}
def yr(K:Frag)(t:TA):TI:=λb H R=>t b H λv h=>∃a,v=[.ref a]/\(∃x,aA K h a x)/\R (vY K a) h
theorem QU(g:Gl X "enumerate")(j:X.mg "enumerate"=none)(k:PA X [a] t)(m:starEach [a] X.env=[(false,eval a X.env)]:=by rfl):PI X (.Tuple elts kx tp) (.Call (.Name "enumerate" p) [a] [] c) (yr X.K t):=by
 intro P s n H R I h
 refine Call_ (zu I g j PyProof.Rows.boot_enumerate (D3 (aL (k c P s n H _ I h) λU S #[V,o,i,u,Q]=>?_) m Z))
 obtain⟨l,e,⟨z,v⟩,q⟩:=Q
 subst e
 cases u with
 |cons r w=>
  cases w
  cases r
  obtain⟨x,A,p,B⟩:=i.tuple v
  refine XQ p λC f d y=>?_
  refine wpAny_pyIter_enum f ?_
  refine#[S.heap.objs.size+1,[S.heap.objs.size+1,S.heap.objs.size],_,_,o,Z,i.kept (t':=S.toks) y,XT l _ _ (D6 (Eo _)),#[#[_,f],d],λb hb=>?_,q]
  rcases List.mem_cons.mp hb with rfl |hb
  ·exact i.fpOk (EA _) (i.hok.fresh (EA _))
  ·have e:b=S.heap.objs.size:=by simpa using hb
   subst e
   exact i.fpOk (Dk _) (i.hok.fresh (Dk _))
end
theorem Kk{K:Frag}{xs:List V}{g:TG}{t:TS}{D:be}(Pv:Nat->St->Hp->Prop)(j:Pv 0 b H)(k:∀i b H,i<=xs.length->Pv i b H->aA K H a xs)
  (l:∀E:be,E.rt=D.rt->∀i x p b H,xs[i]?=some x->H p=none->(∀c e,Pv (i+1) c e->E.nx c e)->∀G:Prop,((g (.ref p) b (af H p (.tup [.int i,x])) λf n=>t E f n)->G)->Pv i b H->G) (o:∀b H,Pv xs.length b H->D.nx b H):nD (vY K a) g t D b H:=by
 refine#[λi m b H=>m=xs.length - i/\i<=xs.length/\Pv i b H,#[xs.length,Ie,Dt _,j],?_]
 rintro i m b H ⟨rfl,s,p⟩
 have q:=k i b H s p
 by_cases d:i < xs.length
 ·refine .inr #[#[xs,xs[i],q,Dh d],Pv (i+1),λc e P=>#[xs.length - (i+1),Ic,Z,d,P],λx e y=>?_]
  obtain⟨r,v,rfl,u,rfl,w⟩:=y
  exact l { D with nx:=Pv (i+1),ct:=Pv (i+1),bk:=D.nx } Z i v r b H (w xs q) u (λ_ _ h=>h) _ (λz=>z) p
 ·exact .inl #[#[xs,q,Ic],o _ _ (by rw[show xs.length=i by omega];exact p)]
end L2
namespace L2
open PySem PySem.Spec PyProof.Rows
theorem bq.m(r:bq k A)(h:j<=k:=by omega):bq j A:=r.mono h
theorem bo{N P:List Str}{s:Scope}(a:s.kind=.function:=by rfl)(b:s.isCoroutine=false:=by rfl)(c:s.isGenerator=false:=by rfl)(d:N.Nodup:=by decide +kernel)(e:N.take P.length=P:=by rfl)(f:∀x∈P,s.names.lookup x=some .local ∨ s.names.lookup x=some .cell:=by decide +kernel)(g:∀y∈s.names,y.2≠.free:=by decide +kernel):aj N P s:=#[a,b,c,d,e,f,g]
theorem nh{N:List Str}{s t:Scope}{M:List Str}{i:List Nat}(a:∀y∈t.names,y.2≠.cell:=by decide +kernel)(b:t.kind=.function:=by rfl)(c:∀y∈t.names,y.2=.local->t.names.lookup y.1=some .local:=by decide +kernel)(d:∀y∈t.names,y.2=.free->s.names.lookup y.1=some .cell:=by decide +kernel)(e:M.drop n=i.map (λi=>N.getD i Str.empty):=by decide +kernel)(f:M.length=n+i.length:=by rfl)(g:∀j∈i,t.names.lookup (N.getD j Str.empty)=some .free:=by decide +kernel):aX N s t M n i:=#[a,b,c,d,e,f,g]
end L2
namespace K26
open PySem PySem.Spec PyProof.Rows L2
variable {P:Program}{w:World}{K:Frag}{mg:Str->Option Value}{base:Heap}
noncomputable def bn(i:Nat):Stmt:=PySem.Challenge.pw_againbook_k26_what_was_written.main.body.getD i (.Pass #[0,0,0,0])
noncomputable abbrev ya:Stmt:=bn 52
noncomputable abbrev rq:Stmt:=bn 53
noncomputable abbrev gH:Stmt:=bn 55
def ar(p:Addr)(H h:Hp):Prop:=∀b o,b≠p->H b=some o->h b=some o
theorem ar.refl:ar p H H:=λ_ _ _ h=>h
theorem ar.trans(a:ar p H d)(b:ar p d e):ar p H e:=λc o n h=>b c o n (a c o n h)
theorem ar.of_eq{H a:Hp}(h:∀b,b≠p->a b=H b):ar p H a:=λb o n e=>by rw[h b n];exact e
theorem ar.upd_new{o:HO}(a:ar p H h)(n:h r=none):ar p H (af h r o):=λb u N e=>by
 have q:=a b u N e
 rw[ji (jj q n)];exact q
theorem ar.upd_own(a:ar p H h)(n:H r=none):ar p H (af h r o):=λb u N e=>by
 rw[ji (jj e n)];exact a b u N e
structure am(H:Hp)(p:Addr):Prop where
 ob:∃a b:Int,0<=a/\1<=b/\b<=2147483646/\H p=some (.lst [.int a,.int b])
theorem am.eq{c:Hp}(B:am H p)(e:c p=H p):am c p:=by
 refine aP λG k=>?_
 obtain⟨a,b,d,f,g,h⟩:=B.ob
 refine k ?_
 clear k
 exact#[a,b,d,f,g,by rw[e];exact h]
theorem am.upd_new{o:HO}(B:am H p)(n:H r=none):am (af H r o) p:=by
 refine aP λG k=>?_
 obtain⟨a,b,c,d,e,h⟩:=B.ob
 refine k ?_
 clear k
 exact B.eq (by rw[ji (jj h n)])
theorem am.ne(B:am H p)(n:H r=none):r≠p:=by
 refine aP λG k=>?_
 obtain⟨a,b,c,d,e,h⟩:=B.ob
 refine k ?_
 clear k
 exact DQ (jj h n)
def aM:Sp:=λv H Q _=>∃(p:Addr) (w:Int),v=[.ref p,.int w]/\am H p/\0 < w/\w<=1000000000000000000/\
 ∀(d:Int) (h:Hp),0<=d->d < w->am h p->(∀b,b≠p->h b=H b)->Q (.int d) h
def mE(K:Frag):Sp:=λv H Q _=>∃(a:Addr) (n:List Int) (k:Int),v=[.ref a,.int k]/\aE K H a (n.map V.int)/\0<=k/\k < 1000/\
 ∀(r:Addr) (h:Hp),H r=none->am h r->(∀b,b≠r->h b=H b)->Q (.ref r) h
theorem oM:(10:Int) ^ (18:Int).toNat=1000000000000000000:=by decide
theorem ZP{ns:List Int}{k:Int}(H:0<=k)(a:k < (ns.length:Int)):∃v:Int,dn (ns.map V.int) k=some (.int v):=by
 have h:k.toNat < ns.length:=by omega
 have e:k=((k.toNat:Nat):Int):=by omega
 have q:dn (ns.map V.int) ((k.toNat:Nat):Int)=some (.int ns[k.toNat]):=jO (by rw[DE,Dh h];rfl)
 rw[<- e]at q
 exact#[_,q]
structure Cl(P:Program)(w:World)(K:Frag)(mg:Str->Option Value)(base:Heap)(L:Nat)(f:Addr)(fd:FuncData)(ps:List Str)(sp:Sp)(py:Str):Prop where
 g:ai P w K mg base ax L f fd ps sp
 b:aw K fd ps []
 k:keepIn K (.ref f)=true
 m:mg py=some (.ref f)
theorem Cl.e{X:Cx}{e:Expr}(c:Cl X.prog X.w X.K X.mg X.base L f o q s a)(i:bq L X.A)(j:PA X (e::E) t)(l:Gl X a:=by rfl)(h:(a==("__debug__":Str))=false:=by decide)(n:starEach (e::E) X.env=(false,eval e X.env)::starEach E X.env:=by rfl)(H:(backTo d (starEach E X.env)).any (·.1)=false:=by rfl):PE X (.Call (.Name a p) (e::E) [] d) (dq s [] E0 t):=kl c.g i l c.m c.k c.b .nil bh j h n H
theorem jy{X:Cx}(h:PE X a t):PE X (.Subscript a (.Constant (.int i) j p) b) (dw (eX X.K) t (tC (.int i))):=jq jW h jf λ_ _=>Z
theorem jw{X:Cx}{p:Pos}(i:Nat)(h:X.N.Nodup)(H:PE X e t)(b:X.N[i]?=some x:=by rfl)(c:px X.env.scope x:=by exact Or.inl Z)(d:swapsWith e (some (.Name x a)) p.line X.env=pure false:=by rfl)(f:X.fn x=true∨X.env.scope.names.lookup x=some .local:=by first |exact .inl Z |exact .inr Z |assumption):PS X (.Assign [.Name x a] e p) (dD t (bf i)):=kA h b c H d f
theorem js{K:Frag}{H:Hp}{Q:VK}(h:H p=some (.tup x))(a:dn x n=some v)(q:Q v H)(e:b[i]?=some (some (.ref p)):=by rfl):dw (eX K) (aU i) (tC (.int n)) b H Q:=#[_,e,p,x,n,v,Z,Z,aA.of h,a,q]
theorem j5{X:Cx}(h:PE X a t):PT X (.Compare a [.Eq] [.Constant (.str x) j p] b) (gU (dw Am t (tC (.str x)))):=jz Jl h jk Z
theorem kE{X:Cx}(h:PE X a t):PT X (.Compare a [.Eq] [.Constant (.int x) j p] b) (gU (dw Am t (tC (.int x)))):=jz Jl h jf Z
theorem gm:aj ["_law_box_here","_law_wide","_law_digit","_law_one","_law_mixed"] ["_law_box_here","_law_wide"] (aa rq):=bo
theorem si(F:aJ K "_law_take" "_law_take" rq f x):ai P w K mg base ax 1 f x ["_law_box_here","_law_wide"] aM:=by
 refine F.ok gm ?_ λC A O s H V Q E z h=>?_
 ·rintro _ _ _ _ ⟨p,w,rfl,_⟩
  rfl
 refine aP λG k=>?_
 obtain⟨p,W,rfl,B,d,g,q⟩:=h
 refine k ?_
 clear k
 refine aP λG k=>?_
 obtain⟨a,b,l,i,j,e⟩:=B.ob
 refine k ?_
 clear k
 refine#[_,jd (jv (jz qA (jq jo (pv 0) jf (λ_ _=>Z)) jf (aF _))
   (jd (jw 2 gm.nd (jr kM (jq jo (pv 0) jf (λ_ _=>Z)) (pv 1)))
   (jd (kL (jr J4 (jq jo (pv 0) jf (λ_ _=>Z)) (pv 1)) (zR (pv 0) jf kQ))
   (jg (jl (pv 2))))) jm)
  (jd (jw 3 gm.nd (jr kM (jr zd (jq jo (pv 0) jf (λ_ _=>Z)) jf) jf))
  (jd (kL (jr jV (jr kM (jr jV (jr zd (pv 3) jf) jf) jf) jf) (zR (pv 0) jf kQ))
  (jd (jw 4 gm.nd (jr J4 (jr jV (jr zd (pv 3) jf) (jq jo (pv 0) jf (λ_ _=>Z))) jf))
  (jd (jv (jz qA (pv 1) (jr JV jf jf) (aF _)) (jg (jw 4 gm.nd (jr zd (pv 4) (pv 4)))) jm)
  (jg (jl (jr kM (pv 4) (pv 1)))))))),?_]
 refine#[_,Z,p,_,_,_,Z,Z,aE.of e,Z,_,_,Z,Z,_,Z,?_]
 refine bp (λc=>?_) (λc=>?_)
 ·have D:(0:Int) < a:=Em c
  refine#[_,Z,p,_,_,_,Z,Z,aE.of e,Z,_,Z,_,_,Z,Z,d,?_]
  refine#[_,Z,p,_,_,_,Z,Z,aE.of e,Z,_,Z,_,_,Z,Z,#[d,g],_,Z,p,_,_,0,Z,Z,e,Z,_,Z,?_]
  refine q (a % W) _ (Eb _ Ic) (D1 _ d) #[a / W,b,Int.ediv_nonneg l Ic,i,j,jc] λb n=>ji n
 ·have I:0<=b*69621 % 2147483647:=Eb _ Ib
  have J:b*69621 % 2147483647 < 2147483647:=D1 _ Ib
  refine#[_,Z,p,_,_,_,Z,Z,aE.of e,Z,_,_,Z,Z,.inr #[Ib,Ib],_,_,Z,Z,(by show(0:Int) < 2147483647;decide),?_]
  refine#[_,Z,_,_,Z,Z,.inr #[Ib,Ib],_,_,Z,Z,_,_,Z,Z,(by show(0:Int) < 2147483646;decide),_,_,Z,Z,_,Z,p,_,_,1,Z,Z,e,Z,?_]
  generalize m:b*69621 % 2147483647=o at*
  have N:0<=(o*48271+30103) % 2147483646:=Eb _ Ib
  have L:(o*48271+30103) % 2147483646 < 2147483646:=D1 _ Ib
  generalize r:(o*48271+30103) % 2147483646=t at*
  refine#[_,Z,_,_,Z,Z,.inr #[Ib,Ib],_,Z,p,_,_,_,Z,Z,aE.of jc,Z,_,_,Z,Z,_,_,Z,Z,#[Ib,Ib],?_]
  have X:0<=(o*2147483647+(t+1)) / 8191:=by omega
  have R:(o*2147483647+(t+1)) / 8191 < 18446744073709551616:=by omega
  generalize u:(o*2147483647+(t+1)) / 8191=M at*
  refine#[_,Z,_,_,Z,Z,#[Ib,Ib,Ib],_,_,Z,Z,_,Z,?_]
  have v:am (af H p (.lst [.int a,.int (t+1)])) p:=#[a,t+1,l,Ic,Ic,jc]
  refine bp (λy=>?_) (λy=>?_)
  ·refine#[_,Z,_,Z,_,_,Z,Z,.inl #[Ic,Ic],?_]
   refine#[_,Z,_,Z,_,_,Z,Z,d,?_]
   exact q _ _ (Eb _ Ic) (D1 _ d) v λb n=>ji n
  ·refine#[_,Z,_,Z,_,_,Z,Z,d,?_]
   exact q _ _ (Eb _ Ic) (D1 _ d) v λb n=>ji n
theorem i5:aj ["_law_script","_law_k","_law_cell","_law_seed"] ["_law_script","_law_k"] (aa ya):=bo
theorem yy(F:aJ K "_law_box" "_law_box" ya f I)(m:mg "len"=none)(M:mg "int"=none):ai P w K mg base ax 1 f I ["_law_script","_law_k"] (mE K):=by
 refine F.ok i5 ?_ λJ A o s H W Q E X h=>?_
 ·rintro _ _ _ _ ⟨a,ns,k,rfl,_⟩
  rfl
 refine aP λY t=>?_
 obtain⟨a,ns,k,rfl,d,i,L,q⟩:=h
 refine t ?_
 clear t
 refine#[_,jd (jw 2 i5.nd (jr jV (jr zd jf (pv 1)) jf))
  (jd (jv (jz Jm (pv 1) (jJ jK Z m Eu (ja (pv 0) jb)) (aF _))
   (jg (jw 2 i5.nd (jq jo (pv 0) (pv 1) (λ_ _=>Z))))
   (jg (jv (jz qA (jJ jK Z m Eu (ja (pv 0) jb)) jf (aF _))
    (jg (jw 2 i5.nd (jr jV (pv 2) (jr zd (jr kM (jq jo (pv 0) (jr kM (pv 1) (jJ jK Z m Eu (ja (pv 0) jb))) (λ_ _=>Z)) jf) jf)))) jm)))
  (jd (jw 3 i5.nd (jr jV (jr kM (jr jV (jr zd (jr kM (pv 2) jf) jf) (jr zd jf (pv 1))) jf) jf))
  (jg (jl (jC (ja (jr zd (pv 2) (jB Je Z M boot_int (ja (qg Zu (pv 2) (jr JV jf jf) (aF _)) jb))) (ja (pv 3) jb))))))),?_]
 have e:(ns.map V.int).length=ns.length:=Di _
 have T:∀c:Int,∃v:V,∃x:Int,v= .int x/\1<=x/\x<=2147483646/\v= .int ((c % 2147483629*48271+40692*k) % 2147483646+1):=λc=>by
  have N:0<=(c % 2147483629*48271+40692*k) % 2147483646:=Eb _ Ib
  have O:(c % 2147483629*48271+40692*k) % 2147483646 < 2147483646:=D1 _ Ib
  exact#[_,_,Z,Ic,Ic,Z]
 have j:∀(c:Int) (r:Addr),H r=none->Q (.ref r) (af H r (.lst [.int (c*(if decide ((10:Int) ^ (18:Int).toNat<=c)=true then 1 else 0)),.int ((c % 2147483629*48271+40692*k) % 2147483646+1)])):=λc r R=>by
  refine q r _ R #[_,_,?_,?_,?_,jc] λb n=>ji n
  ·rw[oM]
   by_cases h:(1000000000000000000:Int)<=c
   ·rw[DP h,DB Z];omega
   ·rw[Dy h,DC Do];omega
  ·have N:0<=(c % 2147483629*48271+40692*k) % 2147483646:=Eb _ Ib
   omega
  ·have O:(c % 2147483629*48271+40692*k) % 2147483646 < 2147483646:=D1 _ Ib
   omega
 have B:∀c:Int,sO c (if decide ((10:Int) ^ (18:Int).toNat<=c)=true then 1 else 0):=λc=>.inr (by split<;>decide)
 refine ak λF0 u=>#[_,Z,_,_,Z,Z,.inl #[Ib,Ib],_,_,Z,Z,u _ _ ?_]
 clear u
 refine ak λS y=>?_
 have l:∀c:Int,S [some (.ref a),some (.int k),some (.int c),none] H:=λc=>y _ _ (ak λF2 U=>#[_,Z,_,_,Z,Z,(by show(0:Int) < 2147483629;decide),_,_,Z,Z,.inr #[Ib,Ib],_,Z,_,_,Z,Z,.inl #[Ib,Ib],_,_,Z,Z,_,_,Z,Z,(by show(0:Int) < 2147483646;decide),_,_,Z,Z,U _ _ (#[_,Z,_,Z,_,_,Z,Z,#[Ib,Ib,Ib],_,_,Z,Z,.inr #[_,Z,_,_,Z,Z,B c,_,Z,bG,j c]])])
 clear y
 refine my λG g=>#[_,Z,_,Z,a,_,Z,.inl d,_,_,Z,Z,_,Z,g _ _ ?_]
 clear g
 refine bp (λc=>?_) (λc=>?_)
 ·have C:k < (((ns.map V.int).length:Nat):Int):=Em c
  rw[e]at C
  obtain⟨v,p⟩:=ZP (ns:=ns) i C
  exact#[_,Z,_,Z,a,_,_,_,Z,Z,d,p,l v]
 ·have C:¬k < (((ns.map V.int).length:Nat):Int):=Ga (Bool.eq_false_iff.mpr c)
  rw[e]at C
  refine my λG g=>#[_,Z,a,_,Z,.inl d,_,_,Z,Z,_,Z,g _ _ ?_]
  clear g
  refine bp (λz=>?_) (λz=>?_)
  ·have D:(0:Int) < (((ns.map V.int).length:Nat):Int):=Em z
   obtain⟨v,p⟩:=ZP (ns:=ns) (k:=k % (((ns.map V.int).length:Nat):Int)) (Eb _ Ic) (by have:=D1 k D;rw[e]at this;rw[e];exact this)
   exact#[_,Z,_,Z,_,Z,_,Z,a,_,Z,.inl d,_,_,Z,Z,D,a,_,_,_,Z,Z,d,p,_,_,Z,Z,(by show(0:Int) < 2147483629;decide),_,_,Z,Z,.inr #[Ib,Ib],_,_,Z,Z,l _]
  ·exact l _
theorem lv(i j:Str):(i++j).length=i.length+j.length:=by
 show(i.cps++j.cps).size=i.cps.size+j.cps.size
 exact Ho
theorem zi:1000000<=sizeLine:=by rw[Hh];decide
theorem ao{H:Hp}{o:HO}(h:H b=some u)(n:H r=none):af H r o b=some u:=by rw[ji (jj h n)];exact h
theorem ZQ{z:Str}{k:Int}(H:0<=k)(a:k < (z.length:Int)):∃c:Nat,dn z.cps.toList k=some c:=by
 have b:z.cps.toList.length=z.length:=DF
 have h:k.toNat < z.cps.toList.length:=by omega
 have e:k=((k.toNat:Nat):Int):=by omega
 have q:dn z.cps.toList ((k.toNat:Nat):Int)=some z.cps.toList[k.toNat]:=jO (Dh h)
 rw[<- e]at q
 exact#[_,q]
theorem qZ{ys:List Str}{k:Int}(H:0<=k)(a:k < (ys.length:Int)):∃y∈ys,dn (ys.map V.str) k=some (.str y):=by
 have h:k.toNat < ys.length:=by omega
 have e:k=((k.toNat:Nat):Int):=by omega
 have q:dn (ys.map V.str) ((k.toNat:Nat):Int)=some (.str ys[k.toNat]):=jO (by rw[DE,Dh h];rfl)
 rw[<- e]at q
 exact#[_,EK h,q]
noncomputable def aZ(s:List Str)(lo h:Option Int):List Str:=(s.drop (HT.sIx s.length 0 lo)).take (HT.sIx s.length s.length h - HT.sIx s.length 0 lo)
theorem zj(s:List Str)(lo h:Option Int):aT (s.map V.str) lo h=(aZ s lo h).map V.str:=by
 unfold aT aZ
 rw[Di,Gh,List.map_drop]
theorem zC{lo:Option Int}(h:y∈aZ s lo H):y∈s:=List.mem_of_mem_drop (Ea h)
theorem zY(s:List Str)(lo h:Option Int):(aZ s lo h).length<=s.length:=by
 unfold aZ
 rw[DG,EJ]
 omega
theorem qG:∀{ys:List Str},(∀y∈ys,y.length<=1)->(ys.map (·.length)).sum<=ys.length
 | [],_=>Dk _
 |y::r,h=>by
  have a:=h y DA
  have b:=qG (ys:=r) λz H=>h z (DK _ H)
  rw[Et,List.sum_cons,DU]
  omega
theorem qH{z:Str}{ys:List Str}(H:z.length=0)(h:∀y∈ys,y.length<=1):(Txt.join z ys).length<=ys.length:=by
 show(Builtin.Str.glued z ys).length<=_
 rw[size_glued,H,Nat.mul_zero,Nat.add_zero]
 exact qG h
noncomputable def cy:Str:="abcdefghijklmnopqrstuvwxyz"
theorem Jx:cy.length=26:=by decide+kernel
noncomputable def nB(d:Int)(k:Nat):Nat:=97+((d+5*(0+(k:Int))) % 26).toNat
theorem uF(H:i < 20)(a:j < 20)(h:nB d i=nB d j):i=j:=by
 unfold nB at h
 omega
theorem wV(H:0<=k)(a:k < 26)(h:dn cy.cps.toList k=some c):c=97+k.toNat:=by
 have q:∀m:Fin 26,dn cy.cps.toList (m.val:Int)=some (97+m.val):=by decide+kernel
 have e:=q #[k.toNat,Ic]
 have E:((k.toNat:Nat):Int)=k:=by omega
 dsimp only at e
 rw[E,h]at e
 injection e
def Sh(A S:Str)(d:Int)(c:Nat)(w:Str):Prop:=if d=2 then ∃R:Str,w=R++#[(List.toArray [c])] else w=A++#[(List.toArray [c])]++S∨w=A++#[(List.toArray [c])]++S++"z"∨w="qqqqqqq"++#[(List.toArray [c])]
theorem kn(a b:Str):(a++b).cps.toList=a.cps.toList++b.cps.toList:=by
 show(a.cps++b.cps).toList=_
 exact Array.toList_append
theorem QV{R:Str}(h:R++(#[(List.toArray [c])]:Str)=r++#[(List.toArray [C])]):c=C:=by
 have e:=El (Array.toList ∘ Str.cps) h
 have e:(R++(#[(List.toArray [c])]:Str)).cps.toList=(r++(#[(List.toArray [C])]:Str)).cps.toList:=e
 rw[kn,kn]at e
 have:=List.append_inj_right' e Z
 injection this
theorem tH{S:Str}(h:A++(#[(List.toArray [c])]:Str)++S=A++#[(List.toArray [C])]++S):c=C:=by
 have e:=El (Array.toList ∘ Str.cps) h
 have e:(A++(#[(List.toArray [c])]:Str)++S).cps.toList=(A++(#[(List.toArray [C])]:Str)++S).cps.toList:=e
 rw[kn,kn,kn,kn]at e
 have:=HZ (Gi e)
 injection this
theorem yX{A S : Str}{d : Int}{c C : Nat}{w : Str}(i : A.length + S.length <= 5)(h : Sh A S d c w)(H : Sh A S d C w) : c = C := by
  unfold Sh at h H
  have l : ∀ c : Nat, (#[(List.toArray [c])] : Str).length = 1 :=λ_ => Z
  have L : (Str.ofString "z").length = 1 := by decide +kernel
  have f : (Str.ofString "qqqqqqq").length = 7 := by decide +kernel
  split at h
  · rename_i a
    rw [DB a] at H
    obtain ⟨R, rfl⟩ := h
    obtain ⟨r, e⟩ := H
    exact QV e
  · rename_i a
    rw [DC a] at H
    rcases h with rfl | rfl | rfl <;> rcases H with e | e | e
    · exact tH e
    all_goals first
      | exact QV e
      | (have g := El Str.length e
         simp only [lv, l, L, f] at g
         omega)
      | skip
    have E := El (Array.toList ∘ Str.cps) e
    have E : (A ++ (#[(List.toArray [c])] : Str) ++ S ++ ("z" : Str)).cps.toList = (A ++ (#[(List.toArray [C])] : Str) ++ S ++ ("z" : Str)).cps.toList := E
    rw [kn, kn (A ++ _ ++ S)] at E
    have b := Gi E
    rw [kn, kn, kn, kn] at b
    have := HZ (Gi b)
    injection this
theorem QW{y:List Str}:y.Nodup↔∀i j:Nat,i < j->j < y.length->y[i]?≠y[j]?:=by
 unfold List.Nodup
 rw[List.pairwise_iff_getElem]
 refine#[λh i j H a e=>?_,λh i j b a H e=>h i j H a ?_]
 ·rw[Dh (by omega:i < y.length),Dh a]at e
  injection e with e
  exact h i j Ic a H e
 ·rw[Dh b,Dh a,e]
theorem nK{A S:Str}{d D:Int}{Y:List Str}(b:A.length+S.length<=5)(g:Y.length<=20)(h:∀j y,Y[j]?=some y->Sh A S D (nB d j) y):Y.Nodup:=by
 rw[QW]
 intro i j c H e
 have a:=h i _ (Dh (by omega:i < Y.length))
 have f:=h j _ (Dh H)
 rw[Dh (by omega:i < Y.length),Dh H]at e
 injection e with e
 rw[e]at a
 have:=uF Ic Ic (yX b a f)
 omega
theorem Y6{y:List Str}(h:y.Nodup)(b:a∉y):(y.set n a).Nodup:=by
 rw[QW]at h ⊢
 intro i j H c e
 rw[Gz]at c
 by_cases d:n=i
 ·rw[d,FQ Ic,EX Ic]at e
  exact b (Dx e.symm)
 ·by_cases f:n=j
  ·rw[f,FQ Ic,EX Ic]at e
   exact b (Dx e)
  ·rw[EX d,EX f]at e
   exact h i j H c e
theorem rY{y:List Str}(h:mH (.str a) (y.map V.str)=false):a∉y:=λm=>by
 unfold mH at h
 rw[List.any_eq_false]at h
 exact h (.str a) (List.mem_map.mpr #[a,m,Z]) (by simp [le])
theorem tw{ss:List Str}{d1 d2:Int}(h:ss.length=(1+d1).toNat)(a:0<=d2)(b:d2 < 1+d1):(aZ ss none (some d2)).length+(aZ ss (some (d2+1)) none).length<=d1.toNat:=by
 obtain ⟨k, rfl⟩ : ∃ k : Nat, d2 = k := #[d2.toNat, (Int.toNat_of_nonneg a).symm]
 obtain ⟨n, rfl⟩ : ∃ n : Nat, d1 = n := #[d1.toNat, (Int.toNat_of_nonneg Ic).symm]
 have H : k ≤ n := by omega
 have h : ss.length = n + 1 := by rw [h]; omega
 clear a b
 unfold aZ
 rw [show ((k : Int) + 1) = ((k + 1 : Nat) : Int) from Z, HT.sIx_nat, HT.sIx_nat, DG, DG, EJ, h, Fz (Ey H), Fz (Nat.le_succ_of_le H)]
 refine Ds (Nat.add_le_add (Hz _ _) (Hz _ _)) ?_
 show k - 0 + (n + 1 - (k + 1)) ≤ n
 rw [Hk, Nat.add_sub_add_right, Nat.add_sub_cancel' H]
 exact Dk _
theorem Bs{S:Str}:Sh A S d c ("qqqqqqq"++#[(List.toArray [c])]):=by
 unfold Sh
 split
 ·exact#[_,Z]
 ·exact .inr (.inr Z)
theorem BK{A S:Str}{d:Int}{c:Nat}{w:Str}(h:if d=2 then ∃R:Str,w=R++#[(List.toArray [c])] else w=A++#[(List.toArray [c])]++S∨w=A++#[(List.toArray [c])]++S++"z"):Sh A S d c w:=by
 unfold Sh
 split at h
 ·rename_i e;rw[DB e];exact h
 ·rename_i e;rw[DC e];exact h.elim .inl λz=>.inr (.inl z)
noncomputable def pre(s:List Str)(d:Int):Str:=Txt.join "" (aZ s none (some d))
noncomputable def eh(s:List Str)(d:Int):Str:=Txt.join "" (aZ s (some (d+1)) none)
def eE:Sp:=λv H Q _=>∃(p:Addr) (n:Int),v=[.ref p,.int n]/\am H p/\1<=n/\n<=20/\
 ∀(r:Addr) (Y:List Str) (h:Hp),H r=none->h r=some (.lst (Y.map V.str))->(Y.length:Int)=n->(∀y∈Y,y.length<=20)/\Y.Nodup->am h p->ar p H h->Q (.ref r) h
theorem aW:aj ["_law_box_here","_law_total","_law_letters","_law_wide","_law_spot_here","_law_signs","_law_first","_law_form","_law_found","_law_k","_law_one","_law_word","_law_some","_law_odd"] ["_law_box_here","_law_total"] (aa gH):=bo
noncomputable def KH:Scope:=#[.function,[(".0",.local),("_law_k",.local),("_law_take",.globalImplicit),("_law_box_here",.free),("_law_letters",.free)],false,false,[]]
theorem XU:(["_law_k","_law_box_here","_law_letters"]:List Str).Nodup:=by decide+kernel
theorem XV:aX ["_law_box_here","_law_total","_law_letters","_law_wide","_law_spot_here","_law_signs","_law_first","_law_form","_law_found","_law_k","_law_one","_law_word","_law_some","_law_odd"] (aa gH) KH ["_law_k","_law_box_here","_law_letters"] 1 [0,2]:=nh
noncomputable def KI:Scope:=#[.function,[(".0",.local),("_law_j",.local),("_law_take",.globalImplicit),("_law_box_here",.free),("_law_letters",.free)],false,false,[]]
theorem XX:(["_law_j","_law_box_here","_law_letters"]:List Str).Nodup:=by decide+kernel
theorem XY:aX ["_law_box_here","_law_total","_law_letters","_law_wide","_law_spot_here","_law_signs","_law_first","_law_form","_law_found","_law_k","_law_one","_law_word","_law_some","_law_odd"] (aa gH) KI ["_law_j","_law_box_here","_law_letters"] 1 [0,2]:=nh
theorem qU{p:Addr}{Q:List V->Hp->Prop}(o:n<=20)(B:am f p)
  (q:∀(S:List Str) (H:Hp),S.length=n->(∀s∈S,s.length<=1)->am H p->(∀b,b≠p->H b=f b)->Q (S.map V.str) H):
  dM (tX 0 n) 1 [some (.ref p),some (.str cy)] (bf 0) hX (dw yp (aU 2) (dq aM [] E0 (al (aU 1) (al (tC (.int 26)) aI)))) Q f:=by
 refine z9 (λi y H=>∃S:List Str,y=S.map V.str/\S.length=i/\(∀s∈S,s.length<=1)/\am H p/\∀b,b≠p->H b=f b)
  #[[],Z,Z,(λ_ h=>nomatch h),B,λ_ _=>Z] (Ds o Ib) (λi y H #[S,e,l,_]=>by rw[e,Di,l];exact Dk _) ?_ ?_
 ·intro i y H x a
  refine aP λG k=>?_
  obtain⟨S,rfl,g,j,m,E⟩:=a
  refine k ?_
  clear k
  refine#[_,Z,_,Z,p,26,Z,m,Ib,Ib,λd A D r t u=>?_]
  obtain⟨c,v⟩:=ZQ (z:=cy) D (by rw[Jx];exact r)
  refine#[_,_,c,Z,Z,Ib,v,S++[#[(List.toArray [c])]],by rw[DJ];rfl,by rw[Dj,g];rfl,λs hs=>?_,t,λb N=>(u b N).trans (E b N)]
  rcases List.mem_append.mp hs with hs |hs
  ·exact j s hs
  ·rw[List.mem_singleton.mp hs];exact Dk 1
 ·intro y H a
  refine aP λG k=>?_
  obtain⟨S,rfl,g,j,m,E⟩:=a
  refine k ?_
  clear k
  exact q S H g j m E
def Rw(p g r:Addr)(n d D b e:Int)(i c:Nat)(s y:List Str)(H:Hp)(L:Nat)(Z:Str->Prop):L2.St->Hp->Prop:=λa h=>∃W:Str,(W.length<=L/\Z W)/\
 a=[some (.ref p),some (.int n),some (.str cy),some (.int (1+d)),some (.int D),some (.ref g),some (.int b),some (.int e),some (.ref r),some (.int (0+(i:Int))),some (.str #[(List.toArray [c])]),some (.str W),none,none]/\
 h g=some (.lst (s.map V.str))/\h r=some (.lst (y.map V.str))/\am h p/\ar p H h
def Rf(p r:Addr)(n:Int)(H:Hp):L2.St->Hp->Prop:=λa h=>a[8]?=some (some (.ref r))/\∃Y:List Str,h r=some (.lst (Y.map V.str))/\(Y.length:Int)=n/\((∀y∈Y,y.length<=20)/\Y.Nodup)/\am h p/\ar p H h
theorem Qc(Y:List Str):(Y.map V.str).all cg=true:=by
 rw[Hw]
 intro v h
 obtain⟨y,_,rfl⟩:=List.mem_map.mp h
 rfl
theorem nY(Y:List Str)(j:Nat)(y:Str):(Y.map V.str).set j (V.str y)=(Y.set j y).map V.str:=(List.map_set ..).symm
inductive NI(p g r:Addr)(n d1 d2 d4 d5:Int)(ss:List Str)(H:Hp)(i:Nat)(σ:L2.St)(H':Hp):Prop
 |mk (ok oo ow:Option V) (ys:List Str) (e0:σ=[some (.ref p),some (.int n),some (.str cy),some (.int (1+d1)),some (.int d2),some (.ref g),some (.int d4),some (.int d5),some (.ref r),ok,oo,ow,none,none]) (e1:H' g=some (.lst (ss.map V.str))) (e2:H' r=some (.lst (ys.map V.str))) (e3:ys.length=i) (e4:(∀y∈ys,y.length<=20)/\∀j y,ys[j]?=some y->Sh (pre ss d2) (eh ss d2) d5 (nB d4 j) y) (e5:am H' p) (e6:ar p H H'):NI p g r n d1 d2 d4 d5 ss H i σ H'
theorem pZ(F:aJ K "_law_names" "_law_names" gH f fd)(GT:ai P w K mg base ax 1 fT f4 ["_law_box_here","_law_wide"] aM)(x:aw K f4 ["_law_box_here","_law_wide"] [])(C:keepIn K (.ref fT)=true)
  (M:mg "_law_take"=some (.ref fT)) (mr:mg "range"=none):ai P w K mg base ax 2 f fd ["_law_box_here","_law_total"] eE:=by
 refine F.ok aW ?_ λc1 A o1 s H vs Q E D h=>?_
 ·rintro _ _ _ _ ⟨p,n,rfl,_⟩
  rfl
 refine aP λGq T=>?_
 obtain⟨p,n,rfl,B,a3,a4,q⟩:=h
 refine T ?_
 clear T
 refine#[_,(@jd _ _ _ _ _ (@kA _ _ (2) _ _ _ _ aW.nd Z (Or.inr Z) (@jk _ _ _ _) Ih (.inl Z)) (@jd _ _ _ _ _ (@kA _ _ (3) _ _ _ _ aW.nd Z (Or.inl Z) (@jr _ _ _ _ _ _ _ _ jV (@jf _ _ _ _) (@kl _ _ _ _ _ _ _ _ _ _ _ _ _ _ _ _ GT D Z M C x .nil bh (@ja _ _ _ _ _ (@pv _ 0 _ _ Ih (.inr (.inl Z)) Ib Ib) (@ja _ _ _ _ _ (@jf _ _ _ _) (@jb _) Ih) Ih) Ib Ih Ih)) Ih (.inl Z)) (@jd _ _ _ _ _ (@kA _ _ (4) _ _ _ _ aW.nd Z (Or.inl Z) (@kl _ _ _ _ _ _ _ _ _ _ _ _ _ _ _ _ GT D Z M C x .nil bh (@ja _ _ _ _ _ (@pv _ 0 _ _ Ih (.inr (.inl Z)) Ib Ib) (@ja _ _ _ _ _ (@pv _ 3 _ _ Ih (.inl Z) Ib Ib) (@jb _) Ih) Ih) Ib Ih Ih) Ih (.inl Z)) (@jd _ _ _ _ _ (@Yf _ _ _ _ _ _ _ _ _ _ (5) (["_law_k","_law_box_here","_law_letters"]) (1) ([0,2]) _ _ _ _ aW.nd Z (Or.inl Z) Z (@jZ _ _ _ _ _ _ Z mr (@ja _ _ _ _ _ (@pv _ 3 _ _ Ih (by first |exact Or.inl Z |exact Or.inr (Or.inl Z) |exact Or.inr (Or.inr Z)) Ib Ib) (@jb _) Ih) Ih) XV (λ_ _ _ _ _=>(@ju _ _ (0) _ XU Z (Or.inl Z) (by first |exact .inl Z |exact .inr Z))) (λ_ _ _ _ _=>(@kW _)) (λ_ _ _ _ _=>(@jq _ _ _ _ _ _ _ JW (@pv _ 2 _ _ Ih (by first |exact Or.inl Z |exact Or.inr (Or.inl Z) |exact Or.inr (Or.inr Z)) Ib Ib) (@kl _ _ _ _ _ _ _ _ _ _ _ _ _ _ _ _ GT D Z M C x .nil bh (@ja _ _ _ _ _ (@pv _ 1 _ _ Ih (by first |exact Or.inl Z |exact Or.inr (Or.inl Z) |exact Or.inr (Or.inr Z)) Ib Ib) (@ja _ _ _ _ _ (@jf _ _ _ _) (@jb _) Ih) Ih) Ib Ih Ih) (λ_ _=>Z))) Ih (by first |exact .inl Z |exact .inr Z) (by intro _;rfl)) (@jd _ _ _ _ _ (@kA _ _ (6) _ _ _ _ aW.nd Z (Or.inl Z) (@kl _ _ _ _ _ _ _ _ _ _ _ _ _ _ _ _ GT D Z M C x .nil bh (@ja _ _ _ _ _ (@pv _ 0 _ _ Ih (.inr (.inl Z)) Ib Ib) (@ja _ _ _ _ _ (@jf _ _ _ _) (@jb _) Ih) Ih) Ib Ih Ih) Ih (.inl Z)) (@jd _ _ _ _ _ (@kA _ _ (7) _ _ _ _ aW.nd Z (Or.inl Z) (@kl _ _ _ _ _ _ _ _ _ _ _ _ _ _ _ _ GT D Z M C x .nil bh (@ja _ _ _ _ _ (@pv _ 0 _ _ Ih (.inr (.inl Z)) Ib Ib) (@ja _ _ _ _ _ (@jf _ _ _ _) (@jb _) Ih) Ih) Ib Ih Ih) Ih (.inl Z)) (@jd _ _ _ _ _ (@kA _ _ (8) _ _ _ _ aW.nd Z (Or.inl Z) (@jC _ _ _ _ (@jb _)) Ih (.inl Z)) (@jd _ _ _ _ _ (@ke _ _ _ _ _ _ _ _ D0 Z (@jZ _ _ _ _ _ _ Z mr (@ja _ _ _ _ _ (@pv _ 1 _ _ Ih (.inl Z) Ib Ib) (@jb _) Ih) Ih) (@ju _ _ (9) _ aW.nd Z (Or.inl Z) (.inl Z)) (@jd _ _ _ _ _ (@kA _ _ (10) _ _ _ _ aW.nd Z (Or.inl Z) (@jq _ _ _ _ _ _ _ JW (@pv _ 2 _ _ Ih (.inr (.inl Z)) Ib Ib) (@jr _ _ _ _ _ _ _ _ kM (@jr _ _ _ _ _ _ _ _ jV (@pv _ 6 _ _ Ih (.inl Z) Ib Ib) (@jr _ _ _ _ _ _ _ _ zd (@jf _ _ _ _) (@pv _ 9 _ _ Ih (.inl Z) Ib Ib))) (@jf _ _ _ _)) (λ_ _=>Z)) Ih (.inl Z)) (@jd _ _ _ _ _ (@jX _ _ _ (@kA _ _ (11) _ _ _ _ aW.nd Z (Or.inl Z) (@jr _ _ _ _ _ _ _ _ zo (@jr _ _ _ _ _ _ _ _ zo (@kh _ _ _ _ _ _ _ _ _ _ _ _ Gp GL GK Qs (@jk _ _ _ _) (@ja _ _ _ _ _ (@jL _ _ _ _ _ _ _ _ _ _ km (@pv _ 5 _ _ Ih (.inl Z) Ib Ib) (@kK _) (@jF _ _ _ (@pv _ 4 _ _ Ih (.inl Z) Ib Ib))) (@jb _) Ih) Ih Ih Ih Ih Ih) (@pv _ 10 _ _ Ih (.inl Z) Ib Ib)) (@kh _ _ _ _ _ _ _ _ _ _ _ _ Gp GL GK Qs (@jk _ _ _ _) (@ja _ _ _ _ _ (@jL _ _ _ _ _ _ _ _ _ _ km (@pv _ 5 _ _ Ih (.inl Z) Ib Ib) (@jF _ _ _ (@jr _ _ _ _ _ _ _ _ jV (@pv _ 4 _ _ Ih (.inl Z) Ib Ib) (@jf _ _ _ _))) (@kK _)) (@jb _) Ih) Ih Ih Ih Ih Ih)) Ih (.inl Z))) (@jd _ _ _ _ _ (@jX _ _ _ (@jv _ _ _ _ _ _ _ _ (@PW.pt _ _ _ (@JU _ _ _ _ _ _ _ (kE (@pv _ 7 _ _ Ih (.inl Z) Ib Ib)) (@qE _ _ _ _ (kE (@jr _ _ _ _ _ _ _ _ kM (@pv _ 9 _ _ Ih (.inl Z) Ib Ib) (@jf _ _ _ _)))))) (@jg _ _ _ (@kA _ _ (11) _ _ _ _ aW.nd Z (Or.inl Z) (@jr _ _ _ _ _ _ _ _ zo (@pv _ 11 _ _ Ih (.inl Z) Ib Ib) (@jk _ _ _ _)) Ih (.inl Z))) (@jm _))) (@jd _ _ _ _ _ (@jX _ _ _ (@jv _ _ _ _ _ _ _ _ (kE (@pv _ 7 _ _ Ih (.inl Z) Ib Ib)) (@jg _ _ _ (@kA _ _ (11) _ _ _ _ aW.nd Z (Or.inl Z) (@jr _ _ _ _ _ _ _ _ zo (@kh _ _ _ _ _ _ _ _ _ _ _ _ Gp GL GK Qs (@jk _ _ _ _) (@ja _ _ _ _ _ (@kO _ _ _ _ _ _ _ (["_law_j","_law_box_here","_law_letters"]) (1) ([0,2]) _ _ _ _ Z (@jZ _ _ _ _ _ _ Z mr (@ja _ _ _ _ _ (@kl _ _ _ _ _ _ _ _ _ _ _ _ _ _ _ _ GT D Z M C x .nil bh (@ja _ _ _ _ _ (@pv _ 0 _ _ Ih (by first |exact Or.inl Z |exact Or.inr (Or.inl Z) |exact Or.inr (Or.inr Z)) Ib Ib) (@ja _ _ _ _ _ (@jf _ _ _ _) (@jb _) Ih) Ih) Ib Ih Ih) (@jb _) Ih) Ih) XY (λ_ _ _ _ _=>(@ju _ _ (0) _ XX Z (Or.inl Z) (by first |exact .inl Z |exact .inr Z))) (λ_ _ _ _ _=>(@kW _)) (λ_ _ _ _ _=>(@jq _ _ _ _ _ _ _ JW (@pv _ 2 _ _ Ih (by first |exact Or.inl Z |exact Or.inr (Or.inl Z) |exact Or.inr (Or.inr Z)) Ib Ib) (@kl _ _ _ _ _ _ _ _ _ _ _ _ _ _ _ _ GT D Z M C x .nil bh (@ja _ _ _ _ _ (@pv _ 1 _ _ Ih (by first |exact Or.inl Z |exact Or.inr (Or.inl Z) |exact Or.inr (Or.inr Z)) Ib Ib) (@ja _ _ _ _ _ (@jf _ _ _ _) (@jb _) Ih) Ih) Ib Ih Ih) (λ_ _=>Z))) (by intro _;rfl)) (@jb _) Ih) Ih Ih Ih Ih Ih) (@pv _ 10 _ _ Ih (.inl Z) Ib Ib)) Ih (.inl Z))) (@jm _))) (@jd _ _ _ _ _ (@jX _ _ _ (@jv _ _ _ _ _ _ _ _ (@jz _ _ _ _ _ _ _ _ zb (@pv _ 11 _ _ Ih (.inl Z) Ib Ib) (@jh _ _ _ _ _ (@Qt _ _ Ih)) Z) (@jg _ _ _ (@kA _ _ (11) _ _ _ _ aW.nd Z (Or.inl Z) (@jr _ _ _ _ _ _ _ _ zo (@jk _ _ _ _) (@pv _ 10 _ _ Ih (.inl Z) Ib Ib)) Ih (.inl Z))) (@jm _))) (@jg _ _ _ (@jN _ _ _ _ (@kh _ _ _ _ _ _ _ _ _ _ _ _ Dw DN DM jP (@pv _ 8 _ _ Ih (.inl Z) Ib Ib) (@ja _ _ _ _ _ (@pv _ 11 _ _ Ih (.inl Z) Ib Ib) (@jb _) Ih) Ih Ih Ih Ih Ih) Ih))))))) (by intro _;rfl)) (@jd _ _ _ _ _ (@jX _ _ _ (@jv _ _ _ _ _ _ _ _ (@jz _ _ _ _ _ _ _ _ Jl (@kl _ _ _ _ _ _ _ _ _ _ _ _ _ _ _ _ GT D Z M C x .nil bh (@ja _ _ _ _ _ (@pv _ 0 _ _ Ih (.inr (.inl Z)) Ib Ib) (@ja _ _ _ _ _ (@jf _ _ _ _) (@jb _) Ih) Ih) Ib Ih Ih) (@jf _ _ _ _) (aF _)) (@jd _ _ _ _ _ (@kA _ _ (12) _ _ _ _ aW.nd Z (Or.inl Z) (@jC _ _ _ _ (@Qt _ _ Ih)) Ih (.inl Z)) (@jd _ _ _ _ _ (@kA _ _ (13) _ _ _ _ aW.nd Z (Or.inl Z) (@jq _ _ _ _ _ _ _ jo (@pv _ 12 _ _ Ih (.inl Z) Ib Ib) (@kl _ _ _ _ _ _ _ _ _ _ _ _ _ _ _ _ GT D Z M C x .nil bh (@ja _ _ _ _ _ (@pv _ 0 _ _ Ih (.inr (.inl Z)) Ib Ib) (@ja _ _ _ _ _ (@jf _ _ _ _) (@jb _) Ih) Ih) Ib Ih Ih) (λ_ _=>Z)) Ih (.inl Z)) (@jg _ _ _ (@jv _ _ _ _ _ _ _ _ (@jz _ _ _ _ _ _ _ _ qP (@pv _ 13 _ _ Ih (.inl Z) Ib Ib) (@pv _ 8 _ _ Ih (.inl Z) Ib Ib) Z) (@jg _ _ _ (@kL _ _ _ _ _ _ (@pv _ 13 _ _ Ih (.inl Z) Ib Ib) (@zR _ _ _ _ _ _ _ (@pv _ 8 _ _ Ih (.inl Z) Ib Ib) (@kl _ _ _ _ _ _ _ _ _ _ _ _ _ _ _ _ GT D Z M C x .nil bh (@ja _ _ _ _ _ (@pv _ 0 _ _ Ih (.inr (.inl Z)) Ib Ib) (@ja _ _ _ _ _ (@pv _ 1 _ _ Ih (.inl Z) Ib Ib) (@jb _) Ih) Ih) Ib Ih Ih) kQ (by intro _;rfl)) Ih Ih Ih)) (@jm _))))) (@jm _))) (@jg _ _ _ (@jl _ _ _ _ (@pv _ 8 _ _ Ih (.inl Z) Ib Ib)))))))))))),?_]
 refine dX λE0 f0=>f0 _ _ ?_
 refine dX λG a=>#[_,Z,p,6,Z,B,Ib,Ib,λd1 H1 a5 a' U e1=>#[_,_,Z,Z,a _ _ ?_]]
 refine dX λE2 f2=>#[_,Z,_,Z,p,_,Z,U,Ic,Ic,λd2 H2 b0 b1 B2 e2=>f2 _ _ ?_]
 clear f0 a f2
 refine dX λG a=>#[_,Z,_,Z,Ic,Ic,?_]
 refine qU (p:=p) Ic B2 λss H3 a2 e B3 e3 g hg=>a _ _ ?_
 clear a
 have k3:ar p H H3:=(ar.of_eq e1).trans ((ar.of_eq e2).trans (ar.of_eq e3))
 have v:g≠p:=B3.ne hg
 refine dX λG a=>#[_,Z,p,26,Z,B3.upd_new hg,Ib,Ib,λW H4 b2 b3 B4 e4=>a _ _ ?_]
 refine dX λE2 f2=>#[_,Z,p,3,Z,B4,Ib,Ib,λI H5 b4 b5 B5 e5=>f2 _ _ ?_]
 clear a f2
 have h2:H5 g=some (.lst (ss.map V.str)):=by rw[e5 g v,e4 g v];exact jc
 have k5:ar p H H5:=(k3.upd_new hg).trans ((ar.of_eq e4).trans (ar.of_eq e5))
 refine dX λG a=>#[Ib,λr u=>a _ _ ?_]
 clear a
 have m:r≠p:=B5.ne u
 have h4:g≠r:=jj h2 u
 have n3:H g=none:=by
  cases z:H g with
  |none=>rfl
  |some o=>have:=k3 g o v z;rw[hg]at this;cases this
 have X:H r=none:=by
  cases z:H r with
  |none=>rfl
  |some o=>have:=k5 r o m z;rw[u]at this;cases this
 have b7:=zi
 refine dX λG a=>dU λJ j=>#[_,Z,_,Z,Ic,Ic,j _ _ ?_]
 clear j
 refine zp (lo:=0) (NI p g r n d1 d2 W I ss H) #[none,none,none,[],Z,ao h2 u,jc,Z,#[(λ_ h=>nomatch h),(λ_ _ h=>nomatch h)],B5.upd_new u,k5.upd_new u] ?_ ?_
 ·intro E0 _ i σ H' hi fE Gq T b
  obtain⟨ok,oo,ow,ys,rfl,L,Y,h0,d,B',k'⟩:=b
  clear a
  obtain⟨c,hc⟩:=ZQ (z:=cy) (k:=(W+5*(0+(i:Int))) % 26) (Eb _ Ib) (by rw[Jx];exact D1 _ Ib)
  refine T ?_
  clear T
  show eZ (dD _ _) _ E0 _ _
  refine dX λG a=>#[_,Z,_,Z,_,Z,_,_,Z,Z,.inl #[Ib,Ib],_,_,Z,Z,_,_,Z,Z,(by show(0:Int) < 26;decide),_,_,c,Z,Z,Ib,hc,a _ _ ?_]
  clear a
  have b9:(#[(List.toArray [c])]:Str).length=1:=rfl
  have h5:c=nB W i:=wV (Eb _ Ib) (D1 _ Ib) hc
  refine dX λG a=>df (Rw p g r n d1 d2 W I i c ss ys H 13 (·=pre ss d2++#[(List.toArray [c])]++eh ss d2)) (λE2 _ t=>?_) λO H1 b=>?_
  ·clear a fE
   refine#[Z,_,Z,_,Z,_,Z,g,_,Z,aE.of L,λs1 n1=>?_]
   have z1:=qG (ys:=aZ ss none (some d2)) λy d=>e y (zC d)
   have z2:=zY ss none (some d2)
   refine#[_,s1,aZ ss none (some d2),Z,Z,aE.of (by rw[jc,zj]),Ib,Ic,?_]
   have j1:=qH (z:="") (ys:=aZ ss none (some d2)) Ig λy d=>e y (zC d)
   refine#[_,Z,_,_,Z,Z,Ic,?_]
   refine#[Z,_,Z,_,Z,_,_,Z,Z,_,Z,g,_,Z,aE.of (ao L n1),λs2 n2=>?_]
   have z3:=qG (ys:=aZ ss (some (d2+1)) none) λy d=>e y (zC d)
   have z4:=zY ss (some (d2+1)) none
   refine#[_,s2,aZ ss (some (d2+1)) none,Z,Z,aE.of (by rw[jc,zj]),Ib,Ic,?_]
   have j2:=qH (z:="") (ys:=aZ ss (some (d2+1)) none) Ig λy d=>e y (zC d)
   refine#[_,_,Z,Z,by rw[lv];omega,?_]
   exact t _ _ #[_,#[by show(Txt.join ("":Str) (aZ ss none (some d2))++(#[(List.toArray [c])]:Str)++Txt.join ("":Str) (aZ ss (some (d2+1)) none)).length<=13;rw[lv,lv];omega,Z],Z,ao (ao L n1) n2,ao (ao Y n1) n2,(B'.upd_new n1).upd_new n2,(k'.upd_new n1).upd_new n2]
  obtain⟨w1,⟨b',z1⟩,rfl,g1,r1,U,k1⟩:=b
  refine a _ _ ?_
  clear a
  refine dX λG a=>df (Rw p g r n d1 d2 W I i c ss ys H 14 (λw=>w=pre ss d2++#[(List.toArray [c])]++eh ss d2∨w=pre ss d2++#[(List.toArray [c])]++eh ss d2++"z")) (λE2 _ t=>?_) λO H2 b=>?_
  ·clear a fE
   refine#[_,Z,Z,_,Z,?_]
   refine bp (λS=>?_) (λS=>?_)
   ·refine#[_,Z,_,_,Z,Z,(by show(0:Int) < 2;decide),Z,_,Z,?_]
    refine bp (λcb=>?_) (λcb=>?_)
    ·have hz:(Str.ofString "z").length=1:=by decide+kernel
     refine#[_,Z,_,_,Z,Z,by rw[hz];omega,?_]
     exact t _ _ #[_,#[by rw[lv,hz];omega,.inr (by rw[z1])],Z,g1,r1,U,k1]
    ·exact t _ _ #[w1,#[Ic,.inl z1],Z,g1,r1,U,k1]
   ·exact nC (t _ _ #[w1,#[Ic,.inl z1],Z,g1,r1,U,k1])
  obtain⟨w2,⟨c2,z2⟩,rfl,g2,r2,B2,k2⟩:=b
  refine a _ _ ?_
  clear a
  refine dX λG a=>df (Rw p g r n d1 d2 W I i c ss ys H 14 (λw=>if I=2 then ∃R:Str,w=R++#[(List.toArray [c])] else w=pre ss d2++#[(List.toArray [c])]++eh ss d2∨w=pre ss d2++#[(List.toArray [c])]++eh ss d2++"z")) (λE2 _ t=>?_) λO H3 b=>?_
  ·clear a fE
   refine#[_,Z,Z,_,Z,?_]
   refine bp (λS=>?_) (λS=>?_)
   ·refine#[Z,_,Z,p,8,Z,B2,Ib,Ib,λd6 H6 d0 d3 B6 e6=>?_]
    refine#[_,Z,Ic,Ic,?_]
    refine qU (p:=p) Ic B6 λtt H7 c3 h3 B7 e7 g7 n7=>?_
    have jt:=qH (z:="") (ys:=tt) Ig h3
    have zt:=qG h3
    refine#[_,g7,tt,Z,Z,aE.of jc,Ib,Ic,?_]
    refine#[_,Z,_,_,Z,Z,Ic,?_]
    have g8:H7 g=some (.lst (ss.map V.str)):=by rw[e7 g v,e6 g v];exact g2
    have r8:H7 r=some (.lst (ys.map V.str)):=by rw[e7 r m,e6 r m];exact r2
    have e5:I=2:=by injection Em S
    exact t _ _ #[_,#[by rw[lv];omega,(DB e5).mpr #[_,Z]],Z,ao g8 n7,ao r8 n7,B7.upd_new n7,(k2.trans ((ar.of_eq e6).trans (ar.of_eq e7))).upd_new n7]
   ·have e5:I≠2:=λz=>S (by rw[z];exact DP Z)
    exact t _ _ #[w2,#[Ic,(DC e5).mpr z2],Z,g2,r2,B2,k2]
  obtain⟨w3,⟨c4,z3⟩,rfl,g3,r3,B3,k3⟩:=b
  refine a _ _ ?_
  clear a
  refine dX λG a=>df (Rw p g r n d1 d2 W I i c ss ys H 14 (Sh (pre ss d2) (eh ss d2) I c)) (λE2 _ t=>?_) λO H4 b=>?_
  ·clear a fE
   refine#[_,Z,Ib,λt0 N=>?_]
   refine#[t0,_,Z,.inr (aA.of jc),Z,YR Ih,_,Z,?_]
   refine bp (λS=>?_) (λS=>?_)
   ·have hq:(Str.ofString "qqqqqqq").length=7:=by decide+kernel
    refine#[_,Z,_,_,Z,Z,by rw[hq];omega,?_]
    exact t _ _ #[_,#[by rw[lv,hq];omega,Bs],Z,ao g3 N,ao r3 N,B3.upd_new N,k3.upd_new N]
   ·exact t _ _ #[w3,#[Ic,BK z3],Z,ao g3 N,ao r3 N,B3.upd_new N,k3.upd_new N]
  obtain⟨w4,⟨c5,z4⟩,rfl,g4,r4,B4,k4⟩:=b
  refine a _ _ ?_
  clear a
  refine#[_,Z,.inl #[Z,_,aE.of r4],_,Z,r,_,_,Z,Z,r4,by rw[Di];omega,?_]
  refine fE _ _ #[_,_,_,ys++[w4],Z,by rw[ji h4];exact g4,by rw[jc,DJ];rfl,by rw[Dj,h0];rfl,#[λy hm=>?_,λj y hj=>?_],B4.eq (ji (DQ m)),k4.upd_own X]
  ·rcases List.mem_append.mp hm with hm |hm
   ·exact d.1 y hm
   ·rw[List.mem_singleton.mp hm];omega
  ·by_cases h6:j < ys.length
   ·rw[ER h6]at hj
    exact d.2 j y hj
   ·have lj:=(List.getElem?_eq_some_iff.mp hj).1
    rw[Dj,Fg]at lj
    have ej:j=ys.length:=by omega
    rw[ej,EM (Dk _),Gr]at hj
    injection hj with hj
    rw[<- hj,ej,h0,<- h5]
    exact z4
 ·intro σ H' b
  refine aP λGq T=>?_
  obtain⟨ok,oo,ow,ys,rfl,L,Y,h0,d,B',k'⟩:=b
  refine T ?_
  clear T
  have h1:(ys.length:Int)=n:=by omega
  have f5:=tw (ss:=ss) (d1:=d1) (d2:=d2) Ic Ic Ic
  have j1:(pre ss d2).length<=_:=qH (z:="") (ys:=aZ ss none (some d2)) Ig λy d=>e y (zC d)
  have j2:(eh ss d2).length<=_:=qH (z:="") (ys:=aZ ss (some (d2+1)) none) Ig λy d=>e y (zC d)
  have nd:=nK Ic Ic d.2
  have d:=d.1
  refine a _ _ ?_
  clear a
  refine ak λF1 a=>df (Rf p r n H) (λE2 _ t=>?_) λO H1 b=>?_
  ·clear a
   refine my λG' g'=>#[_,Z,p,6,Z,B',Ib,Ib,λd6 H6 d0 d3 B6 e6=>#[Z,_,Z,g' _ _ ?_]]
   clear g'
   have r6:H6 r=some (.lst (ys.map V.str)):=by rw[e6 r m];exact Y
   have k6:ar p H H6:=k'.trans (ar.of_eq e6)
   refine bp (λS=>?_) (λS=>?_)
   ·refine dX λE3 f3=>#[Ib,λt0 N=>f3 _ _ ?_]
    clear f3
    have t1:t0≠p:=B6.ne N
    refine dX λE4 f3=>#[_,Z,_,Z,p,13,Z,B6.upd_new N,Ib,Ib,λd7 H7 d9 d' B7 e7=>?_]
    have t7:H7 t0=some (.lst ((["num","var","op","go","ask","back","chain","sets","iff","ends","calls","reads","gives"]:List Str).map V.str)):=((e7 t0 t1).trans jc).trans (El (λl=>some (HO.lst l)) Ig)
    have r7:H7 r=some (.lst (ys.map V.str)):=by rw[e7 r m];exact ao r6 N
    have k7:ar p H H7:=(k6.upd_new N).trans (ar.of_eq e7)
    obtain⟨od,h7,h8⟩:=qZ (ys:=(["num","var","op","go","ask","back","chain","sets","iff","ends","calls","reads","gives"]:List Str)) d9 (by simpa using d')
    refine#[t0,_,_,_,Z,Z,aE.of t7,h8,f3 _ _ ?_]
    clear f3
    have h':od.length<=20:=by
     have:∀y∈(["num","var","op","go","ask","back","chain","sets","iff","ends","calls","reads","gives"]:List Str),y.length<=20:=by decide+kernel
     exact this od h7
    refine my λG' g'=>#[_,Z,_,Z,r,_,Z,.inl (aE.of r7),Z,Qc _,_,Z,g' _ _ ?_]
    clear g'
    refine bp (λcb=>?_) (λcb=>?_)
    ·refine#[_,Z,_,Z,_,Z,_,Z,p,n,Z,B7,Ic,Ic,λd8 H8 a0 c6 B8 e8=>?_]
     have r8:H8 r=some (.lst (ys.map V.str)):=by rw[e8 r m];exact r7
     have k8:ar p H H8:=k7.trans (ar.of_eq e8)
     refine#[r,_,d8,d8.toNat,Z,Z,r8,?_,?_]
     ·unfold lT
      rw[DB a0,Di,DB Ic]
     refine t _ _ #[Z,ys.set d8.toNat od,by rw[jc,nY],by rw[Gz];exact h1,#[λy hm=>?_,Y6 nd (rY (by have c0:(!mH (.str od) (ys.map V.str))=true:=cb;rw[Bool.not_eq_true']at c0;exact c0))],B8.eq (ji (DQ m)),k8.upd_own X]
     rcases List.mem_or_eq_of_mem_set hm with hm |hm
     ·exact d y hm
     ·rw[hm];exact h'
    ·exact t _ _ #[Z,ys,r7,h1,#[d,nd],B7,k7]
   ·exact t _ _ #[Z,ys,r6,h1,#[d,nd],B6,k6]
  obtain⟨a1,y0,r1,l1,y1,U,k1⟩:=b
  refine a _ _ ?_
  exact#[_,a1,q r y0 H1 X r1 l1 y1 U k1]
def ah(H h:Hp):Prop:=∀b x,H b=some (.tup x)->h b=some (.tup x)
theorem ae.tm(a:ae H c):ah H c:=λb x h=>a b _ h
theorem je{H:Hp}{o:HO}(n:H p=none):ae H (af H p o):=λb u e=>ao e n
theorem bV{b:Bool}{A B:Prop}(h:b=true)(x:A):if b=true then A else B:=by rw[DB h];exact x
theorem aO{b:Bool}{A B:Prop}(h:b=false)(x:B):if b=true then A else B:=by rw[h,DC Do];exact x
theorem aB:sizeLine=16777216:=by rw[Hh]
theorem am.same(B:am H p)(s:ae H c):am c p:=by
 refine aP λG k=>?_
 obtain⟨a,b,d,e,f,h⟩:=B.ob
 refine k ?_
 clear k
 exact#[a,b,d,e,f,s _ _ h]
theorem ar.of_same(s:ae H h):ar p H h:=λb o _ e=>s _ _ e
theorem ar.tm(k:ar p H h)(B:am H p):ah H h:=λb x e=>by
 refine aP λG d=>?_
 obtain⟨a,c,_,_,_,f⟩:=B.ob
 refine d ?_
 clear d
 exact k b _ (jI e f (by intro w;cases w)) e
theorem ar.none(k:ar p H h)(B:am h p)(n:h r=none):H r=none:=by
 cases z:H r with
 |none=>rfl
 |some o=>have:=k _ _ (B.ne n) z;rw[n]at this;cases this
theorem Y7{K:Frag}{a:Addr}{xs:List V}{t:TE}{Q:List V->Hp->Prop}(u:xs.length<=sizeLine)(Pv:Nat->List V->Hp->Prop)(l:Pv 0 [] H)
  (n:∀i Y h,Pv i Y h->aE K h a xs/\Y.length<=i) (o:∀i x Y h,xs[i]?=some x->Pv i Y h->t (some x::d) h λy c=>Pv (i+1) (Y++[y]) c) (q:∀Y h,Pv xs.length Y h->Q Y h):
  dM (uQ K a) 1 d (bf 0) hX t Q H:=by
 refine#[λi m Y h=>m=xs.length - i/\i<=xs.length/\Pv i Y h,#[xs.length,Ie,Dt _,l],?_]
 intro i m Y h f
 refine aP λG k=>?_
 obtain⟨rfl,z,p⟩:=f
 refine k ?_
 clear k
 obtain⟨g,A⟩:=n i Y h p
 by_cases b:i < xs.length
 ·refine .inr #[#[xs,xs[i],g,Dh b],Ic,Pv (i+1),λr c s=>#[xs.length - (i+1),Ic,Z,b,s],λv c T j y=>?_]
  obtain⟨e,y⟩:=y
  subst e
  obtain⟨w,rfl⟩:=oh j
  exact#[#[[some _],Z,Z],o i v Y c (y xs g) p]
 ·have e:i=xs.length:=by omega
  subst e
  exact .inl #[#[xs,g,Dk _],q Y h p]
theorem qj{K:Frag}{xs:List V}{t:TE}{Q:List V->Hp->Prop}(u:xs.length<=sizeLine)(Pv:Nat->List V->Hp->Prop)(l:Pv 0 [] H)
  (n:∀i Y h,Pv i Y h->aA K h a xs/\Y.length<=i) (o:∀i x Y h,xs[i]?=some x->Pv i Y h->t (some x::d) h λy c=>Pv (i+1) (Y++[y]) c) (q:∀Y h,Pv xs.length Y h->Q Y h):
  dM (uf K a) 1 d (bf 0) hX t Q H:=by
 refine#[λi m Y h=>m=xs.length - i/\i<=xs.length/\Pv i Y h,#[xs.length,Ie,Dt _,l],?_]
 intro i m Y h f
 refine aP λG k=>?_
 obtain⟨rfl,z,p⟩:=f
 refine k ?_
 clear k
 obtain⟨g,A⟩:=n i Y h p
 by_cases b:i < xs.length
 ·refine .inr #[#[xs,xs[i],g,Dh b],Ic,Pv (i+1),λr c s=>#[xs.length - (i+1),Ic,Z,b,s],λv c T j y=>?_]
  obtain⟨e,y⟩:=y
  subst e
  obtain⟨w,rfl⟩:=oh j
  exact#[#[[some _],Z,Z],o i v Y c (y xs g) p]
 ·have e:i=xs.length:=by omega
  subst e
  exact .inl #[#[xs,g,Dk _],q Y h p]
noncomputable abbrev ie:Stmt:=bn 54
noncomputable abbrev mz:Stmt:=bn 56
inductive Tm where
 |num (n:Int) |var (x:Str) |op (i:Nat) (a b:Tm)
noncomputable def Tm.depth:Tm->Nat
 | .num _=>0
 | .var _=>0
 | .op _ a b=>max a.depth b.depth+1
noncomputable def iE:Str:="+-*/<="
theorem nS:iE.length=6:=by decide+kernel
noncomputable def Bw(i:Nat):Str:=#[(List.toArray [iE.cps.toList.getD i 0])]
theorem ww(H:0<=d)(a:d < 6):dn iE.cps.toList d=some (iE.cps.toList.getD d.toNat 0):=by
 have b:iE.cps.toList.length=6:=by decide+kernel
 have h:d.toNat < iE.cps.toList.length:=by omega
 have e:d=((d.toNat:Nat):Int):=by omega
 have q:dn iE.cps.toList ((d.toNat:Nat):Int)=some (iE.cps.toList.getD d.toNat 0):=jO (by rw[Fn,Dh h];rfl)
 rw[<- e]at q
 exact q
def Tm.Good(y:List Str):Tm->Prop
 | .num n=>0<=n/\n < 1000000000000000000
 | .var x=>x∈y
 | .op i a b=>i < 6/\a.Good y/\b.Good y
def a6(H:Hp):Tm->Addr->Prop
 | .num n,p=>H p=some (.tup [.str "num",.int n])
 | .var x,p=>H p=some (.tup [.str "var",.str x])
 | .op i a b,p=>∃q r,H p=some (.tup [.str "op",.str (Bw i),.ref q,.ref r])/\a6 H a q/\a6 H b r
theorem a6.mono{H a:Hp}(h:∀b x,H b=some (.tup x)->a b=some (.tup x)):∀{t:Tm} {p:Addr},a6 H t p->a6 a t p
 | .num _,_,e=>h _ _ e
 | .var _,_,e=>h _ _ e
 | .op _ _ _,_,#[q,r,e,E,c]=>#[q,r,h _ _ e,a6.mono h E,a6.mono h c]
theorem a6.same(h:ae H a)(e:a6 H t p):a6 a t p:=e.mono λb x z=>h b _ z
theorem a6.but(B:am H p)(k:ar p H h)(e:a6 H t a):a6 h t a:=e.mono λb X z=>by
 refine aP λG c=>?_
 obtain⟨x,y,_,_,_,d⟩:=B.ob
 refine c ?_
 clear c
 exact k b _ (jI z d (by intro q;cases q)) z
theorem a6.new{H:Hp}{o:HO}(n:H r=none)(e:a6 H t a):a6 (af H r o) t a:=e.mono λb x z=>ao z n
def eP:Sp:=λv H Q _=>∃p:Addr,v=[.ref p]/\am H p/\∀(d:Int) (h:Hp),0<=d->d < 1000000000000000000->am h p->(∀b,b≠p->h b=H b)->Q (.int d) h
def cq(n:Nat):Sp:=λv H Q _=>∃(p g:Addr) (d:Int) (y:List Str),v=[.ref p,.ref g,.int d]/\am H p/\H g=some (.lst (y.map V.str))/\1<=y.length/\y.length<=20/\0<=d/\d < (n:Int)/\
 ∀(r:Addr) (T:Tm) (h:Hp),a6 h T r->(T.depth:Int)<=d->T.Good y->am h p->ar p H h->Q (.ref r) h
theorem zf{Y:List Str}(B:am H p)(h:H g=some (.lst (Y.map V.str))):g≠p:=by
 refine aP λG k=>?_
 obtain⟨x,y,_,_,_,b⟩:=B.ob
 refine k ?_
 clear k
 refine jI h b λz=>?_
 injection z with z
 match Y,z with
 |a::r,z=>injection z with c _;cases c
theorem pY:aj ["_law_box_here"] ["_law_box_here"] (aa ie):=bo
theorem Y8(F:aJ K "_law_number" "_law_number" ie f t)(C:Cl P w K mg base 1 I u ["_law_box_here","_law_wide"] aM "_law_take"):ai P w K mg base ax 2 f t ["_law_box_here"] eP:=by
 refine F.ok pY (λv H Q E h=>?_) (λx A o s H v Q E a h=>?_)
 ·obtain⟨p,rfl,_⟩:=h
  rfl
 refine aP λJ l=>?_
 obtain⟨p,rfl,B,q⟩:=h
 refine l ?_
 clear l
 refine#[_,(jd (jv (kE (C.e a (ja (pv 0) (ja jf jb)))) (jg (jl (C.e a (ja (pv 0) (ja (jr JV jf jf) jb))))) jm) (jg (jl (C.e a (ja (pv 0) (ja jf jb)))))),?_]
 refine#[_,Z,p,4,Z,B,Ib,Ib,λL M y G m r=>#[Z,_,Z,?_]]
 refine bp (λc=>?_) (λc=>?_)
 ·refine#[_,Z,_,_,Z,Z,#[Ib,Ib,Ib],p,_,Z,m,Ib,Ib,λD g d i j k=>?_]
  have z:=oM
  exact q D g d Ic j λb n=>(k b n).trans (r b n)
 ·refine#[_,Z,p,9,Z,m,Ib,Ib,λD g d i j k=>?_]
  exact q D g d Ic j λb n=>(k b n).trans (r b n)
theorem lI:aj ["_law_box_here","_law_names_here","_law_deep","_law_kind","_law_one"] ["_law_box_here","_law_names_here","_law_deep"] (aa mz):=bo
theorem sU(F:aJ K "_law_term" "_law_term" mz f fd)(cF:Cl P w K mg base (n+2) f fd ["_law_box_here","_law_names_here","_law_deep"] (cq n) "_law_term")(S:Cl P w K mg base 1 fT f0 ["_law_box_here","_law_wide"] aM "_law_take")(cN:Cl P w K mg base 2 fN f2 ["_law_box_here"] eP "_law_number")(ml:mg "len"=none):ai P w K mg base ax (n+3) f fd ["_law_box_here","_law_names_here","_law_deep"] (cq (n+1)):=by
 refine F.ok lI ?_ λc0 A T s H vs Q E u h=>?_
 ·rintro _ _ _ _ ⟨p,g,d,ys,rfl,_⟩
  rfl
 refine aP λGq kq=>?_
 obtain⟨p,g,d,ys,rfl,B,hg,v,x,h1,h2,q⟩:=h
 refine kq ?_
 clear kq
 refine#[_,(jd (jw 3 lI.nd (S.e u.m (ja (pv 0) (ja jf jb)))) (jd (jX (jv (PW.pt (KK (jz Jm (pv 3) jf (aF _)) (qY (PW.pt (JU (jz qA (pv 3) jf (aF _)) (qE (kE (pv 2)))))))) (jg (jl (jh (ja jk (ja (cN.e u.m (ja (pv 0) jb)) jb))))) jm)) (jd (jv (jz Jm (pv 3) jf (aF _)) (jg (jl (jh (ja jk (ja (jq jo (pv 1) (S.e u.m (ja (pv 0) (ja (jJ jK Z ml Eu (ja (pv 1) jb)) jb))) (λ_ _=>Z)) jb))))) jm) (jd (jw 4 lI.nd (cF.e u (ja (pv 0) (ja (pv 1) (ja (jr kB (pv 2) jf) jb))))) (jg (jl (jh (ja jk (ja (jq JW jk (S.e u.m (ja (pv 0) (ja jf jb))) (λ_ _=>Z)) (ja (pv 4) (ja (cF.e u (ja (pv 0) (ja (pv 1) (ja (jr kB (pv 2) jf) jb)))) jb))))))))))),?_]
 have b0:=zi
 have j:g≠p:=zf B hg
 refine ak λF1 l=>#[_,Z,p,6,Z,B,Ib,Ib,λM O k0 k1 R e1=>l _ _ ?_]
 clear l
 have k:O g=some (.lst (ys.map V.str)):=by rw[e1 g j];exact hg
 have U:ar p H O:=ar.of_eq e1
 have num:∀(D:Int) (a:Hp) (r:Addr),0<=D->D < 1000000000000000000->am a p->(∀b,b≠p->a b=O b)->a r=none->Q (.ref r) (af a r (.tup [.str "num",.int D])):=λD a r C I i o N=>
  q r (.num D) _ jc (by show((0:Nat):Int)<=d;omega) #[C,I] (i.upd_new N) ((U.trans (ar.of_eq o)).upd_new N)
 refine ak λF1 l=>df (λJ H'=>J=[some (.ref p),some (.ref g),some (.int d),some (.int M),none]/\H'=O/\(M<=3∨d≠0)) (λE2 eR fm=>?_) λJ H' W=>?_
 ·clear l
  refine my λG' G=>#[_,Z,_,_,Z,Z,_,Z,?_]
  refine bp (λc=>?_) (λc=>?_)
  ·refine G _ _ (iT ?_)
   show gM _ E2 _ _
   unfold gM
   rw[eR]
   exact#[_,Z,p,Z,R,λD a C I i o=>#[bG,λr N=>num D a r C I i o N]]
  refine#[_,Z,_,_,Z,Z,_,Z,?_]
  refine bp (λc2=>?_) (λc2=>?_)
  ·refine#[_,Z,Z,_,Z,G _ _ ?_]
   refine bp (λc3=>?_) (λc3=>?_)
   ·show gM _ E2 _ _
    unfold gM
    rw[eR]
    exact#[_,Z,p,Z,R,λD a C I i o=>#[bG,λr N=>num D a r C I i o N]]
   ·exact fm _ _ #[Z,Z,.inr λz=>c3 (by rw[z];rfl)]
  ·have c1:¬(3:Int) < M:=Ga (Bool.eq_false_iff.mpr c2)
   exact G _ _ (nC (fm _ _ #[Z,Z,.inl Ic]))
 obtain⟨rfl,eH,hk⟩:=W
 rw[eH]
 refine l _ _ ?_
 clear l
 refine ak λF1 l=>my λG' G=>#[_,Z,_,_,Z,Z,_,Z,G _ _ ?_]
 clear G
 refine bp (λc=>?_) (λc=>l _ _ ?_)
 ·-- a variable
  refine#[_,Z,_,Z,_,Z,g,_,Z,.inl (aE.of k),p,_,Z,R,by rw[Di];omega,by rw[Di];omega,λD a X L i o=>?_]
  rw[Di]at L
  obtain⟨y,hy,Y⟩:=qZ (ys:=ys) X L
  have t:a g=some (.lst (ys.map V.str)):=by rw[o g j];exact k
  refine#[g,_,_,_,Z,Z,aE.of t,Y,bG,λr N=>?_]
  exact q r (.var y) _ jc (by show((0:Nat):Int)<=d;omega) hy (i.upd_new N) ((U.trans (ar.of_eq o)).upd_new N)
 ·have c':¬M < (4:Int):=Ga (Bool.eq_false_iff.mpr c)
  have hd:d≠0:=hk.resolve_left Ic
  refine#[_,Z,_,Z,_,Z,_,_,Z,Z,p,g,d - 1,ys,Z,R,k,v,x,Ic,Ic,λr1 T1 a t1 d3 g0 i k2=>?_]
  have t:a g=some (.lst (ys.map V.str)):=k2 g _ j k
  refine#[_,Z,p,6,Z,i,Ib,Ib,λs3 H3 s0 s1 B3 e3=>?_]
  have h0:H3 g=some (.lst (ys.map V.str)):=by rw[e3 g j];exact t
  have k3:ar p a H3:=ar.of_eq e3
  refine#[iE,_,_,Z,Z,(by rw[nS];omega),ww s0 s1,?_]
  refine#[_,Z,_,Z,_,Z,_,Z,_,_,Z,Z,p,g,d - 1,ys,Z,B3,h0,v,x,Ic,Ic,λr2 T2 H4 t2 d4 g1 B4 k4=>?_]
  refine#[nk,λr N=>?_]
  have t0:a6 H4 T1 r1:=(t1.but i k3).but B3 k4
  refine q r (.op s3.toNat T1 T2) _ #[r1,r2,jc,t0.new N,t2.new N] ?_ #[Ic,g0,g1] (B4.upd_new N) (((U.trans k2).trans (k3.trans k4)).upd_new N)
  show((max T1.depth T2.depth+1:Nat):Int)<=d
  omega
theorem uH:ai P w K mg base ax 2 f e ["_law_box_here","_law_names_here","_law_deep"] (cq 0):=by
 have n:∀v H Q E,¬cq 0 v H Q E:=λv H Q E h=>by
  refine aP λG k=>?_
  obtain⟨p,g,d,y,_,_,_,_,_,i,b,_⟩:=h
  refine k ?_
  clear k
  have c:d < ((0:Nat):Int):=b
  omega
 exact#[λv H Q E h=>absurd h (n v H Q E),λA o s H a u v Q E _ _ _ _ h=>absurd h (n v H Q E)]
theorem uN(F:aJ K "_law_term" "_law_term" mz f a)(b:aw K a ["_law_box_here","_law_names_here","_law_deep"] [])(m:mg "_law_term"=some (.ref f))(c:Cl P w K mg base 1 g d ["_law_box_here","_law_wide"] aM "_law_take")(C:Cl P w K mg base 2 h e ["_law_box_here"] eP "_law_number")(M:mg "len"=none):
  ∀n:Nat,ai P w K mg base ax (n+2) f a ["_law_box_here","_law_names_here","_law_deep"] (cq n)
 |0=>uH
 |n+1=>sU F #[(uN F b m c C M n),b,F.kp,m] c C M
end K26
namespace K26
open PySem PySem.Spec PyProof.Rows L2
variable {P:Program}{w:World}{K:Frag}{mg:Str->Option Value}{base:Heap}
noncomputable def Tm.vars:Tm->List Str
 | .num _=>[]
 | .var x=>[x]
 | .op _ a b=>a.vars++b.vars
theorem j9:∀{t:Tm},t.Good y->∀x∈t.vars,x∈y
 | .num _,_,_,h=>nomatch h
 | .var _,g,_,h=>by rw[List.mem_singleton.mp h];exact g
 | .op _ _ _,g,_,h=>(List.mem_append.mp h).elim (j9 g.2.1 _) (j9 g.2.2 _)
theorem j3:∀{l m:List Str},l.Nodup->(∀x∈l,x∈m)->l.length<=m.length
 | [],_,_,_=>Dt _
 |x::l,m,n,h=>by
  rw[Gy]at n
  have H:=h x DA
  have q:=j3 (l:=l) (m:=m.erase x) n.2 λy a=>(List.mem_erase_of_ne (λe=>n.1 (by rw[<- e];exact a))).mpr (h y (DK _ a))
  rw[List.length_erase_of_mem H]at q
  have:0 < m.length:=List.length_pos_of_mem H
  rw[DU]
  omega
theorem Kl:∀{l m:List Str},l.Nodup->m.Nodup->(∀x,x∈l↔x∈m)->l.Perm m
 | [],[],_,_,_=>.nil
 | [],y::m,_,_,h=>absurd ((h y).mpr DA) Ie
 |x::l,m,n,N,h=>by
  rw[Gy]at n
  have a:x∈m:=(h x).mp DA
  refine(List.Perm.cons x (Kl n.2 (N.erase x) λy=>?_)).trans (List.perm_cons_erase a).symm
  rw[N.mem_erase_iff]
  constructor
  ·intro H
   exact#[λe=>n.1 (by rw[<- e];exact H),(h y).mp (DK _ H)]
  ·rintro ⟨b,H⟩
   exact(List.mem_cons.mp ((h y).mpr H)).resolve_left b
theorem Qd:∀{p:Str} {l:List Str},risingS p l=true->(p::l).Pairwise λa b=>a.cps.toList<=b.cps.toList
 |p,[],_=>by simp
 |p,x::r,h=>by
  have H:(!ltCps x.cps.toList p.cps.toList&&risingS x r)=true:=h
  rw[Ej]at H
  have i:=Qd H.2
  have c:p.cps.toList<=x.cps.toList:=by
   have z:=H.1
   rw[ltCps_eq]at z
   simpa using z
  rw[List.pairwise_cons]at i ⊢
  refine#[λy hy=>?_,List.pairwise_cons.mpr i]
  rcases List.mem_cons.mp hy with rfl |hy
  ·exact c
  ·exact List.le_trans c (i.1 y hy)
theorem Qe(h:sortedS l=true):l.Pairwise λa b=>a.cps.toList<=b.cps.toList:=by
 cases l with
 |nil=>exact .nil
 |cons x r=>exact Qd h
theorem Xg{l:List Str}(p:l.Perm m)(h:sortedS l=true)(H:sortedS m=true):l=m:=by
 refine List.Perm.eq_of_pairwise (λa b _ _ x y=>?_) (Qe h) (Qe H) p
 have e:=List.le_antisymm x y
 cases a
 cases b
 exact El Str.mk (Array.toList_inj.mp e)
inductive Lf where
 |rd (x:Str) (t:Addr) (T:Tm)
 |st (x:Str) (t:Addr) (T:Tm)
 |wr (t u:Addr) (T U:Tm)
 |cl (x f:Str) (q:Addr) (ts:List (Addr×Tm))
 |gv (t:Addr) (T:Tm)
def um(H:Hp):Lf->List V->Prop
 | .rd x t T,v=>v=[.str "read",.str x,.ref t]/\a6 H T t
 | .st x t T,v=>v=[.str "set",.str x,.ref t]/\a6 H T t
 | .wr t u T U,v=>v=[.str "write",.ref t,.ref u]/\a6 H T t/\a6 H U u
 | .cl x f q a,v=>v=[.str "call",.str x,.str f,.ref q]/\H q=some (.tup (a.map λc=>V.ref c.1))/\∀c∈a,a6 H c.2 c.1
 | .gv t T,v=>v=[.str "give",.ref t]/\a6 H T t
theorem um.mono(k:ah H a)(h:um H l v):um a l v:=by
 cases l with
 |rd x t T |st x t T |gv t T=>exact#[h.1,h.2.mono k]
 |wr t u T U=>exact#[h.1,h.2.1.mono k,h.2.2.mono k]
 |cl x f q d=>exact#[h.1,k _ _ h.2.1,λc b=>(h.2.2 c b).mono k]
inductive Bd where
 |nil
 |lf (p:Addr) (l:Lf) (r:Bd)
 |ite (p t:Addr) (T:Tm) (a b r:Bd)
 |loop (p t:Addr) (T:Tm) (a r:Bd)
noncomputable def Bd.app:Bd->Bd->Bd
 | .nil,s=>s
 | .lf p l r,s=>.lf p l (r.app s)
 | .ite p t T a b r,s=>.ite p t T a b (r.app s)
 | .loop p t T a r,s=>.loop p t T a (r.app s)
noncomputable def Bd.size:Bd->Nat
 | .nil=>0
 | .lf _ _ r=>r.size+1
 | .ite _ _ _ a b r=>a.size+b.size+r.size+1
 | .loop _ _ _ a r=>a.size+r.size+1
noncomputable def Bd.dep:Bd->Nat
 | .nil=>0
 | .lf _ _ r=>r.dep
 | .ite _ _ _ a b r=>max (max a.dep b.dep+1) r.dep
 | .loop _ _ _ a r=>max (a.dep+1) r.dep
def cw(y:List Str)(T:Tm):Prop:=T.Good y/\T.depth < 6
def Lf.Ok(y:List Str):Lf->Prop
 | .rd x _ T=>x∈y/\cw y T
 | .st x _ T=>x∈y/\cw y T
 | .wr _ _ T U=>cw y T/\cw y U
 | .cl x _ _ t=>x∈y/\t.length<=6/\∀c∈t,cw y c.2
 | .gv _ T=>cw y T
def Bd.Ok(y:List Str):Bd->Prop
 | .nil=>True
 | .lf _ l r=>l.Ok y/\r.Ok y
 | .ite _ _ T a b r=>cw y T/\a.Ok y/\b.Ok y/\r.Ok y
 | .loop _ _ T a r=>cw y T/\a.Ok y/\r.Ok y
abbrev gj:=List (Str×Nat)
def Lf.Cs(F:gj):Lf->Prop
 | .cl _ f _ t=>(f,t.length)∈F
 |_=>True
def Bd.Cs(F:gj):Bd->Prop
 | .nil=>True
 | .lf _ l r=>l.Cs F/\r.Cs F
 | .ite _ _ _ a b r=>a.Cs F/\b.Cs F/\r.Cs F
 | .loop _ _ _ a r=>a.Cs F/\r.Cs F
theorem JY{F:gj}:∀{a b:Bd},a.Cs F->b.Cs F->(a.app b).Cs F
 | .nil,_,_,h=>h
 | .lf _ _ _,_,h,k=>#[h.1,JY h.2 k]
 | .ite _ _ _ _ _ _,_,h,k=>#[h.1,h.2.1,JY h.2.2 k]
 | .loop _ _ _ _ _,_,h,k=>#[h.1,JY h.2 k]
theorem kc{F:gj}(k:∀f∈F,f∈G):∀{a:Bd},a.Cs F->a.Cs G
 | .nil,_=>trivial
 | .lf _ l _,h=>#[by cases l<;>first |exact k _ h.1 |trivial,kc k h.2]
 | .ite _ _ _ _ _ _,h=>#[kc k h.1,kc k h.2.1,kc k h.2.2]
 | .loop _ _ _ _ _,h=>#[kc k h.1,kc k h.2]
noncomputable def Lf.calls:Lf->gj
 | .cl _ f _ t=>[(f,t.length)]
 |_=>[]
noncomputable def Bd.calls:Bd->gj
 | .nil=>[]
 | .lf _ l r=>l.calls++r.calls
 | .ite _ _ _ a b r=>a.calls++(b.calls++r.calls)
 | .loop _ _ _ a r=>a.calls++r.calls
theorem zk:∀b:Bd,b.Cs b.calls
 | .nil=>trivial
 | .lf _ l r=>#[by cases l<;>first |exact List.mem_append_left _ List.mem_cons_self |trivial,kc (λ_ h=>List.mem_append_right _ h) (zk r)]
 | .ite _ _ _ a b r=>#[kc (λ_ h=>List.mem_append_left _ h) (zk a),kc (λ_ h=>List.mem_append_right _ (List.mem_append_left _ h)) (zk b),kc (λ_ h=>List.mem_append_right _ (List.mem_append_right _ h)) (zk r)]
 | .loop _ _ _ a r=>#[kc (λ_ h=>List.mem_append_left _ h) (zk a),kc (λ_ h=>List.mem_append_right _ h) (zk r)]
theorem zn{F:gj}:∀{b:Bd},b.Cs F->∀f∈b.calls,f∈F
 | .nil,_,_,h=>nomatch h
 | .lf _ l r,k,f,h=>(List.mem_append.mp h).elim (λh=>by cases l<;>first | (rw[List.mem_singleton.mp h];exact k.1) |exact nomatch h) (zn k.2 f)
 | .ite _ _ _ a b r,k,f,h=>(List.mem_append.mp h).elim (zn k.1 f) λh=>(List.mem_append.mp h).elim (zn k.2.1 f) (zn k.2.2 f)
 | .loop _ _ _ a r,k,f,h=>(List.mem_append.mp h).elim (zn k.1 f) (zn k.2 f)
theorem jT:∀(a b:Bd),(a.app b).size=a.size+b.size
 | .nil,b=>by show b.size=0+b.size;omega
 | .lf _ _ r,b=>by have:=jT r b;show(r.app b).size+1=r.size+1+b.size;omega
 | .ite _ _ _ x y r,b=>by have:=jT r b;show x.size+y.size+(r.app b).size+1=x.size+y.size+r.size+1+b.size;omega
 | .loop _ _ _ x r,b=>by have:=jT r b;show x.size+(r.app b).size+1=x.size+r.size+1+b.size;omega
theorem kY:∀(a b:Bd),(a.app b).dep=max a.dep b.dep
 | .nil,b=>(Nat.zero_max b.dep).symm
 | .lf _ _ r,b=>kY r b
 | .ite _ _ _ x y r,b=>by show max _ (r.app b).dep=max (max _ r.dep) b.dep;rw[kY r b,Nat.max_assoc]
 | .loop _ _ _ x r,b=>by show max _ (r.app b).dep=max (max _ r.dep) b.dep;rw[kY r b,Nat.max_assoc]
theorem JZ:∀{a b:Bd},a.Ok y->b.Ok y->(a.app b).Ok y
 | .nil,_,_,h=>h
 | .lf _ _ _,_,g,h=>#[g.1,JZ g.2 h]
 | .ite _ _ _ _ _ _,_,g,h=>#[g.1,g.2.1,g.2.2.1,JZ g.2.2.2 h]
 | .loop _ _ _ _ _,_,g,h=>#[g.1,g.2.1,JZ g.2.2 h]
def c8(H:Hp):Bd->List V->Prop
 | .nil,x=>x=[]
 | .lf p l r,x=>∃v y,x= .ref p::y/\H p=some (.tup v)/\um H l v/\c8 H r y
 | .ite p t T a b r,x=>∃q Q A B y,x= .ref p::y/\H p=some (.tup [.str "if",.ref t,.ref q,.ref Q])/\a6 H T t/\H q=some (.tup A)/\H Q=some (.tup B)/\c8 H a A/\c8 H b B/\c8 H r y
 | .loop p t T a r,x=>∃q A y,x= .ref p::y/\H p=some (.tup [.str "while",.ref t,.ref q])/\a6 H T t/\H q=some (.tup A)/\c8 H a A/\c8 H r y
theorem c8.mono(k:ah H m):∀{x:List V},c8 H a x->c8 m a x:=by
 induction a with
 |nil=>exactλh=>h
 |lf p l r n=>rintro x ⟨v,y,e,c,d,f⟩;exact#[v,y,e,k _ _ c,d.mono k,n f]
 |ite p t T a b r i o I=>rintro x ⟨q,Q,A,B,y,e,c,g,d,f,j,s,u⟩;exact#[q,Q,A,B,y,e,k _ _ c,g.mono k,k _ _ d,k _ _ f,i j,o s,I u]
 |loop p t T a r i I=>rintro x ⟨q,A,y,e,c,g,d,f,j⟩;exact#[q,A,y,e,k _ _ c,g.mono k,k _ _ d,i f,I j]
theorem c8.app{ys:List V}(k:c8 H b ys):∀{x:List V},c8 H a x->c8 H (a.app b) (x++ys):=by
 induction a with
 |nil=>intro x h;have e:x=[]:=h;rw[e];exact k
 |lf p l r I=>rintro x ⟨v,z,e,c,d,f⟩;exact#[v,z++ys,by rw[e];rfl,c,d,I f]
 |ite p t T a b r _ _ i=>rintro x ⟨q,Q,A,B,z,e,c,g,d,f,j,m,n⟩;exact#[q,Q,A,B,z++ys,by rw[e];rfl,c,g,d,f,j,m,i n]
 |loop p t T a r _ i=>rintro x ⟨q,A,z,e,c,g,d,f,j⟩;exact#[q,A,z++ys,by rw[e];rfl,c,g,d,f,i j]
theorem c8.len:∀{x:List V},c8 H a x->x.length<=a.size:=by
 induction a with
 |nil=>intro x h;have e:x=[]:=h;rw[e];exact Dk 0
 |lf p l r I=>rintro x ⟨v,y,e,d,f,c⟩;rw[e];exact Ey (I c)
 |ite p t T a b r _ _ i=>rintro x ⟨q,Q,A,B,y,e,d,j,f,c,g,m,k⟩;rw[e];exact Ey (Ds (i k) (Nat.le_add_left _ _))
 |loop p t T a r _ i=>rintro x ⟨q,A,y,e,d,j,f,c,g⟩;rw[e];exact Ey (Ds (i g) (Nat.le_add_left _ _))
inductive gg(H:Hp):V->Bd->Prop
 |lf (p:Addr) (l:Lf) (vs:List V) (h1:H p=some (.tup vs)) (h2:um H l vs):gg H (.ref p) (.lf p l .nil)
 |ite (p t:Addr) (T:Tm) (a b:Bd) (qa qb:Addr) (as bs:List V) (h1:H p=some (.tup [.str "if",.ref t,.ref qa,.ref qb])) (h0:a6 H T t) (h2:H qa=some (.tup as)) (h3:H qb=some (.tup bs)) (h4:c8 H a as) (h5:c8 H b bs):gg H (.ref p) (.ite p t T a b .nil)
 |loop (p t:Addr) (T:Tm) (a:Bd) (qa:Addr) (as:List V) (h1:H p=some (.tup [.str "while",.ref t,.ref qa])) (h0:a6 H T t) (h2:H qa=some (.tup as)) (h3:c8 H a as):gg H (.ref p) (.loop p t T a .nil)
theorem gg.bd(h:gg H v s):c8 H s [v]:=by
 cases h with
 |lf p l V c d=>exact#[V,[],Z,c,d,Z]
 |ite p t T a b q Q A B c e d f g i=>exact#[q,Q,A,B,[],Z,c,e,d,f,g,i,Z]
 |loop p t T a q A c e d f=>exact#[q,A,[],Z,c,e,d,f,Z]
theorem gg.mono(k:ah H g)(h:gg H v s):gg g v s:=by
 cases h with
 |lf p l V c d=>exact .lf p l V (k _ _ c) (d.mono k)
 |ite p t T a b q Q A B c e d f i j=>exact .ite p t T a b q Q A B (k _ _ c) (e.mono k) (k _ _ d) (k _ _ f) (i.mono k) (j.mono k)
 |loop p t T a q A c e d f=>exact .loop p t T a q A (k _ _ c) (e.mono k) (k _ _ d) (f.mono k)
theorem c8.last:∀{x:List V},c8 H a x->x=[]/\a= .nil∨∃z v b s,x=z++[v]/\a=b.app s/\c8 H b z/\gg H v s:=by
 induction a with
 |nil=>exactλh=>.inl #[h,Z]
 |lf p l r i=>
  rintro x ⟨u,y,e,f,g,n⟩
  rcases i n with ⟨E,d⟩ | ⟨z,v,b,s,E,d,j,k⟩
  ·exact .inr #[[],.ref p,.nil,.lf p l .nil,by rw[e,E];rfl,by rw[d];rfl,Z,.lf p l u f g]
  ·exact .inr #[.ref p::z,v,.lf p l b,s,by rw[e,E];rfl,by rw[d];rfl,#[u,z,Z,f,g,j],k]
 |ite p t T a b r _ _ i=>
  rintro x ⟨q,Q,A,B,y,e,f,m,g,n,G,C,o⟩
  rcases i o with ⟨E,d⟩ | ⟨z,v,c,s,E,d,j,k⟩
  ·exact .inr #[[],.ref p,.nil,.ite p t T a b .nil,by rw[e,E];rfl,by rw[d];rfl,Z,.ite p t T a b q Q A B f m g n G C]
  ·exact .inr #[.ref p::z,v,.ite p t T a b c,s,by rw[e,E];rfl,by rw[d];rfl,#[q,Q,A,B,z,Z,f,m,g,n,G,C,j],k]
 |loop p t T a r _ i=>
  rintro x ⟨q,A,y,e,f,m,g,G,o⟩
  rcases i o with ⟨E,d⟩ | ⟨z,v,c,s,E,d,j,k⟩
  ·exact .inr #[[],.ref p,.nil,.loop p t T a .nil,by rw[e,E];rfl,by rw[d];rfl,Z,.loop p t T a q A f m g G]
  ·exact .inr #[.ref p::z,v,.loop p t T a c,s,by rw[e,E];rfl,by rw[d];rfl,#[q,A,z,Z,f,m,g,G,j],k]
theorem zw:∀{a b:Bd},(a.app b).Ok y->a.Ok y/\b.Ok y
 | .nil,_,h=>#[DR,h]
 | .lf _ _ _,_,h=>#[#[h.1,(zw h.2).1],(zw h.2).2]
 | .ite _ _ _ _ _ _,_,h=>#[#[h.1,h.2.1,h.2.2.1,(zw h.2.2.2).1],(zw h.2.2.2).2]
 | .loop _ _ _ _ _,_,h=>#[#[h.1,h.2.1,(zw h.2.2).1],(zw h.2.2).2]
structure Nm(ss:List Str)(M:Str->Prop):Prop where
 nd:ss.Nodup
 so:sortedS ss=true
 mem:∀x,x∈ss↔M x
theorem Nm.uniq(h:Nm a M)(g:Nm s M):a=s:=Xg (Kl h.nd g.nd λx=>(h.mem x).trans (g.mem x).symm) h.so g.so
open Classical in
noncomputable def canon(M:Str->Prop):List Str:=if h:∃s,Nm s M then Classical.choose h else []
theorem Nm.canon(h:Nm s M):s=canon M:=by
 have e:∃s,Nm s M:=#[s,h]
 unfold K26.canon
 rw[dif_pos e]
 exact h.uniq (Classical.choose_spec e)
theorem Nm.len{s y:List Str}{M:Str->Prop}(h:Nm s M)(H:∀x,M x->x∈y):s.length<=y.length:=j3 h.nd λx a=>H x ((h.mem x).mp a)
def Lf.use(M:Str->Prop):Lf->Str->Prop
 | .rd x _ T,y=>(M y/\y≠x)∨y∈T.vars
 | .st x _ T,y=>(M y/\y≠x)∨y∈T.vars
 | .wr _ _ T U,y=>M y∨y∈T.vars∨y∈U.vars
 | .cl x _ _ t,y=>(M y/\y≠x)∨∃c∈t,y∈c.2.vars
 | .gv _ T,y=>y∈T.vars
def Bd.use:Bd->(Str->Prop)->Str->Prop
 | .nil,M=>M
 | .lf _ l r,M=>l.use (r.use M)
 | .ite _ _ T a b r,M=>λy=>(a.use (r.use M) y∨b.use (r.use M) y)∨y∈T.vars
 | .loop _ _ T a r,M=>λy=>(a.use (λ_=>False) y∨r.use M y)∨y∈T.vars
theorem JG:∀(a b:Bd) (M:Str->Prop),(a.app b).use M=a.use (b.use M)
 | .nil,_,_=>rfl
 | .lf _ l r,b,M=>by show l.use ((r.app b).use M)=l.use (r.use (b.use M));rw[JG r b M]
 | .ite _ _ T x y r,b,M=>by show(λz=>(x.use ((r.app b).use M) z∨y.use ((r.app b).use M) z)∨z∈T.vars)=λz=>(x.use (r.use (b.use M)) z∨y.use (r.use (b.use M)) z)∨z∈T.vars;rw[JG r b M]
 | .loop _ _ T x r,b,M=>by show(λz=>(x.use (λ_=>False) z∨(r.app b).use M z)∨z∈T.vars)=λz=>(x.use (λ_=>False) z∨r.use (b.use M) z)∨z∈T.vars;rw[JG r b M]
theorem Lf.use_in{M:Str->Prop}{l:Lf}(h:l.Ok Y)(a:∀x,M x->x∈Y):∀y,l.use M y->y∈Y:=by
 intro y H
 cases l with
 |rd x t T |st x t T=>exact H.elim (λz=>a y z.1) (j9 h.2.1 y)
 |wr t u T U=>exact H.elim (a y) λz=>z.elim (j9 h.1.1 y) (j9 h.2.1 y)
 |cl x f q d=>exact H.elim (λz=>a y z.1) λ#[c,b,z]=>j9 (h.2.2 c b).1 y z
 |gv t T=>exact j9 h.1 y H
theorem Bd.use_in:∀{b:Bd} {M:Str->Prop},b.Ok Y->(∀x,M x->x∈Y)->∀y,b.use M y->y∈Y
 | .nil,_,_,H,y,c=>H y c
 | .lf _ l r,_,h,H,y,c=>Lf.use_in h.1 (Bd.use_in h.2 H) y c
 | .ite _ _ T a b r,_,h,H,y,c=>c.elim (λz=>z.elim (Bd.use_in h.2.1 (Bd.use_in h.2.2.2 H) y) (Bd.use_in h.2.2.1 (Bd.use_in h.2.2.2 H) y)) (j9 h.1.1 y)
 | .loop _ _ T a r,_,h,H,y,c=>c.elim (λz=>z.elim (Bd.use_in h.2.1 (λ_ w=>w.elim) y) (Bd.use_in h.2.2 H y)) (j9 h.1.1 y)
end K26
namespace K26
open PySem PySem.Spec PyProof.Rows L2
variable {P:Program}{w:World}{K:Frag}{mg:Str->Option Value}{base:Heap}
noncomputable abbrev dC:Stmt:=bn 15
noncomputable abbrev wj:Stmt:=bn 17
noncomputable abbrev pq:Stmt:=bn 18
noncomputable abbrev ua:Stmt:=bn 19
noncomputable abbrev rW:Stmt:=bn 20
def cQ(n:Nat):Sp:=λv H Q _=>∃(a:Addr) (T:Tm) (y:List Str),v=[.ref a]/\a6 H T a/\T.depth < n/\T.Good y/\y.length<=21/\
 ∀(r:Addr) (s:List Str) (h:Hp),H r=none->h r=some (.lst (s.map V.str))->s.Nodup->(∀x,x∈s↔x∈T.vars)->sortedS s=true->ae H h->Q (.ref r) h
theorem ot:aj ["term"] ["term"] (aa dC):=bo
theorem tY{f:Addr}{o:FuncData}(F:aJ K "names_in" "names_in" dC f o){n:Nat}(C:Cl P w K mg base (n+1) f o ["term"] (cQ n) "names_in")(M:mg "set"=none)(p:mg "sorted"=none):ai P w K mg base ax (n+2) f o ["term"] (cQ (n+1)):=by
 refine F.ok ot (λvs H Q E h=>?_) (λc0 A O s H vs Q E v h=>?_)
 ·obtain⟨a,T,Y,rfl,_⟩:=h
  rfl
 obtain⟨a,T,Y,rfl,t,dp,g,j,q⟩:=h
 refine#[_,(jd (jv (j5 (jy (pv 0))) (jg (jl (jC jb))) jm) (jd (jv (j5 (jy (pv 0))) (jg (jl (jC (ja (jy (pv 0)) jb)))) jm) (jg (jl (jJ (zN Z) Z p boot_sorted (ja (jB (qy Z) Z M boot_set (ja (jr zT (C.e v (ja (jy (pv 0)) jb)) (C.e v (ja (jy (pv 0)) jb))) jb)) jb)))))),?_]
 cases T with
 |num m=>
  have b:H a=some (.tup [.str "num",.int m]):=t
  refine(js b Z #[Z,_,Z,bV Ig ?_])
  exact#[Ib,λr N=>q r [] _ N jc Gd (λx=>HG) Z (je N)]
 |var x=>
  have b:H a=some (.tup [.str "var",.str x]):=t
  refine(js b Z #[Z,_,Z,aO Ig ?_])
  refine(js b Z #[Z,_,Z,bV Ig ?_])
  exact(js b Z #[iR,λr N=>q r [x] _ N jc Ie (λy=>HG) Z (je N)])
 |op i B D=>
  obtain⟨p1,p2,b,h1,h2⟩:=t
  have d0:max B.depth D.depth+1 < n+1:=dp
  refine(js b Z #[Z,_,Z,aO Ig ?_])
  refine(js b Z #[Z,_,Z,aO Ig ?_])
  refine(js b Z #[p1,B,Y,Z,h1,Ic,g.2.1,j,λr1 S H1 n1 e1 d1 G o1 u=>?_])
  refine(js (u _ _ b) Z #[p2,D,Y,Z,h2.same u,Ic,g.2.2,j,λr2 k H2 n2 e2 d2 I o2 J=>?_])
  have l1:S.length<=21:=Ds (j3 d1 λx d=>j9 g.2.1 x ((G x).mp d)) j
  have l2:k.length<=21:=Ds (j3 d2 λx d=>j9 g.2.2 x ((I x).mp d)) j
  have b0:=zi
  refine#[r1,r2,_,_,Z,Z,J _ _ e1,e2,(by rw[Di,Di];omega),λc nc=>?_]
  refine#[c,S++k,Z,aE.of (by rw[jc,DJ]),(λL nd hs=>Ez (Ey (j3 nd hs)) (by rw[Dj];show S.length+k.length+1 < 4096;omega)),λl L nl dL R=>?_]
  have lL:=j3 dL λx d=>(R x).mp d
  rw[Dj]at lL
  refine#[l,L,Z,jc,Ic,λz ss U W dz oz=>?_]
  have X:ae H (af (af H2 c (.lst (S.map V.str++k.map V.str))) l (Bo P w l L)):=(u.trans J).trans ((je nc).trans (je nl))
  refine q z ss _ (X.free U) jc (W.nodup_iff.mpr dz) (λx=>?_) oz (X.trans (je U))
  rw[W.mem_iff,R x,FD,G x,I x]
  exact List.mem_append.symm
theorem sg:ai P w K mg base ax 1 f d ["term"] (cQ 0):=by
 have n:∀v H Q E,¬cQ 0 v H Q E:=λv H Q E h=>by
  obtain⟨a,T,y,_,_,c,_⟩:=h
  exact absurd c (F8 _)
 exact#[λv H Q E h=>absurd h (n v H Q E),λA o s H b u v Q E _ _ _ _ h=>absurd h (n v H Q E)]
theorem u7(F:aJ K "names_in" "names_in" dC f a)(b:aw K a ["term"] [])(c:mg "names_in"=some (.ref f))(m:mg "set"=none)(M:mg "sorted"=none):
  ∀n:Nat,ai P w K mg base ax (n+1) f a ["term"] (cQ n)
 |0=>sg
 |n+1=>tY F #[(u7 F b c m M n),b,F.kp,c] m M
noncomputable def Lf.own:Lf->List (Addr×Tm)
 | .rd _ t T=>[(t,T)]
 | .st _ t T=>[(t,T)]
 | .wr t u T U=>[(t,T),(u,U)]
 | .cl _ _ _ a=>a
 | .gv t T=>[(t,T)]
noncomputable def Bd.own:Bd->List (Addr×Tm)
 | .nil=>[]
 | .lf _ l _=>l.own
 | .ite _ t T _ _ _=>[(t,T)]
 | .loop _ t T _ _=>[(t,T)]
noncomputable def rT(c:Addr×Tm):V:=.ref c.1
def mj:Sp:=λa H Q _=>∃(v:V) (s:Bd),a=[v]/\gg H v s/\∀(r:Addr) (h:Hp),h r=some (.tup (s.own.map rT))->ae H h->Q (.ref r) h
theorem Ym:aT (a::b::r) (some 1) (some 2)=[b]:=by
 unfold aT
 have e:(1:Int)=((1:Nat):Int):=rfl
 have E:(2:Int)=((2:Nat):Int):=rfl
 rw[E,e,HT.sIx_nat,HT.sIx_nat,DU,DU]
 have c:min 1 (r.length+1+1)=1:=by omega
 have d:min 2 (r.length+1+1) - 1=1:=by omega
 rw[c,d]
 rfl
theorem vK:aj ["statement","word"] ["statement"] (aa wj):=bo
theorem yi{f:Addr}{j:FuncData}(F:aJ K "own_terms" "own_terms" wj f j):ai P w K mg base ax 1 f j ["statement"] mj:=by
 refine F.ok vK ?_ λC A o s H V Q E d h=>?_
 ·rintro _ _ _ _ ⟨v,s,rfl,_⟩
  rfl
 refine aP λJ k=>?_
 obtain⟨v,st,rfl,m,q⟩:=h
 refine k ?_
 clear k
 refine#[_,(jd (jw 1 vK.nd (jy (pv 0))) (jd (jv (jz zb (pv 1) (jh (ja jk (ja jk jb))) Z) (jg (jl (jL qh (pv 0) (jF jf) kK))) jm) (jd (jv (j5 (pv 1)) (jg (jl (jL qh (pv 0) (jF jf) kK))) jm) (jd (jv (j5 (pv 1)) (jg (jl (jy (pv 0)))) jm) (jg (jl (jL qh (pv 0) (jF jf) (jF jf)))))))),?_]
 cases m with
 |lf p l V c g=>
  cases l with
  |rd x t T |st x t T=>
   obtain⟨rfl,i⟩:=g
   refine(js c Z #[_,Z,bG,λl n=>#[l,_,Z,.inr (aA.of jc),Z,Z,_,Z,bV Ig ?_]])
   exact#[_,Z,_,Z,p,_,Z,ao c n,λr e d s=>q r e d ((je n).trans s)]
  |wr t u T U=>
   obtain⟨rfl,i,L⟩:=g
   refine(js c Z #[_,Z,bG,λl n=>#[l,_,Z,.inr (aA.of jc),Z,Z,_,Z,aO Ig ?_]])
   refine#[_,Z,Z,_,Z,bV Ig ?_]
   exact#[_,Z,_,Z,p,_,Z,ao c n,λr e d s=>q r e d ((je n).trans s)]
  |cl x M y N=>
   obtain⟨rfl,z,i⟩:=g
   refine(js c Z #[_,Z,bG,λl n=>#[l,_,Z,.inr (aA.of jc),Z,Z,_,Z,aO Ig ?_]])
   refine#[_,Z,Z,_,Z,aO Ig ?_]
   refine#[_,Z,Z,_,Z,bV Ig ?_]
   exact(js (ao c n) Z (q y _ (ao z n) (je n)))
  |gv t T=>
   obtain⟨rfl,i⟩:=g
   refine(js c Z #[_,Z,bG,λl n=>#[l,_,Z,.inr (aA.of jc),Z,Z,_,Z,aO Ig ?_]])
   refine#[_,Z,Z,_,Z,aO Ig ?_]
   refine#[_,Z,Z,_,Z,aO Ig ?_]
   exact#[_,Z,_,Z,_,Z,p,_,Z,ao c n,λr e d s=>q r e (by rw[Ym]at d;exact d) ((je n).trans s)]
 |ite p t T a b B O D R c G g I S W |loop p t T a B D c G g I=>
  refine(js c Z #[_,Z,bG,λl n=>#[l,_,Z,.inr (aA.of jc),Z,Z,_,Z,aO Ig ?_]])
  refine#[_,Z,Z,_,Z,aO Ig ?_]
  refine#[_,Z,Z,_,Z,aO Ig ?_]
  exact#[_,Z,_,Z,_,Z,p,_,Z,ao c n,λr e d s=>q r e (by rw[Ym]at d;exact d) ((je n).trans s)]
theorem Km{K:Frag}{a:Addr}{Y:List Str}{t:TT}{T:TE}{q:List V->Hp->Prop}{b:L2.St}{H:Hp}(f:Str->Bool)(L:Y.length<=1000)(A:H a=some (.lst (Y.map V.str)))
  (B:∀y g (Q:Bool->Hp->Prop),y∈Y->ae H g->(∀j,ae g j->Q (f y) j)->t (some (.str y)::b) g Q)
  (C:∀y g (Q:VK),y∈Y->Q (.str y) g->T (some (.str y)::b) g Q) (D:∀c,ae H c->q ((Y.filter f).map V.str) c):dM (uQ K a) 1 b (bf 0) t T q H:=by
 have F:=zi
 refine#[λi m n c=>m=Y.length - i/\i<=Y.length/\n=((Y.take i).filter f).map V.str/\ae H c,#[Y.length,Ie,Dt _,Ie,ae.refl H],?_]
 rintro i m n c ⟨rfl,M,rfl,k⟩
 have d:aE K c a (Y.map V.str):=aE.of (k _ _ A)
 by_cases h:i < Y.length
 ·have o:(Y.map V.str)[i]?=some (.str Y[i]):=by rw[DE,Dh h];rfl
  refine .inr #[#[_,_,d,o],?_,λz j=>z=((Y.take (i+1)).filter f).map V.str/\ae H j,λz j #[G,I]=>#[Y.length - (i+1),Ic,Z,h,G,I],λv j N l y=>?_]
  ·rw[Di]
   have:=GS f (Y.take i)
   rw[DG]at this
   omega
  obtain⟨e,y⟩:=y
  subst e
  have p:=y _ d
  rw[o]at p
  cases p
  obtain⟨w,rfl⟩:=oh l
  have r:Y[i]∈Y:=EK h
  have s:Y.take (i+1)=Y.take i++[Y[i]]:=by rw[D7,Dh h];rfl
  refine#[#[[some _],Z,Z],B Y[i] _ _ r k λJ u=>?_]
  cases x:f Y[i] with
  |true=>
   refine bV Z (C Y[i] J _ r #[?_,k.trans u])
   rw[s,List.filter_append,DJ]
   have E:[Y[i]].filter f=[Y[i]]:=by simp [x]
   rw[E]
   rfl
  |false=>
   refine aO Z #[?_,k.trans u]
   rw[s,List.filter_append,DJ]
   have E:[Y[i]].filter f=[]:=by simp [x]
   rw[E]
   simp
 ·have e:i=Y.length:=by omega
  subst e
  refine .inl #[#[_,d,Ie],?_]
  rw[EF (Dk _)]
  exact D c k
def Lf.bt(M:Str->Prop):Lf->Str->Prop
 | .rd x _ _,y=>M y/\y≠x
 | .st x _ _,y=>M y/\y≠x
 | .wr _ _ _ _,y=>M y
 | .cl x _ _ _,y=>M y/\y≠x
 | .gv _ _,_=>False
def Bd.bt(M:Str->Prop):Bd->Str->Prop
 | .nil,y=>M y
 | .lf _ l _,y=>l.bt M y
 | .ite _ _ _ a b _,y=>a.use M y∨b.use M y
 | .loop _ _ _ a _,y=>a.use (λ_=>False) y∨M y
theorem ZR(h:gg H v s)(M:Str->Prop)(y:Str):s.use M y↔s.bt M y∨∃c∈s.own,y∈c.2.vars:=by
 cases h with
 |lf p l V _ _=>
  cases l with
  |rd x t T |st x t T=>exact#[λz=>z.elim .inl λw=>.inr #[_,List.mem_singleton.mpr Z,w],λz=>z.elim .inl λ#[c,hc,w]=>.inr (by rw[List.mem_singleton.mp hc]at w;exact w)]
  |wr t u T U=>
   refine#[λz=>z.elim .inl λw=>.inr (w.elim (λw=>#[_,DA ..,w]) λw=>#[_,DK _ (List.mem_singleton.mpr Z),w]),λz=>z.elim .inl λ#[c,hc,w]=>.inr ?_]
   rcases List.mem_cons.mp hc with e |hc
   ·rw[e]at w;exact .inl w
   ·rw[List.mem_singleton.mp hc]at w;exact .inr w
  |cl x f q d=>exact HG
  |gv t T=>exact#[λw=>.inr #[_,List.mem_singleton.mpr Z,w],λz=>z.elim False.elim λ#[c,hc,w]=>by rw[List.mem_singleton.mp hc]at w;exact w]
 |ite p t T a b Q g A B _ _ _ _ _ _ |loop p t T a Q A _ _ _ _=>exact#[λz=>z.elim .inl λw=>.inr #[_,List.mem_singleton.mpr Z,w],λz=>z.elim .inl λ#[c,hc,w]=>.inr (by rw[List.mem_singleton.mp hc]at w;exact w)]
structure NL(H:Hp)(g:Addr)(ss:List Str)(M:Str->Prop)(ys:List Str):Prop where
 at':H g=some (.lst (ss.map V.str))
 nm:Nm ss M
 sub:∀x,M x->x∈ys
 y20:ys.length<=21
theorem NL.len{H:Hp}{g:Addr}{s:List Str}{M:Str->Prop}{y:List Str}(h:NL H g s M y):s.length<=21:=Ds (h.nm.len h.sub) h.y20
theorem NL.same(h:NL H g a M y)(s:ae H b):NL b g a M y:=#[s _ _ h.at',h.nm,h.sub,h.y20]
structure NU(H:Hp)(g:Addr)(ss:List Str)(M:Str->Prop)(ys:List Str):Prop where
 at':H g=some (.lst (ss.map V.str))
 nd:ss.Nodup
 mem:∀x,x∈ss↔M x
 sub:∀x,M x->x∈ys
 y20:ys.length<=21
theorem NL.nu(h:NL H g s M y):NU H g s M y:=#[h.at',h.nm.nd,h.nm.mem,h.sub,h.y20]
def vM(n:Nat):Sp:=λa H Q _=>∃(v:V) (g:Addr) (s:Bd) (S:List Str) (M:Str->Prop) (Y:List Str),a=[v,.ref g]/\gg H v s/\NL H g S M Y/\s.Ok Y/\s.dep < n+1/\s.size<=10000000/\
 ∀(r:Addr) (z:List Str) (h:Hp),h r=some (.lst (z.map V.str))->(∀y,y∈z↔s.bt M y)->z.length<=50->ae H h->Q (.ref r) h
def fj(n:Nat):Sp:=λa H Q _=>∃(v:V) (g:Addr) (s:Bd) (S:List Str) (M:Str->Prop) (y:List Str),a=[v,.ref g]/\gg H v s/\NL H g S M y/\s.Ok y/\s.dep < n+1/\s.size<=10000000/\
 ∀(r:Addr) (z:List Str) (h:Hp),H r=none->NL h r z (s.use M) y->ae H h->Q (.ref r) h
def gW(n:Nat):Sp:=λv H Q _=>∃(a g:Addr) (b:Bd) (x:List V) (s:List Str) (M:Str->Prop) (y:List Str),v=[.ref a,.ref g]/\H a=some (.tup x)/\c8 H b x/\NU H g s M y/\b.Ok y/\b.dep < n/\b.size<=10000000/\
 ∀(r:Addr) (z:List Str) (h:Hp),H r=none->NL h r z (b.use M) y->ae H h->Q (.ref r) h
theorem Nm.empty:Nm [] (λ_=>False):=#[Gd,Z,λx=>#[λh=>absurd h DO,False.elim]]
theorem uU:aj ["statement","behind","word"] ["statement","behind"] (aa pq):=bo
noncomputable def nQ:Scope:=#[.function,[(".0",.local),("name",.local),("statement",.free)],false,false,[]]
theorem yN:(["name","statement"]:List Str).Nodup:=by decide+kernel
theorem Av:aX ["statement","behind","word"] (aa pq) nQ ["name","statement"] 1 [0]:=nh
theorem ZS{L n:Nat}(F:aJ K "used_behind_terms" "used_behind_terms" pq f fd)(J:Cl P w K mg base L fA f0 ["body","behind"] (gW n) "used_ahead"):ai P w K mg base ax (L+1) f fd ["statement","behind"] (vM n):=by
 refine F.ok uU ?_ λc0 A O s H vs Q E R h=>?_
 ·rintro _ _ _ _ ⟨v,g,s,G,M,Y,rfl,_⟩
  rfl
 refine aP λGq kq=>?_
 obtain⟨v,g,st,G,M,Y,rfl,hs,c,W,hd,hz,q⟩:=h
 refine kq ?_
 clear kq
 refine#[_,(jd (jw 2 uU.nd (jy (pv 0))) (jd (jv (jz zb (pv 2) (jh (ja jk (ja jk (ja jk jb)))) Z) (jg (jl (@kO _ _ _ _ _ _ _ (["name","statement"]) (1) ([0]) _ _ _ _ Z (qf (pv 1)) Av (λ_ _ _ _ _=>(ju (i:=0) yN Z (Or.inl Z))) (λ_ _ _ _ _=>(@xP _ _ _ (jz uT (pv 0) (jq (r:=eX K) jW (pv 1) jf (λ_ _=>Z)) (aF _)))) (λ_ _ _ _ _=>(pv 0)) (by intro _;rfl)))) jm) (jd (jv (j5 (pv 2)) (jg (jl (jr zT (J.e R.m (ja (jy (pv 0)) (ja (pv 1) jb))) (J.e R.m (ja (jy (pv 0)) (ja (pv 1) jb)))))) jm) (jd (jv (j5 (pv 2)) (jg (jl (jr zT (J.e R.m (ja (jy (pv 0)) (ja (jC jb) jb))) (pv 1)))) jm) (jd (jv (j5 (pv 2)) (jg (jl (jC jb))) jm) (jg (jl (pv 1)))))))),?_]
 have g0:=c.len
 cases hs with
 |lf p l vs d B=>
  cases l with
  |rd x t T |st x t T=>
   obtain⟨rfl,X⟩:=B
   refine(js d Z #[_,Z,dP,λl N=>#[l,_,Z,.inr (aA.of jc),Z,Z,_,Z,bV Ig ?_]])
   have S:ae H (af H l (.tup [.str "set",.str "read",.str "call"])):=je N
   refine#[_,Z,g,Z,#[_,aE.of (S _ _ c.at')],Km (λy=>!decide (V.str y=V.str x)) Ic (S _ _ c.at') (λy I Q' hy k C=>?_) (λy I Q' hy C=>#[_,Z,C]) λH' k r j=>?_]
   ·exact#[_,Z,js (k _ _ (S _ _ d)) Z #[Z,_,Z,C _ (ae.refl _)]]
   ·refine q r _ _ jc (λy=>?_) (Ds (GS ..) Ic) ((S.trans k).trans (je j))
    rw[List.mem_filter,c.nm.mem y]
    exact and_congr_right λ_=>by simp
  |wr t u T U=>
   obtain⟨rfl,X,hU⟩:=B
   refine(js d Z #[_,Z,dP,λl N=>#[l,_,Z,.inr (aA.of jc),Z,Z,_,Z,aO Ig ?_]])
   refine#[_,Z,Z,_,Z,aO Ig ?_]
   refine#[_,Z,Z,_,Z,aO Ig ?_]
   refine#[_,Z,Z,_,Z,aO Ig ?_]
   exact#[_,Z,q g G _ (ao c.at' N) c.nm.mem Ic (je N)]
  |cl x f' q' ts=>
   obtain⟨rfl,h8,X⟩:=B
   refine(js d Z #[_,Z,dP,λl N=>#[l,_,Z,.inr (aA.of jc),Z,Z,_,Z,bV Ig ?_]])
   have S:ae H (af H l (.tup [.str "set",.str "read",.str "call"])):=je N
   refine#[_,Z,g,Z,#[_,aE.of (S _ _ c.at')],Km (λy=>!decide (V.str y=V.str x)) Ic (S _ _ c.at') (λy I Q' hy k C=>?_) (λy I Q' hy C=>#[_,Z,C]) λH' k r j=>?_]
   ·exact#[_,Z,js (k _ _ (S _ _ d)) Z #[Z,_,Z,C _ (ae.refl _)]]
   ·refine q r _ _ jc (λy=>?_) (Ds (GS ..) Ic) ((S.trans k).trans (je j))
    rw[List.mem_filter,c.nm.mem y]
    exact and_congr_right λ_=>by simp
  |gv t T=>
   obtain⟨rfl,X⟩:=B
   refine(js d Z #[_,Z,dP,λl N=>#[l,_,Z,.inr (aA.of jc),Z,Z,_,Z,aO Ig ?_]])
   refine#[_,Z,Z,_,Z,aO Ig ?_]
   refine#[_,Z,Z,_,Z,aO Ig ?_]
   refine#[_,Z,Z,_,Z,bV Ig ?_]
   exact#[gQ,λr j=>q r [] _ jc (λy=>#[λh=>absurd h DO,λh=>(show False from h).elim]) (Dt _) ((je N).trans (je j))]
 |ite p t T a b qa qb as bs d h0 B h3 h4 h5=>
  refine(js d Z #[_,Z,dP,λl N=>#[l,_,Z,.inr (aA.of jc),Z,Z,_,Z,aO Ig ?_]])
  refine#[_,Z,Z,_,Z,bV Ig ?_]
  have S:ae H (af H l (.tup [.str "set",.str "read",.str "call"])):=je N
  have h6:max (max a.dep b.dep+1) 0 < n+1:=hd
  have h7:a.size+b.size+0+1<=10000000:=hz
  refine(js (S _ _ d) Z #[_,Z,qa,g,a,as,G,M,Y,Z,S _ _ B,h4.mono (ae.tm S),(c.same S).nu,W.2.1,Ic,Ic,λr1 z1 I _ D k1=>?_])
  have z:=S.trans k1
  refine(js (z _ _ d) Z #[_,Z,qb,g,b,bs,G,M,Y,Z,z _ _ h3,h5.mono (ae.tm z),(c.same z).nu,W.2.2.1,Ic,Ic,λr2 z2 H2 _ n2 k2=>?_])
  have l1:=D.len
  have l2:=n2.len
  have b0:=zi
  refine#[r1,r2,_,_,Z,Z,k2 _ _ D.at',n2.at',by rw[Di,Di];omega,λr j=>q r (z1++z2) _ (by rw[jc,DJ]) (λy=>?_) (by rw[Dj];omega) ((z.trans k2).trans (je j))]
  rw[FD,D.nm.mem y,n2.nm.mem y]
  exact HG
 |loop p t T a qa as d h0 B h3=>
  refine(js d Z #[_,Z,dP,λl N=>#[l,_,Z,.inr (aA.of jc),Z,Z,_,Z,aO Ig ?_]])
  refine#[_,Z,Z,_,Z,aO Ig ?_]
  refine#[_,Z,Z,_,Z,bV Ig ?_]
  have S:ae H (af H l (.tup [.str "set",.str "read",.str "call"])):=je N
  have h6:max (a.dep+1) 0 < n+1:=hd
  have h7:a.size+0+1<=10000000:=hz
  refine(js (S _ _ d) Z #[gQ,λe ne=>?_])
  have z:=S.trans (je (o:=.lst []) ne)
  refine#[qa,e,a,as,[],λ_=>False,Y,Z,z _ _ B,h3.mono (ae.tm z),(NL.nu #[jc,Nm.empty,λ_ w=>w.elim,c.y20]),W.2.1,Ic,Ic,λr1 z1 I _ D k1=>?_]
  have l1:=D.len
  have s3:=z.trans k1
  have b0:=zi
  refine#[_,Z,r1,g,_,_,Z,Z,D.at',s3 _ _ c.at',by rw[Di,Di];omega,λr j=>q r (z1++G) _ (by rw[jc,DJ]) (λy=>?_) (by rw[Dj];omega) (s3.trans (je j))]
  rw[FD,D.nm.mem y,c.nm.mem y]
  exact HG
theorem x6(h:gg H v s):∀c∈s.own,a6 H c.2 c.1:=by
 cases h with
 |lf p l V _ d=>
  cases l with
  |rd x t T |st x t T |gv t T=>intro c hc;rw[List.mem_singleton.mp hc];exact d.2
  |wr t u T U=>
   intro c hc
   rcases List.mem_cons.mp hc with e |hc
   ·rw[e];exact d.2.1
   ·rw[List.mem_singleton.mp hc];exact d.2.2
  |cl x f q i=>exact d.2.2
 |ite p t T a b Q j A B _ g _ _ _ _ |loop p t T a Q A _ g _ _=>intro c hc;rw[List.mem_singleton.mp hc];exact g
theorem yk(h:gg H v s)(o:s.Ok y):s.own.length<=100/\∀c∈s.own,cw y c.2:=by
 have O:∀(t:Addr) (T:Tm),cw y T->[(t,T)].length<=100/\∀c∈[(t,T)],cw y c.2:=λt T h=>#[by show 1<=100;omega,λc hc=>by rw[List.mem_singleton.mp hc];exact h]
 cases h with
 |lf p l V _ g=>
  cases l with
  |rd x t T |st x t T=>exact O t T o.1.2
  |wr t u T U=>
   refine#[by show 2<=100;omega,λc hc=>?_]
   rcases List.mem_cons.mp hc with e |hc
   ·rw[e];exact o.1.1
   ·rw[List.mem_singleton.mp hc];exact o.1.2
  |cl x f q i=>exact#[Ds o.1.2.1 Ib,o.1.2.2]
  |gv t T=>exact O t T o.1
 |ite p t T a b Q j A B _ d _ _ _ _ |loop p t T a Q A _ d _ _=>exact O t T o.1
theorem zE:∀(a b c:Bd),(a.app b).app c=a.app (b.app c)
 | .nil,_,_=>rfl
 | .lf p l r,b,c=>by show Bd.lf p l ((r.app b).app c)=_;rw[zE r b c];rfl
 | .ite p t T x y r,b,c=>by show Bd.ite p t T x y ((r.app b).app c)=_;rw[zE r b c];rfl
 | .loop p t T x r,b,c=>by show Bd.loop p t T x ((r.app b).app c)=_;rw[zE r b c];rfl
theorem qI:∀(a:Bd),a.app .nil=a
 | .nil=>rfl
 | .lf p l r=>by show Bd.lf p l (r.app .nil)=_;rw[qI r]
 | .ite p t T x y r=>by show Bd.ite p t T x y (r.app .nil)=_;rw[qI r]
 | .loop p t T x r=>by show Bd.loop p t T x (r.app .nil)=_;rw[qI r]
inductive OI(v:V)(g r nl:Addr)(s:Bd)(M:Str->Prop)(H1:Hp)(i:Nat)(σ:L2.St)(H':Hp):Prop
 |mk (o3:Option V) (zs:List Str) (e0:σ=[some v,some (.ref g),some (.ref nl),o3]) (e1:H' nl=some (.lst (zs.map V.str))) (e2:∀y,y∈zs↔s.bt M y∨∃c∈s.own.take i,y∈c.2.vars) (e3:zs.length<=50+21*i) (e4:ar nl H1 H'):OI v g r nl s M H1 i σ H'
theorem nX:aj ["statement","behind","names","term"] ["statement","behind"] (aa ua):=bo
theorem ZT{L:Nat}(F:aJ K "used_ahead_of" "used_ahead_of" ua f fd)(cB:Cl P w K mg base (L+9) fB f0 ["statement","behind"] (vM n) "used_behind_terms")(cO:Cl P w K mg base 1 fO f2 ["statement"] mj "own_terms")(cN:Cl P w K mg base 7 fN f3 ["term"] (cQ 6) "names_in")(m0:mg "list"=none)(m2:mg "set"=none)(m3:mg "sorted"=none):ai P w K mg base ax (L+10) f fd ["statement","behind"] (fj n):=by
 refine F.ok nX ?_ λc0 A o1 s H vs Q E t h=>?_
 ·rintro _ _ _ _ ⟨v,g,s,ss,M,Y,rfl,_⟩
  rfl
 refine aP λGq D=>?_
 obtain⟨v,g,st,ss,M,Y,rfl,j,u,U,hd,hz,q⟩:=h
 refine D ?_
 clear D
 refine#[_,(jd (jw 2 nX.nd (jB qQ Z m0 boot_list (ja (cB.e t.m (ja (pv 0) (ja (pv 1) jb))) jb))) (jd (ke D0 Z (zS (cO.e t.m (ja (pv 0) jb))) (ju (i:=3) nX.nd Z (Or.inl Z)) (jg (jN (kh Dw Fx Fv Jg (pv 2) (ja (cN.e t.m (ja (pv 3) jb)) jb))))) (jg (jl (jJ (zN Z) Z m3 boot_sorted (ja (jB (qy Z) Z m2 boot_set (ja (pv 2) jb)) jb)))))),?_]
 refine ak λF1 C=>#[_,Z,_,Z,v,g,st,ss,M,Y,Z,j,u,U,hd,hz,λr1 G H1 e1 m1 l1 k1=>#[r1,_,Z,.inl (aE.of e1),λN I=>C _ _ ?_]]
 clear C
 have s2:ae H (af H1 N (.lst (G.map V.str))):=k1.trans (je I)
 have J:=j.mono (ae.tm s2)
 obtain⟨o2,O⟩:=yk j U
 have a:af H1 N (.lst (G.map V.str)) N=some (.lst (G.map V.str)):=jc
 have h0:H N=none:=k1.free I
 generalize af H1 N (.lst (G.map V.str))=H2 at s2 J a
 refine ak λF1 C=>?_
 refine dU λF kF=>#[_,Z,v,st,Z,J,λr H3 t W=>#[r,Z,#[_,aA.of t],kF _ _ ?_]]
 clear kF
 have r0:r≠N:=jI t (W _ _ a) (by intro z;cases z)
 have s3:=s2.trans W
 have b0:=zi
 refine J7 (K:=K) (xs:=st.own.map rT) (OI v g r N st M H3) #[_,G,Z,W _ _ a,λy=>?_,Ic,ar.refl] (λi σ H' hi h=>?_) ?_ (λσ H' h=>C _ _ ?_)
 ·rw[m1 y]
  exact#[.inl,λz=>z.elim (λw=>w) λ#[c,p,_]=>absurd p DO]
 ·obtain⟨_,_,_,_,_,_,k⟩:=h
  exact aA.of (k _ _ r0 t)
 ·clear C
  intro E _ i x σ H4 B fE Gq D h
  obtain⟨o3,X,rfl,h1,R,h3,k4⟩:=h
  rw[DE]at B
  cases p:st.own[i]? with
  |none=>rw[p]at B;cases B
  |some c=>
   rw[p]at B
   cases B
   refine D ?_
   clear D
   have cm:=Dx p
   have hi:i < st.own.length:=by
    rcases Gs i st.own.length with z |z
    ·exact z
    ·rw[Ex z]at p;cases p
   have tm:ah H3 H4:=λb xs e=>k4 b _ (jI e (W _ _ a) (by intro z;cases z)) e
   show mh _ E [some v,some (.ref g),some (.ref N),some (.ref c.1)] H4
   refine#[_,Z,.inl #[Z,_,aE.of h1],_,Z,c.1,c.2,Y,Z,((x6 j c cm).mono (ae.tm s3)).mono tm,(O c cm).2,(O c cm).1,u.y20,λr5 s5 H5 n5 e5 d5 m5 o5 k5=>?_]
   have l5:s5.length<=21:=Ds (j3 d5 λx B=>j9 (O c cm).1 x ((m5 x).mp B)) u.y20
   refine#[N,r5,_,_,Z,Z,k5 _ _ h1,e5,by rw[Di,Di];omega,fE _ _ #[_,X++s5,Z,by rw[jc,DJ],λy=>?_,by rw[Dj];omega,λb o nb e=>?_]]
   ·rw[FD,R y,m5 y,D7,p]
    refine#[λz=>z.elim (λz=>z.elim .inl λ#[d,hd,w]=>.inr #[d,Ep _ hd,w]) λw=>.inr #[c,Dv _ (List.mem_singleton.mpr Z),w],λz=>z.elim (λw=>.inl (.inl w)) λ#[d,hd,w]=>?_]
    rcases List.mem_append.mp hd with hd |hd
    ·exact .inl (.inr #[d,hd,w])
    ·have ed:d=c:=List.mem_singleton.mp hd
     rw[ed]at w
     exact .inr w
   ·rw[ji nb]
    exact k5 _ _ (k4 b o nb e)
 ·obtain⟨o3,X,rfl,h1,R,h3,k4⟩:=h
  clear C
  rw[Di]at R h3
  have s4:ae H H':=λb o e=>k4 b o (jj e h0) (s3 _ _ e)
  refine#[_,Z,N,X,Z,aE.of h1,(λL nd j=>Ez (Ey (j3 nd j)) (by show X.length+1 < 4096;omega)),λl L S h4 hm=>?_]
  have sub:∀y∈L,y∈Y:=λy hy=>Bd.use_in U u.sub y ((ZR j M y).mpr (by have:=(R y).mp ((hm y).mp hy);rwa [DY]at this))
  have lL:=Ds (j3 h4 sub) u.y20
  refine#[l,L,Z,jc,Ic,λr' s0 T pm nd so=>?_]
  refine q r' s0 _ ((s4.trans (je S)).free T) #[jc,#[pm.nodup_iff.mpr nd,so,λy=>?_],Bd.use_in U u.sub,u.y20] ((s4.trans (je S)).trans (je T))
  rw[pm.mem_iff,hm y,R y,ZR j M y,DY]
theorem none_of(s:ae H h)(n:h r=none):H r=none:=by
 cases z:H r with
 |none=>rfl
 |some o=>have:=s _ _ z;rw[n]at this;cases this
inductive UI(a g:Addr)(b:Bd)(xs:List V)(M:Str->Prop)(ys:List Str)(H:Hp)(i:Nat)(σ:L2.St)(H':Hp):Prop
 |mk (g':Addr) (o3:Option V) (pre eh:Bd) (zs:List Str) (e0:σ=[some (.ref a),some (.ref g),some (.ref g'),o3]) (e1:b=pre.app eh) (e2:c8 H pre (xs.take (xs.length - i))) (e3:NL H' g' zs (eh.use M) ys) (e4:ae H H') (e5:H g'=none):UI a g b xs M ys H i σ H'
theorem mf:aj ["body","behind","names","statement"] ["body","behind"] (aa rW):=bo
theorem yD{L:Nat}(F:aJ K "used_ahead" "used_ahead" rW f fd)(cU:Cl P w K mg base (L+10) fU f0 ["statement","behind"] (fj n) "used_ahead_of")(J:mg "sorted"=none)(N:mg "reversed"=none):ai P w K mg base ax (L+11) f fd ["body","behind"] (gW (n+1)):=by
 refine F.ok mf ?_ λc0 A O s H vs Q E hr h=>?_
 ·rintro _ _ _ _ ⟨a,g,b,xs,R,M,Y,rfl,_⟩
  rfl
 refine aP λGq p=>?_
 obtain⟨a,g,b,xs,R,M,Y,rfl,ha,hb,d,ho,hd,hz,q⟩:=h
 refine p ?_
 clear p
 refine#[_,(jd (jw 2 mf.nd (jJ QF Z J boot_sorted (ja (pv 1) jb))) (jd (ke D0 Z (@ZM _ _ _ _ _ _ _ Z N boot_reversed (pv 0) Ib Ib Ih Ih) (ju (i:=3) mf.nd Z (Or.inl Z)) (jg (jw 2 mf.nd (cU.e hr.m (ja (pv 3) (ja (pv 2) jb)))))) (jg (jl (pv 2))))),?_]
 have g0:R.length<=21:=Ds (j3 d.nd λx o=>d.sub x ((d.mem x).mp o)) d.y20
 have b0:=aB
 refine ak λF1 t=>#[_,Z,g,R,Z,aE.of d.at',Ic,λl c nl pm so=>t _ _ ?_]
 clear t
 have T:Nm c M:=#[pm.nodup_iff.mpr d.nd,so,λx=>pm.mem_iff.trans (d.mem x)]
 have U:ae H (af H l (.lst (c.map V.str))):=je nl
 have u:NL (af H l (.lst (c.map V.str))) l c M Y:=#[jc,T,d.sub,d.y20]
 generalize af H l (.lst (c.map V.str))=H1 at U u
 have xl:=hb.len
 refine ak λF1 t=>?_
 refine dU λF kF=>#[_,Z,a,xs,Z,aA.of (U _ _ ha),kF _ _ ?_]
 clear kF
 refine QT (K:=K) (xs:=xs) (UI a g b xs M Y H) #[l,_,b,.nil,c,Z,(qI b).symm,by rw[Hk,DY];exact hb,u,U,nl] (λi σ H' hi h=>?_) ?_ (λσ H' h=>t _ _ ?_)
 ·obtain⟨_,_,_,_,_,_,_,_,_,k,_⟩:=h
  exact aA.of (k _ _ ha)
 ·clear t
  intro E _ i x σ H2 o fE Gq p h
  obtain⟨I,o3,pre,eh,W,rfl,j,y,X,B,n2⟩:=h
  have hi:i < xs.length:=by
   rcases Gs i xs.length with z |z
   ·exact z
   ·rw[Ex (by simpa using z)]at o;cases o
  rw[FV hi]at o
  have et:xs.take (xs.length - i)=xs.take (xs.length - (i+1))++[x]:=by
   have C:xs.length - i=(xs.length - 1 - i)+1:=by omega
   have e2:xs.length - (i+1)=xs.length - 1 - i:=by omega
   rw[C,e2,D7,o]
   rfl
  rw[et]at y
  rcases y.last with ⟨e,_⟩ | ⟨ws,v,D,S,C,e2,h4,h5⟩
  ·exact absurd e Ie
  obtain⟨ew,ev⟩:=List.append_inj' C Z
  cases ev
  subst e2
  have h0:=zw (j▸ho)
  have G:=zw h0.1
  have a1:b.dep=max (D.app S).dep eh.dep:=by rw[j,kY]
  have a2:(D.app S).dep=max D.dep S.dep:=kY ..
  have h6:S.dep<=b.dep:=by rw[a1,a2];exact Ds (Hv ..) (HA ..)
  clear a1 a2
  have h7:S.size<=b.size:=by rw[j,jT,jT];omega
  refine p ?_
  clear p
  show dD _ _ E [some (.ref a),some (.ref g),some (.ref I),some x] H2
  refine#[_,Z,_,Z,x,I,S,W,eh.use M,Y,Z,h5.mono (ae.tm B),X,G.2,Ic,Ic,λr z H3 nr n3 k3=>fE _ _ #[r,_,D,S.app eh,z,Z,by rw[j,zE],?_,by rw[JG];exact n3,B.trans k3,none_of B nr]]
  rw[ew]
  exact h4
 ·obtain⟨I,o3,pre,eh,W,rfl,j,y,X,B,n2⟩:=h
  rw[Gr]at y
  have ep:pre= .nil:=by
   rcases y.last with ⟨_,e⟩ | ⟨ws,v,D,S,C,_⟩
   ·exact e
   ·exact absurd C Ie
  rw[ep]at j
  refine#[_,Z,q I W H' n2 ?_ B]
  rw[j]
  exact X
theorem yG:ai P w K mg base ax k f e ["body","behind"] (gW 0):=by
 have n:∀v H Q E,¬gW 0 v H Q E:=λv H Q E h=>by
  obtain⟨a,g,b,x,S,M,y,_,_,_,_,_,d,_⟩:=h
  exact absurd d (F8 _)
 exact#[λv H Q E h=>absurd h (n v H Q E),λA o s H c u v Q E _ _ _ _ h=>absurd h (n v H Q E)]
theorem AC(F:aJ K "used_ahead" "used_ahead" rW f e)(FB:aJ K "used_behind_terms" "used_behind_terms" pq r g)(d:aJ K "used_ahead_of" "used_ahead_of" ua o b)
  (B:aw K e ["body","behind"] []) (i:mg "used_ahead"=some (.ref f)) (j:aw K g ["statement","behind"] []) (k:mg "used_behind_terms"=some (.ref r)) (p:aw K b ["statement","behind"] []) (q:mg "used_ahead_of"=some (.ref o)) (C:Cl P w K mg base 1 u s ["statement"] mj "own_terms") (l:Cl P w K mg base 7 v t ["term"] (cQ 6) "names_in") (M:mg "list"=none) (a:mg "set"=none) (m:mg "sorted"=none) (c:mg "reversed"=none):
  ∀n:Nat,ai P w K mg base ax (3*n+8) f e ["body","behind"] (gW n)/\ai P w K mg base ax (3*n+10) o b ["statement","behind"] (fj n)
 |0=>by
  have h:ai P w K mg base ax 8 f e ["body","behind"] (gW 0):=yG
  have H:=ZS (L:=8) (n:=0) FB #[h,B,F.kp,i]
  exact#[h,ZT (L:=0) d #[H,j,FB.kp,k] C l M a m]
 |n+1=>by
  have I:=(AC F FB d B i j k p q C l M a m c n).2
  have h:=yD (L:=3*n) F #[I,p,d.kp,q] m c
  have E:3*n+11=3*(n+1)+8:=by omega
  rw[E]at h
  have H:=ZS (L:=3*(n+1)+8) (n:=n+1) FB #[h,B,F.kp,i]
  exact#[h,ZT (L:=3*(n+1)) d #[H,j,FB.kp,k] C l M a m]
noncomputable abbrev xK:Stmt:=bn 22
noncomputable abbrev pw:Stmt:=bn 25
noncomputable abbrev nL:Stmt:=bn 26
noncomputable abbrev hV:Stmt:=bn 27
noncomputable abbrev nR:Stmt:=bn 28
noncomputable def Lf.cut:Lf->Nat
 | .st _ _ _=>0
 | .gv _ _=>0
 |_=>1
noncomputable def Bd.cuts:Bd->Nat
 | .nil=>0
 | .lf _ l r=>l.cut+r.cuts
 | .ite _ _ _ a b r=>1+a.cuts+b.cuts+r.cuts
 | .loop _ _ _ a r=>1+a.cuts+r.cuts
noncomputable def Bd.inn:Bd->Bd
 | .ite _ _ _ a b _=>a.app b
 | .loop _ _ _ a _=>a
 |_=>.nil
theorem zD:∀(a b:Bd),(a.app b).cuts=a.cuts+b.cuts
 | .nil,b=>by show b.cuts=0+b.cuts;omega
 | .lf _ l r,b=>by have:=zD r b;show l.cut+(r.app b).cuts=l.cut+r.cuts+b.cuts;omega
 | .ite _ _ _ x y r,b=>by have:=zD r b;show 1+x.cuts+y.cuts+(r.app b).cuts=1+x.cuts+y.cuts+r.cuts+b.cuts;omega
 | .loop _ _ _ x r,b=>by have:=zD r b;show 1+x.cuts+(r.app b).cuts=1+x.cuts+r.cuts+b.cuts;omega
def ms:Sp:=λa H Q _=>∃(v:V) (s:Bd),a=[v]/\gg H v s/\s.size<=10000000/\∀(r:Addr) (x:List V) (h:Hp),h r=some (.tup x)->c8 h s.inn x->ae H h->Q (.ref r) h
def gB:Sp:=λv H Q _=>∃(a:Addr) (b:Bd) (x:List V),v=[.ref a]/\H a=some (.tup x)/\c8 H b x/\b.size<=10000000/\∀h,ae H h->Q (.int (b.cuts:Int)) h
theorem yY:aj ["statement"] ["statement"] (aa xK):=bo
theorem wt(F:aJ K "bodies_in" "bodies_in" xK f y):ai P w K mg base ax 1 f y ["statement"] ms:=by
 refine F.ok yY ?_ λC A o s H V Q E j h=>?_
 ·rintro _ _ _ _ ⟨v,s,rfl,_⟩
  rfl
 refine aP λO k=>?_
 obtain⟨v,st,rfl,z,B,q⟩:=h
 refine k ?_
 clear k
 refine#[_,(jd (jv (j5 (jy (pv 0))) (jg (jl (jr j4 (jy (pv 0)) (jy (pv 0))))) jm) (jd (jv (j5 (jy (pv 0))) (jg (jl (jy (pv 0)))) jm) (jg (jl (jh jb))))),?_]
 have D:=aB
 cases z with
 |lf p l V c d=>
  cases l with
  |rd x t T |st x t T |wr t u T U |cl x f R S |gv t T=>
   obtain⟨rfl,_⟩:=d
   refine(js c Z #[Z,_,Z,aO Ig ?_])
   refine(js c Z #[Z,_,Z,aO Ig ?_])
   exact#[gQ,λr N=>q r [] _ jc Z (je N)]
 |ite p t T a b e G g I c J d i m n=>
  refine(js c Z #[Z,_,Z,bV Ig ?_])
  have L:a.size+b.size+0+1<=10000000:=B
  have W:=m.len
  have X:=n.len
  exact(js c Z (js c Z #[e,G,g,I,Z,Z,d,i,Ic,λr M j s=>q r _ M j ((n.mono (ae.tm s)).app (m.mono (ae.tm s))) s]))
 |loop p t T a e g c J d i=>
  refine(js c Z #[Z,_,Z,aO Ig ?_])
  refine(js c Z #[Z,_,Z,bV Ig ?_])
  exact(js c Z (q e g H d i (ae.refl H)))
theorem tN(h:gg H v s):s.inn.size < s.size/\∃(p:Addr) (w:Str) (r:List V),v= .ref p/\H p=some (.tup (.str w::r))/\s.cuts=(if mH (.str w) [.str "set",.str "give"]=true then 0 else 1)+s.inn.cuts:=by
 cases h with
 |lf p l i c d=>
  refine#[Nat.zero_lt_succ _,?_]
  cases l with
  |rd x t T |wr t u T U |cl x f Q j=>obtain⟨rfl,_⟩:=d;exact#[p,_,_,Z,c,by rw[DC Ig];rfl]
  |st x t T |gv t T=>obtain⟨rfl,_⟩:=d;exact#[p,_,_,Z,c,by rw[DB Ig];rfl]
 |ite p t T a b q k A B c e d g m n=>
  refine#[by show(a.app b).size < a.size+b.size+0+1;rw[jT];omega,p,_,_,Z,c,?_]
  rw[DC Ig]
  show 1+a.cuts+b.cuts+0=1+(a.app b).cuts
  rw[zD]
  omega
 |loop p t T a q A c e d g=>
  refine#[by show a.size < a.size+0+1;omega,p,_,_,Z,c,?_]
  rw[DC Ig]
  show 1+a.cuts+0=1+a.cuts
  omega
theorem gZ:dn (v::y) 0=some v:=jO (j:=0) Z
inductive MI(a td:Addr)(b:Bd)(H:Hp)(m:Nat)(σ:L2.St)(H':Hp):Prop
 |mk (o3:Option V) (W:Bd) (zs:List V) (k:Nat) (e0:m=W.size) (e1:σ=[some (.ref a),some (.int (k:Int)),some (.ref td),o3]) (e2:H' td=some (.lst zs)) (e3:c8 H' W zs) (e4:k+W.cuts=b.cuts) (e5:W.size<=10000000) (e6:ar td H H'):MI a td b H m σ H'
theorem gq:aj ["body","many","todo","statement"] ["body"] (aa pw):=bo
theorem rP(F:aJ K "many_cuts" "many_cuts" pw f fd)(cB:Cl P w K mg base 1 fB f0 ["statement"] ms "bodies_in")(m0:mg "list"=none):ai P w K mg base ax 2 f fd ["body"] gB:=by
 refine F.ok gq ?_ λc0 A o1 s H vs Q E hr h=>?_
 ·rintro _ _ _ _ ⟨a,b,xs,rfl,_⟩
  rfl
 refine aP λGq y=>?_
 obtain⟨a,b,xs,rfl,ha,hb,hz,q⟩:=h
 refine y ?_
 clear y
 refine#[_,(jd (jw 1 gq.nd jf) (jd (jw 2 gq.nd (jB qQ Z m0 boot_list (ja (pv 0) jb))) (jd (QO D0 (@Z4 _ _ _ (pv 2) (λ_=>Z)) (jd (jw 3 gq.nd (xQ Dw PySem.F.slot_list_pop PySem.F.type_list_pop yq (pv 2))) (jd (jX (jv (jz qP (jy (pv 3)) (jh (ja jk (ja jk jb))) Z) (jg (wz (i:=1) gq.nd Z (Or.inl Z) jf xF)) jm)) (jg (jN (kh Dw Fx Fv XO (pv 2) (ja (cB.e hr.m (ja (pv 3) jb)) jb))))))) (jg (jl (pv 1)))))),?_]
 have b0:=aB
 refine ak λU d=>d _ _ ?_
 clear d
 refine ak λU d=>#[_,Z,a,_,Z,.inr (aA.of ha),λt C=>d _ _ ?_]
 clear d
 have s0:ae H (af H t (.lst xs)):=je C
 refine ak λU d=>?_
 refine oE (MI a t b H) b.size #[_,b,xs,0,Z,Z,jc,hb.mono (ae.tm s0),Ic,hz,λc o N e=>s0 _ _ e] ?_
 intro m σ D E _ fE F X Y Gq y h
 obtain⟨o3,W,zs,k,rfl,rfl,x,h2,h3,h4,h5⟩:=h
 refine y #[_,Z,!zs.isEmpty,.inl #[zs,aE.of x,Z],?_]
 clear y
 rcases h2.last with ⟨e1,e2⟩ | ⟨g,v,B,n,e1,e2,g1,g2⟩
 ·rw[e1]
  refine Y _ (d _ _ #[_,Z,?_])
  rw[e2]at h3
  have e3:k=b.cuts:=by have:k+0=b.cuts:=h3;omega
  rw[e3]
  exact q _ λc o e=>h5 c o (jj e C) e
 ·rw[e1]
  have ne:(!(g++[v]).isEmpty)=true:=by cases g<;>rfl
  rw[ne]
  refine X _ ?_
  clear Y X d
  have h6:W.size=B.size+n.size:=by rw[e2,jT]
  have h7:W.cuts=B.cuts+n.cuts:=by rw[e2,zD]
  obtain⟨h8,p,w',r,rfl,hp,hc⟩:=tN g2
  rw[e1]at x
  refine ak λU d=>#[_,Z,.inl #[Z,_,aE.of x],t,_,.ref p,Z,Z,x,Ie,d _ _ ?_]
  clear d
  rw[List.dropLast_concat]
  have T:ah D (af D t (.lst g)):=λc ys e=>by rw[ji (jI e x (by intro z;cases z))];exact e
  have t2:af D t (.lst g) t=some (.lst g):=jc
  have u:=g1.mono T
  have I:=g2.mono T
  have J:=T _ _ hp
  have k2:ar t H (af D t (.lst g)):=λc o N e=>by rw[ji N];exact h5 c o N e
  generalize af D t (.lst g)=H2 at t2 u I J k2
  clear T x h2 h5 g1 g2 hp
  have R:∀(j:Nat) (H3:Hp),ae H2 H3->j+B.cuts+n.inn.cuts=b.cuts->mh (BC K "list" (iV K) (aU 2) (al (dq ms [] E0 (al (aU 3) aI)) aI)) E [some (.ref a),some (.int (j:Int)),some (.ref t),some (.ref p)] H3:=λj H3 L hk=>by
   have g0:=I.mono (ae.tm L)
   refine#[_,Z,.inl #[Z,_,aE.of (L _ _ t2)],_,Z,.ref p,n,Z,g0,Ic,λr' ys H4 h0 hy s4=>?_]
   have S:=L.trans s4
   have l1:=u.len
   have l2:=hy.len
   refine#[t,r',g,ys,Z,Z,S _ _ t2,aA.of h0,Ic,fE (B.app n.inn).size _ _ (by rw[jT];omega) #[_,B.app n.inn,g++ys,j,Z,Z,jc,?_,by rw[zD];omega,by rw[jT];omega,λc o N e=>?_]]
   ·have M:ah H4 (af H4 t (.lst (g++ys))):=λc z0 e=>by rw[ji (jI e (S _ _ t2) (by intro z;cases z))];exact e
    exact(hy.mono M).app ((u.mono (ae.tm S)).mono M)
   ·rw[ji N]
    exact S _ _ (k2 c o N e)
  refine ak λU d=>df (λO H'=>∃j:Nat,O=[some (.ref a),some (.int (j:Int)),some (.ref t),some (.ref p)]/\ae H2 H'/\j+B.cuts+n.inn.cuts=b.cuts) (λE2 _ fm=>?_) λO H' h=>?_
  ·clear d fE
   refine vE λG X Y=>(js J gZ #[bG,λl nl=>#[l,_,Z,.inr (aA.of jc),Z,Z,_,Z,?_]])
   cases hv:mH (.str w') [.str "set",.str "give"] with
   |true=>
    rw[hv,DB Z]at hc
    exact Y _ (fm _ _ #[k,Z,je nl,Ic])
   |false=>
    rw[hv,DC Do]at hc
    refine X _ #[_,Z,_,_,Z,Z,fm _ _ #[k+1,?_,je nl,Ic]]
    show [_,some (V.int ((k:Int)+1)),_,_]=[_,some (V.int ((k+1:Nat):Int)),_,_]
    rfl
  ·obtain⟨j,rfl,L,hk⟩:=h
   exact d _ _ (R j H' L hk)
end K26
namespace K26
open PySem PySem.Spec PyProof.Rows L2
variable {P:Program}{w:World}{K:Frag}{mg:Str->Option Value}{base:Heap}
inductive Bh where
 |go (n:Int) |give (t:Addr)
structure Wy where
 sets:List (Str×Addr)
 goal:Bh
inductive Dd where
 |st (p:Addr) |ask (t:Addr)
structure Ct where
 M:Str->Prop
 d:Dd
 ws:List Wy
structure Pc where
 M:Str->Prop
 w:Wy
def a9(H:Hp):Tr->V->List V->Prop
 | .lf v,x,_=>x=v/\C6 v=true
 | .tp l,x,_=>l.isL=true/\∃a X,x= .ref a/\H a=some (.tup X)/\a9 H l .non X
 | .nil,_,X=>X=[]
 | .cons h t,_,X=>h.isL=false/\t.isL=true/\∃y Y,X=y::Y/\a9 H h y []/\a9 H t .non Y
theorem a9.mono(k:ah H d):∀{t:Tr} {x:V} {X:List V},a9 H t x X->a9 d t x X:=by
 intro t
 induction t with
 |lf v |nil=>exactλh=>h
 |tp l f=>rintro x X ⟨h,a,Y,e,b,c⟩;exact#[h,a,Y,e,k _ _ b,f c]
 |cons h t i I=>rintro x X ⟨E,g,y,Y,e,b,c⟩;exact#[E,g,y,Y,e,i b,I c]
noncomputable def aR:List Tr->Tr
 | []=>.nil
 |t::T=>.cons t (aR T)
theorem Qg:∀t:List Tr,(aR t).isL=true
 | []=>rfl
 |_::_=>rfl
noncomputable def bJ(t:List Tr):Tr:=.tp (aR t)
noncomputable def cp(x:Str):Tr:=.lf (.str x)
noncomputable def mZ(a:Addr):Tr:=.lf (.ref a)
noncomputable def cX(n:Int):Tr:=.lf (.int n)
section
variable {H:Hp}
theorem jE:a9 H (aR []) .non []:=rfl
theorem jp{t:Tr}(h:t.isL=false)(a:a9 H t y [])(b:a9 H (aR T) .non Y):a9 H (aR (t::T)) .non (y::Y):=#[h,Qg T,y,Y,Z,a,b]
theorem jH(h:H a=some (.tup x))(b:a9 H (aR t) .non x):a9 H (bJ t) (.ref a) []:=#[Qg t,a,x,Z,h,b]
theorem kC:a9 H (cp x) (.str x) []:=#[Z,Z]
theorem Ja:a9 H (mZ a) (.ref a) []:=#[Z,Z]
theorem qt:a9 H (cX n) (.int n) []:=#[Z,Z]
theorem JH(a:a9 H (aR s) .non Y):∀{T:List Tr} {x:List V},a9 H (aR T) .non x->a9 H (aR (T++s)) .non (x++Y)
 | [],x,h=>by have e:x=[]:=h;rw[e];exact a
 |t::T,x,h=>by obtain⟨E,_,y,z,e,b,c⟩:=h;rw[e];exact jp E b (JH a c)
theorem zq:∀{T:List Tr} {x:List V},a9 H (aR T) .non x->x.length=T.length
 | [],x,h=>by have e:x=[]:=h;rw[e];rfl
 |t::T,x,h=>by obtain⟨_,_,y,z,e,_,a⟩:=h;rw[e,DU,DU,zq a]
theorem QX:∀(S:List Str),a9 H (aR (S.map cp)) .non (S.map V.str)
 | []=>rfl
 |s::S=>jp Z kC (QX S)
theorem Yn:∀{T:List Tr} {x:List V},a9 H (aR T) .non x->a9 H (aR T.reverse) .non x.reverse
 | [],x,h=>by have e:x=[]:=h;rw[e];rfl
 |t::T,x,h=>by
  obtain⟨E,_,y,z,e,a,b⟩:=h
  rw[e,Gf,Gf]
  exact JH (jp E a jE) (Yn b)
theorem Jb:∀{T:List Tr} {X:List V},a9 H (aR T) .non X->∀(i:Nat) (x:V),X[i]?=some x->∃t,T[i]?=some t/\a9 H t x []
 | [],X,h,i,x,a=>by have e:X=[]:=h;rw[e]at a;simp at a
 |t::T,X,h,0,x,a=>by obtain⟨_,_,y,z,e,b,c⟩:=h;rw[e]at a;cases a;exact#[t,Z,b]
 |t::T,X,h,i+1,x,a=>by obtain⟨_,_,y,z,e,b,c⟩:=h;rw[e]at a;simpa using Jb c i x (by simpa using a)
end
noncomputable def Ai(s:Str×Addr):Tr:=bJ [cp s.1,mZ s.2]
noncomputable def sF:Bh->Tr
 | .go n=>bJ [cp "go",cX n]
 | .give t=>bJ [cp "give",mZ t]
noncomputable def fq(w:Wy):Tr:=bJ [bJ (w.sets.map Ai),sF w.goal]
noncomputable def Bj:Dd->Tr
 | .st p=>mZ p
 | .ask t=>bJ [cp "ask",mZ t]
noncomputable def AX(c:Ct):Tr:=bJ [bJ ((canon c.M).map cp),Bj c.d,bJ (c.ws.map fq)]
theorem xA(g:Bh):(sF g).isL=false:=by cases g<;>rfl
theorem AY(d:Dd):(Bj d).isL=false:=by cases d<;>rfl
def lg(H:Hp)(p:Pc)(v:V)(g:Addr)(y:List Str):Prop:=∃(r:Addr) (s:List Str) (W:V),v= .ref r/\H r=some (.tup [.ref g,W])/\NL H g s p.M y/\a9 H (fq p.w) W []
theorem lg.same(h:lg H p v g y)(s:ae H a):lg a p v g y:=by
 obtain⟨r,S,W,e,b,c,d⟩:=h
 exact#[r,S,W,e,s _ _ b,c.same s,d.mono (ae.tm s)]
theorem lg.but(h:lg H p v g y)(k:ar f H c)(d:H f=some (.lst C))(n:g≠f):lg c p v g y:=by
 obtain⟨r,s,W,e,i,a,j⟩:=h
 have t:ah H c:=λb x e=>k b _ (jI e d (by intro z;cases z)) e
 exact#[r,s,W,e,t _ _ i,#[k _ _ n a.at',a.nm,a.sub,a.y20],j.mono t]
noncomputable def Lf.isCut:Lf->Bool
 | .st _ _ _=>false
 | .gv _ _=>false
 |_=>true
noncomputable def Bd.deed:Bd->Dd
 | .lf p _ _=>.st p
 | .ite _ t _ _ _ _=>.ask t
 | .loop _ t _ _ _=>.ask t
 | .nil=>.st 0
def iq:Sp:=λa H Q _=>∃(v:V) (s:Bd),a=[v]/\gg H v s/\∀(d:V) (h:Hp),a9 h (Bj s.deed) d []->ae H h->Q d h
def gf:Sp:=λa H Q _=>∃(t:Addr) (T:Tm) (y:List Str),a=[.ref t]/\a6 H T t/\cw y T/\y.length<=21/\∀(v:V) (g:Addr) (h:Hp),lg h #[λx=>x∈T.vars,#[[],.give t]] v g y->H g=none->ae H h->Q v h
def pH(K:Frag):Sp:=λv H Q _=>∃a:Addr,v=[.ref a]/\aA K H a [.str "num",.int 0]/\∀(r:Addr),H r=none->Q (.ref r) (af H r (.lst []))
def oG(K:Frag):Sp:=λa H Q _=>∃(t:Addr) (y:List Str),a=[.ref t]/\aA K H t [.str "num",.int 0]/\y.length<=21/\∀(v:V) (g:Addr) (h:Hp),lg h #[λx=>x∈(Tm.num 0).vars,#[[],.give t]] v g y->H g=none->ae H h->Q v h
open Classical in
noncomputable def gp(x:Str)(t:Addr)(p:Pc):Wy:=if p.M x then #[(x,t)::p.w.sets,p.w.goal] else p.w
def h9:Sp:=λd H Q _=>∃(v b:V) (p t:Addr) (x:Str) (T:Tm) (a:Pc) (g:Addr) (y:List Str),d=[v,b]/\gg H v (.lf p (.st x t T) .nil)/\lg H a b g y/\x∈y/\cw y T/\a.w.sets.length<=10000000/\
 ∀(c:V) (G:Addr) (h:Hp),lg h #[(Lf.st x t T).use a.M,gp x t a] c G y->H G=none->ae H h->Q c h
theorem yn:aj ["statement"] ["statement"] (aa nL):=bo
theorem sJ(F:aJ K "deed_of" "deed_of" nL f e):ai P w K mg base ax 1 f e ["statement"] iq:=by
 refine F.ok yn ?_ λC A o s H V Q E z h=>?_
 ·rintro _ _ _ _ ⟨v,s,rfl,_⟩
  rfl
 refine aP λG k=>?_
 obtain⟨v,st,rfl,g,q⟩:=h
 refine k ?_
 clear k
 refine#[_,(jd (jv (jz zb (jy (pv 0)) (jh (ja jk (ja jk jb))) Z) (jg (jl (jh (ja jk (ja (jy (pv 0)) jb))))) jm) (jg (jl (pv 0)))),?_]
 cases g with
 |lf p l V c d=>
  cases l with
  |rd x t T |st x t T |wr t u T U |cl x f B D |gv t T=>
   obtain⟨rfl,_⟩:=d
   refine(js c Z #[bG,λl n=>#[l,_,Z,.inr (aA.of jc),Z,Z,_,Z,aO Ig ?_]])
   exact#[_,Z,q _ _ Ja (je n)]
 |ite p t T a b i I j J c m d y L M |loop p t T a i j c m d y=>
  refine(js c Z #[bG,λl n=>#[l,_,Z,.inr (aA.of jc),Z,Z,_,Z,bV Ig ?_]])
  refine(js (ao c n) Z #[bG,λr N=>?_])
  exact q _ _ (jH jc (jp Z kC (jp Z Ja jE))) ((je n).trans (je N))
theorem xX{fN:Addr}{fdN:FuncData}(F:aJ K "names_in" "names_in" dC f b)(c:Cl P w K mg base (n+1) f b ["term"] (cQ n) "names_in")(m:mg "set"=none)(M:mg "sorted"=none):ai P w K mg base ax (n+2) f b ["term"] (pH K):=by
 refine F.ok ot (λv H Q E h=>?_) (λC A o s H v Q E d h=>?_)
 ·obtain⟨a,rfl,_⟩:=h
  rfl
 obtain⟨a,rfl,g,q⟩:=h
 refine#[_,(jd (jv (j5 (jy (pv 0))) (jg (jl (jC jb))) jm) (jd (jv (j5 (jy (pv 0))) (jg (jl (jC (ja (jy (pv 0)) jb)))) jm) (jg (jl (jJ (zN Z) Z M boot_sorted (ja (jB (qy Z) Z m boot_set (ja (jr zT (c.e d (ja (jy (pv 0)) jb)) (c.e d (ja (jy (pv 0)) jb))) jb)) jb)))))),?_]
 refine#[_,Z,a,_,_,_,Z,Z,g,Z,Z,_,Z,bV Ig ?_]
 exact#[gQ,λr N=>q r N]
theorem mO:aj ["term"] ["term"] (aa hV):=bo
theorem og(F:aJ K "place_of_give" "place_of_give" hV f d)(C:Cl P w K mg base 7 U i ["term"] (cQ 6) "names_in"):ai P w K mg base ax 8 f d ["term"] gf:=by
 refine F.ok mO ?_ λj A o s H V Q E l h=>?_
 ·rintro _ _ _ _ ⟨t,T,y,rfl,_⟩
  rfl
 refine aP λR k=>?_
 obtain⟨t,T,y,rfl,p,O,b,q⟩:=h
 refine k ?_
 clear k
 refine#[_,(jg (jl (jh (ja (C.e l.m (ja (pv 0) jb)) (ja (jh (ja (jh jb) (ja (jh (ja jk (ja (pv 0) jb))) jb))) jb))))),?_]
 refine#[_,Z,t,T,y,Z,p,O.2,O.1,b,λg v a z B D M G I=>?_]
 have J:NL a g v (λx=>x∈T.vars) y:=#[B,#[D,G,M],j9 O.1,b]
 refine#[gQ,λe L=>#[_,Z,bG,λu c=>#[bG,λx N=>#[bG,λr n=>?_]]]]
 have S:ae a (af (af (af (af a e (.tup [])) u (.tup [.str "give",.ref t])) x (.tup [.ref e,.ref u])) r (.tup [.ref g,.ref x])):=(((je L).trans (je c)).trans (je N)).trans (je n)
 refine q _ g _ #[r,_,.ref x,Z,jc,J.same S,?_] z (I.trans S)
 exact jH (ao jc n) (jp Z (jH (ao (ao (ao jc c) N) n) jE) (jp Z (jH (ao (ao jc N) n) (jp Z kC (jp Z Ja jE))) jE))
theorem xk(F:aJ K "place_of_give" "place_of_give" hV f j)(C:Cl P w K mg base 7 G l ["term"] (pH K) "names_in"):ai P w K mg base ax 8 f j ["term"] (oG K):=by
 refine F.ok mO ?_ λp A o s H V Q E v h=>?_
 ·rintro _ _ _ _ ⟨t,y,rfl,_⟩
  rfl
 refine aP λI k=>?_
 obtain⟨t,y,rfl,z,B,q⟩:=h
 refine k ?_
 clear k
 refine#[_,(jg (jl (jh (ja (C.e v.m (ja (pv 0) jb)) (ja (jh (ja (jh jb) (ja (jh (ja jk (ja (pv 0) jb))) jb))) jb))))),?_]
 refine#[_,Z,t,Z,z,λg a=>?_]
 have b:ae H (af H g (.lst [])):=je a
 have c:NL (af H g (.lst [])) g [] (λx=>x∈(Tm.num 0).vars) y:=#[jc,#[Gd,Z,λx=>HG],λx h=>absurd h DO,B]
 generalize af H g (.lst [])=d at b c
 refine#[gQ,λe D=>#[_,Z,bG,λu i=>#[bG,λx N=>#[bG,λr n=>?_]]]]
 have S:ae d (af (af (af (af d e (.tup [])) u (.tup [.str "give",.ref t])) x (.tup [.ref e,.ref u])) r (.tup [.ref g,.ref x])):=(((je D).trans (je i)).trans (je N)).trans (je n)
 refine q _ g _ #[r,_,.ref x,Z,jc,c.same S,?_] a (b.trans S)
 exact jH (ao jc n) (jp Z (jH (ao (ao (ao jc i) N) n) jE) (jp Z (jH (ao (ao jc N) n) (jp Z kC (jp Z Ja jE))) jE))
end K26
namespace K26
open PySem PySem.Spec PyProof.Rows L2
variable {P:Program}{w:World}{K:Frag}{mg:Str->Option Value}{base:Heap}
theorem sP{Y:List Str}:mH (.str x) (Y.map V.str)=decide (x∈Y):=by
 by_cases h:x∈Y
 ·rw[DP h]
  unfold mH
  rw[List.any_eq_true]
  exact#[.str x,List.mem_map.mpr #[x,h,Z],by simp [le]]
 ·rw[Dy h]
  unfold mH
  rw[Bool.eq_false_iff]
  intro z
  rw[List.any_eq_true]at z
  obtain⟨v,a,e⟩:=z
  obtain⟨y,H,rfl⟩:=List.mem_map.mp a
  have E:x=y∨y=x:=by
   first
    |exact .inl (by simpa [le] using e)
    |exact .inr (by simpa [le] using e)
  rcases E with rfl |rfl
  ·exact h H
  ·exact h H
theorem xV{H:Hp}{w:Wy}{v:V}(h:a9 H (fq w) v []):∃(W s:Addr) (S:List V) (y:V),v= .ref W/\H W=some (.tup [.ref s,y])/\H s=some (.tup S)/\a9 H (aR (w.sets.map Ai)) .non S/\a9 H (sF w.goal) y []:=by
 obtain⟨_,W,x,rfl,a,_,_,l,b,e,⟨_,s,S,c,d,f⟩,_,_,g,Y,E,i,j⟩:=h
 have k:Y=[]:=j
 rw[k]at E
 rw[E]at e
 rw[e,c]at a
 exact#[W,s,S,g,Z,a,d,f,i]
theorem lS:aj ["statement","behind","way"] ["statement","behind"] (aa nR):=bo
theorem se(F:aJ K "place_of_set" "place_of_set" nR f fd)(cU:Cl P w K mg base 10 fU f0 ["statement","behind"] (fj 0) "used_ahead_of"):ai P w K mg base ax 11 f fd ["statement","behind"] h9:=by
 refine F.ok lS ?_ λc0 A O s H vs Q E hr h=>?_
 ·rintro _ _ _ _ ⟨v,bv,p,t,x,T,C,g,Y,rfl,_⟩
  rfl
 refine aP λGq U=>?_
 obtain⟨v,bv,p,t,x,T,C,g,Y,rfl,X,hp,hx,ok,hl,q⟩:=h
 refine U ?_
 clear U
 refine#[_,(jd (jw 2 lS.nd (jy (pv 1))) (jd (jX (jv (jz zb (jy (pv 0)) (jy (pv 1)) Z) (jg (jw 2 lS.nd (jh (ja (jr j4 (jh (ja (jL qh (pv 0) (jF jf) kK) jb)) (jy (pv 2))) (ja (jy (pv 2)) jb))))) jm)) (jg (jl (jh (ja (cU.e hr.m (ja (pv 0) (ja (jy (pv 1)) jb))) (ja (pv 2) jb))))))),?_]
 have b0:=aB
 obtain⟨r,ss,wv,rfl,b,B,hW⟩:=hp
 have h0:=X
 cases X with
 |lf _ _ vs h1 h2=>
  obtain⟨rfl,hT⟩:=h2
  obtain⟨wa,sa,sx,y,rfl,i,D,j,hy⟩:=xV hW
  refine ak λF1 d=>(js b Z (d _ _ ?_))
  clear d
  have sl:=zq j
  rw[Di]at sl
  refine ak λF1 d=>df (λl I=>∃W:V,l=[some (.ref p),some (.ref r),some W]/\a9 I (fq (gp x t C)) W []/\ae H I) (λE2 _ fm=>?_) λl I h=>?_
  ·clear d
   refine vE λG kT kF=>(js h1 Z (js b Z #[g,_,Z,.inl (aE.of B.at'),Z,Qc _,_,Z,?_]))
   rw[sP]
   by_cases a:x∈ss
   ·rw[DP a]
    refine kT _ #[_,Z,_,Z,p,_,Z,h1,λs1 H1 J k1=>#[iR,λu nu=>?_]]
    have L:=k1.trans (je (o:=.tup [.ref s1]) nu)
    refine(js (L _ _ i) Z #[u,sa,_,_,Z,Z,jc,L _ _ D,by show 1+sx.length<=_;omega,λc H2 hc z=>?_])
    have R:=L.trans z
    refine(js (R _ _ i) Z #[bG,λnw n=>fm _ _ #[.ref nw,Z,?_,R.trans (je n)]])
    have tm:=ae.tm (R.trans (je (o:=.tup [.ref c,y]) n))
    unfold gp
    rw[DB ((B.nm.mem x).mp a)]
    refine jH jc (jp Z (jH (ao hc n) (jp Z ?_ (j.mono tm))) (jp (xA _) (hy.mono tm) jE))
    exact jH (ao (z _ _ (ao J nu)) n) (jp Z kC (jp Z Ja jE))
   ·rw[Dy a]
    refine kF _ (fm _ _ #[_,Z,?_,ae.refl _])
    unfold gp
    rw[DC λw=>a ((B.nm.mem x).mpr w)]
    exact hW
  ·obtain⟨W,rfl,S,k⟩:=h
   refine d _ _ ?_
   clear d
   refine#[_,Z,js (k _ _ b) Z #[.ref p,g,.lf p (.st x t T) .nil,ss,C.M,Y,Z,h0.mono (ae.tm k),B.same k,#[#[hx,ok],DR],(by show 0 < 1;decide),(by show 0+1<=10000000;decide),λg' zs H3 n3 N3 z=>?_]]
   refine#[_,Z,bG,λr' N=>q _ g' _ #[r',zs,W,Z,jc,N3.same (je N),S.mono (ae.tm (z.trans (je N)))] (k.free n3) ((k.trans z).trans (je N))]
noncomputable abbrev sV:Stmt:=bL (bn 29) 1
noncomputable abbrev sM:Stmt:=bL (bn 29) 2
noncomputable abbrev ut:Stmt:=bL (bn 29) 3
noncomputable abbrev sY:Stmt:=bL (bn 29) 4
noncomputable abbrev rg:Stmt:=bL (bn 29) 0
noncomputable def pL(m:Int)(p:Addr)(l:Lf)(q:Pc×List Ct):Pc×List Ct:=match l with
 | .gv t T=>(#[λx=>x∈T.vars,#[[],.give t]],q.2)
 | .st x t T=>(#[(Lf.st x t T).use q.1.M,gp x t q.1],q.2)
 | .rd x t T=>(#[(Lf.rd x t T).use q.1.M,#[[],.go (m - (q.2.length:Int) - 1)]],q.2++[#[(Lf.rd x t T).use q.1.M,.st p,[q.1.w]]])
 | .wr t u T U=>(#[(Lf.wr t u T U).use q.1.M,#[[],.go (m - (q.2.length:Int) - 1)]],q.2++[#[(Lf.wr t u T U).use q.1.M,.st p,[q.1.w]]])
 | .cl x f a b=>(#[(Lf.cl x f a b).use q.1.M,#[[],.go (m - (q.2.length:Int) - 1)]],q.2++[#[(Lf.cl x f a b).use q.1.M,.st p,[q.1.w]]])
noncomputable def pB(m:Int):Bd->Pc->List Ct->Pc×List Ct
 | .nil,c,f=>(c,f)
 | .lf p l r,c,f=>pL m p l (pB m r c f)
 | .ite p t T a b r,c,f=>
  let q:=pB m r c f
  let o:=pB m b q.1 q.2
  let s:=pB m a q.1 o.2
  (#[(Bd.ite p t T a b .nil).use q.1.M,#[[],.go (m - (q.2.length:Int) - ((Bd.ite p t T a b .nil).cuts:Int))]],s.2++[#[(Bd.ite p t T a b .nil).use q.1.M,.ask t,[s.1.w,o.1.w]]])
 | .loop p t T a r,c,f=>
  let q:=pB m r c f
  let d:Pc:=#[(Bd.loop p t T a .nil).use q.1.M,#[[],.go (m - (q.2.length:Int) - ((Bd.loop p t T a .nil).cuts:Int))]]
  let s:=pB m a d q.2
  (d,s.2++[#[(Bd.loop p t T a .nil).use q.1.M,.ask t,[s.1.w,q.1.w]]])
theorem J1(m:Int):∀(a b:Bd) (c:Pc) (f:List Ct),pB m (a.app b) c f=pB m a (pB m b c f).1 (pB m b c f).2
 | .nil,_,_,_=>rfl
 | .lf p l r,b,c,f=>by show pL m p l (pB m (r.app b) c f)=pL m p l (pB m r _ _);rw[J1 m r b c f]
 | .ite p t T x y r,b,c,f=>by
  have e:=J1 m r b c f
  show pB m (.ite p t T x y (r.app b)) c f=_
  unfold pB
  rw[e]
 | .loop p t T x r,b,c,f=>by
  have e:=J1 m r b c f
  show pB m (.loop p t T x (r.app b)) c f=_
  unfold pB
  rw[e]
theorem j6(m:Int):∀(b:Bd) (c:Pc) (F:List Ct),(pB m b c F).2.length=F.length+b.cuts
 | .nil,_,_=>rfl
 | .lf p l r,c,F=>by
  have e:=j6 m r c F
  show(pL m p l (pB m r c F)).2.length=F.length+(l.cut+r.cuts)
  cases l with
  |rd x t T |wr t u T U |cl x f a d=>show((pB m r c F).2++[_]).length=F.length+(1+r.cuts);rw[Dj,e];show _+1=_;omega
  |st x t T |gv t T=>show(pB m r c F).2.length=F.length+(0+r.cuts);omega
 | .ite p t T x y r,c,F=>by
  have e:=j6 m r c F
  show((pB m x _ (pB m y _ _).2).2++[_]).length=_
  rw[Dj,j6 m x,j6 m y,e]
  show _+1=F.length+(1+x.cuts+y.cuts+r.cuts)
  omega
 | .loop p t T x r,c,F=>by
  have e:=j6 m r c F
  show((pB m x _ _).2++[_]).length=_
  rw[Dj,j6 m x,e]
  show _+1=F.length+(1+x.cuts+r.cuts)
  omega
theorem QY(x:Str)(t:Addr)(p:Pc):(gp x t p).sets.length<=p.w.sets.length+1:=by
 unfold gp
 split
 ·exact Dk _
 ·exact EA _
theorem Yo(m:Int):∀(b:Bd) (a:Pc) (f:List Ct),(pB m b a f).1.w.sets.length<=a.w.sets.length+b.size
 | .nil,_,_=>Dk _
 | .lf p l r,a,f=>by
  have e:=Yo m r a f
  show(pL m p l (pB m r a f)).1.w.sets.length<=a.w.sets.length+(r.size+1)
  cases l with
  |st x t T=>have:=QY x t (pB m r a f).1;show(gp x t (pB m r a f).1).sets.length<=_;omega
  |_=>exact Dt _
 | .ite p t T x y r,a,f=>Dt _
 | .loop p t T x r,a,f=>Dt _
theorem kr:∀b:Bd,b.cuts<=b.size
 | .nil=>Dk _
 | .lf _ l r=>by
  have:=kr r
  have h:l.cut<=1:=by cases l<;>first |exact Dk _ |exact Dt _
  show l.cut+r.cuts<=r.size+1
  omega
 | .ite _ _ _ a b r=>by have:=kr a;have:=kr b;have:=kr r;show 1+a.cuts+b.cuts+r.cuts<=a.size+b.size+r.size+1;omega
 | .loop _ _ _ a r=>by have:=kr a;have:=kr r;show 1+a.cuts+r.cuts<=a.size+r.size+1;omega
structure CK(K:Frag)(C:Addr):Prop where
 cl:mY K C
 nm:bj K C "many"
 nf:bj K C "found"
structure Cg(H:Hp)(C ia dx fa:Addr)(m:Int)(cts:List Ct)(cs:List V):Prop where
 ins:H ia=some (.ins C dx [("many",.int m),("found",.ref fa)])
 fd:H fa=some (.lst cs)
 tr:a9 H (aR (cts.map AX)) .non cs
theorem Cg.same(h:Cg H C i d f m c a)(s:ae H b):Cg b C i d f m c a:=#[s _ _ h.ins,s _ _ h.fd,h.tr.mono (ae.tm s)]
theorem Cg.len(h:Cg H C i d f m c a):a.length=c.length:=by rw[zq h.tr,Di]
theorem Cg.tm(h:Cg H C i d f m c g)(k:ar f H a):ah H a:=λb x e=>k b _ (jI e h.fd (by intro z;cases z)) e
structure sZ(H:Hp)(C ia dx fa:Addr)(m:Int)(cts:List Ct)(cs:List V)(pc:Pc)(bv:V)(g:Addr)(ys:List Str)(b:Bd):Prop where
 c:Cg H C ia dx fa m cts cs
 p:lg H pc bv g ys
 ng:g≠fa
 ok:b.Ok ys
 sz:cts.length+pc.w.sets.length+b.size<=10000000
def rf(H:Hp)(C i d f:Addr)(m:Int)(y:List Str)(q:Pc×List Ct)(Q:VK):Prop:=∀(v:V) (g:Addr) (c:List V) (h:Hp),lg h q.1 v g y->g≠f->Cg h C i d f m q.2 c->ar f H h->Q v h
def lF(C:Addr)(n:Nat):Sp:=λv H Q _=>∃(i d f a g:Addr) (m:Int) (c:List Ct) (e x:List V) (p:Pc) (B:V) (y:List Str) (b:Bd),v=[.ref i,.ref a,B]/\sZ H C i d f m c e p B g y b/\H a=some (.tup x)/\c8 H b x/\b.dep < n/\rf H C i d f m y (pB m b p c) Q
def Aq(C:Addr)(n:Nat):Sp:=λa H Q _=>∃(i d f g:Addr) (m:Int) (c:List Ct) (e:List V) (p:Pc) (v b:V) (y:List Str) (s:Bd),a=[.ref i,v,b]/\sZ H C i d f m c e p b g y s/\gg H v s/\s.dep < n+1/\rf H C i d f m y (pB m s p c) Q
noncomputable def Bd.isCut:Bd->Bool
 | .lf _ l _=>l.isCut
 | .nil=>false
 |_=>true
def xB(C:Addr)(n:Nat):Sp:=λa H Q _=>∃(i d f g:Addr) (m:Int) (c:List Ct) (e:List V) (p:Pc) (v b:V) (y:List Str) (s:Bd),a=[.ref i,v,b]/\sZ H C i d f m c e p b g y s/\gg H v s/\s.dep < n+1/\s.isCut=true/\rf H C i d f m y (pB m s p c) Q
noncomputable def fb(m:Int)(c:Pc)(p:Pc)(f:List Ct):Bd->List Wy×List Ct
 | .ite _ _ _ a b _=>([(pB m a p (pB m b p f).2).1.w,(pB m b p f).1.w],(pB m a p (pB m b p f).2).2)
 | .loop _ _ _ a _=>([(pB m a c f).1.w,p.w],(pB m a c f).2)
 |_=>([p.w],f)
def A0(C:Addr)(n:Nat):Sp:=λe H Q _=>∃(i d f g G:Addr) (m:Int) (c:List Ct) (j:List V) (a p:Pc) (v B pv:V) (y:List Str) (s:Bd),e=[.ref i,v,pv,B]/\sZ H C i d f m c j a B g y s/\lg H p pv G y/\G≠f/\p.w.sets=[]/\gg H v s/\s.dep < n+1/\
 ∀(W:V) (b:List V) (h:Hp),a9 h (bJ ((fb m p a c s).1.map fq)) W []->Cg h C i d f m (fb m p a c s).2 b->ar f H h->Q W h
theorem Xn(h:gg H v s)(g:s.isCut=true)(m:Int)(c:Pc)(F:List Ct):
  pB m s c F=(#[s.use c.M,#[[],.go (m - (F.length:Int) - (s.cuts:Int))]],(fb m #[s.use c.M,#[[],.go (m - (F.length:Int) - (s.cuts:Int))]] c F s).2++[#[s.use c.M,s.deed,(fb m #[s.use c.M,#[[],.go (m - (F.length:Int) - (s.cuts:Int))]] c F s).1]]):=by
 cases h with
 |lf p l V d e=>
  cases l with
  |rd x t T |wr t u T U |cl x f a k=>rfl
  |st x t T |gv t T=>cases g
 |ite p t T a b q Q A B d i e j n o |loop p t T a q A d i e j=>rfl
theorem pS(h:lg H p v g y):∃(r:Addr) (W:V),v= .ref r/\H r=some (.tup [.ref g,W])/\a9 H (fq p.w) W []:=by
 obtain⟨r,s,W,e,a,c,b⟩:=h
 exact#[r,W,e,a,b]
theorem AW:aj ["self","statement","place","behind","other"] ["self","statement","place","behind"] (aa sY):=bo
theorem yZ(F:aJ K "ways_of" "Cutting.ways_of" sY f fd)(X:CK K C)(GB:ai P w K mg base ax (4*n+31) fB f0 ["self","body","behind"] (lF C n))(bB:aw K f0 ["self","body","behind"] [])(hB:bK K C "place_of_body" fB):ai P w K mg base ax (4*n+32) f fd ["self","statement","place","behind"] (A0 C n):=by
 refine F.ok AW ?_ λc3 A o1 s H vs Q E hr h=>?_
 ·rintro _ _ _ _ ⟨i,D,R,g,g2,m,d,S,y,pl,v,bv,pv,Y,s,rfl,_⟩
  rfl
 refine aP λGq kq=>?_
 obtain⟨i,D,R,g,g2,m,d,S,y,pl,v,bv,G,Y,st,rfl,I,h6,n0,h7,hs,hd,q⟩:=h
 refine kq ?_
 clear kq
 refine#[_,(jd (jv (j5 (jy (pv 1))) (jd (jw 4 AW.nd (kJ (pv 0) X.cl hB GB hr.m bB .nil bh (ja (jy (pv 1)) (ja (pv 3) jb)))) (jg (jl (jh (ja (jq jW (kJ (pv 0) X.cl hB GB hr.m bB .nil bh (ja (jy (pv 1)) (ja (pv 3) jb))) jf (λ_ _=>Z)) (ja (jy (pv 4)) jb)))))) jm) (jd (jv (j5 (jy (pv 1))) (jg (jl (jh (ja (jq jW (kJ (pv 0) X.cl hB GB hr.m bB .nil bh (ja (jy (pv 1)) (ja (pv 2) jb))) jf (λ_ _=>Z)) (ja (jy (pv 3)) jb))))) jm) (jg (jl (jh (ja (jy (pv 3)) jb)))))),?_]
 have b0:=aB
 obtain⟨br,bw,rfl,J,L⟩:=pS I.p
 cases hs with
 |lf p l vs e M=>
  have f2:gM (bE (al (dw (eX K) (aU 3) (tC (V.int 1))) aI)) { nx:=λx H'=>Q V.non H',rt:=Q } [some (.ref i),some (.ref p),some G,some (.ref br),none] H:=by
   refine(js J Z #[iR,λr N=>q (.ref r) S _ (jH jc (jp Z (L.mono (ae.tm (je N))) jE)) (I.c.same (je N)) (ar.of_same (je N))])
  cases l with
  |rd x t T |st x t T |wr t u T U |cl x f q2 ts |gv t T=>
   obtain⟨rfl,_⟩:=M
   refine(js e Z #[Z,_,Z,aO Ig ?_])
   refine(js e Z #[Z,_,Z,aO Ig ?_])
   exact f2
 |ite p t T a b qa qb as bs e h0 M h3 h4 h5=>
  refine(js e Z #[Z,_,Z,bV Ig ?_])
  have h8:max (max a.dep b.dep+1) 0 < n+1:=hd
  have hz:d.length+y.w.sets.length+(a.size+b.size+0+1)<=10000000:=I.sz
  have W:=I.ok
  refine ak λF1 f1=>#[_,Z,i,D,_,Z,I.c.ins,Z,js e Z #[_,Z,i,D,R,qb,g,m,d,S,bs,y,.ref br,Y,b,Z,#[I.c,I.p,I.ng,W.2.2.1,Ic],h3,h5,Ic,λv1 g1 j H1 p1 n1 O z=>f1 _ _ ?_]]
  clear f1
  have B:=I.c.tm z
  have lc:=j6 m b y d
  have cb:=kr b
  refine#[_,Z,i,D,_,Z,O.ins,Z,js (B _ _ e) Z #[_,Z,i,D,R,qa,g,m,_,j,as,y,.ref br,Y,a,Z,#[O,I.p.but z I.c.fd I.ng,I.ng,W.2.1,Ic],B _ _ M,h4.mono B,Ic,λv2 g2 c0 H2 p2 n2 c2 k2=>?_]]
  obtain⟨r2,w2,rfl,h',a0⟩:=pS p2
  obtain⟨r1,w1,rfl,k,o⟩:=pS (p1.but k2 O.fd n1)
  refine#[r2,_,_,_,Z,Z,aA.of h',Z,js k Z #[bG,λr N=>q (.ref r) c0 _ (jH jc (jp Z (a0.mono (ae.tm (je N))) (jp Z (o.mono (ae.tm (je N))) jE))) (c2.same (je N)) ((z.trans k2).trans (ar.of_same (je N)))]]
 |loop p t T a qa as e h0 M h3=>
  refine(js e Z #[Z,_,Z,aO Ig ?_])
  refine(js e Z #[Z,_,Z,bV Ig ?_])
  have h8:max (a.dep+1) 0 < n+1:=hd
  have hz:d.length+y.w.sets.length+(a.size+0+1)<=10000000:=I.sz
  have W:=I.ok
  refine#[_,Z,i,D,_,Z,I.c.ins,Z,js e Z #[_,Z,i,D,R,qa,g2,m,d,S,as,pl,G,Y,a,Z,#[I.c,h6,n0,W.2.1,by rw[h7];show d.length+0+a.size<=_;omega],M,h3,Ic,λv1 g1 j H1 p1 n1 O z=>?_]]
  obtain⟨r1,w1,rfl,k,o⟩:=pS p1
  have B:=I.c.tm z
  refine#[r1,_,_,_,Z,Z,aA.of k,Z,js (B _ _ J) Z #[bG,λr N=>q (.ref r) j _ (jH jc (jp Z (o.mono (ae.tm (je N))) (jp Z ((L.mono B).mono (ae.tm (je N))) jE))) (O.same (je N)) (z.trans (ar.of_same (je N)))]]
theorem rn:aj ["self","statement","behind","n","names","place","ways"] ["self","statement","behind"] (aa ut):=bo
theorem AR(F:aJ K "place_of_cut" "Cutting.place_of_cut" ut f fd)(y:CK K C)(h7:n<=7)(GW:ai P w K mg base ax (4*n+32) fW f0 ["self","statement","place","behind"] (A0 C n))(bW:aw K f0 ["self","statement","place","behind"] [])(hW:bK K C "ways_of" fW)(cM:Cl P w K mg base 2 fM f2 ["body"] gB "many_cuts")(cU:Cl P w K mg base 31 fU f3 ["statement","behind"] (fj 7) "used_ahead_of")(cD:Cl P w K mg base 1 fD f4 ["statement"] iq "deed_of")(ml:mg "len"=none)(m0:mg "tuple"=none):ai P w K mg base ax (4*n+33) f fd ["self","statement","behind"] (xB C n):=by
 refine F.ok rn ?_ λc0 A o1 s H vs Q E Y h=>?_
 ·rintro _ _ _ _ ⟨z,L,l,g,m,a,cs,j,v,bv,ys,s,rfl,_⟩
  rfl
 refine aP λGq kq=>?_
 obtain⟨z,L,l,g,m,a,cs,j,v,bv,ys,st,rfl,I,B,hd,hc,q⟩:=h
 refine kq ?_
 clear kq
 refine#[_,(jd (jw 3 rn.nd (jr kB (jr kB (ze (pv 0) Z) (jJ jK Z ml Eu (ja (ze (pv 0) Z) jb))) (cM.e Y.m (ja (jh (ja (pv 1) jb)) jb)))) (jd (jw 4 rn.nd (cU.e Y.m (ja (pv 1) (ja (jy (pv 2)) jb)))) (jd (jw 5 rn.nd (jh (ja (pv 4) (ja (jh (ja (jh jb) (ja (jh (ja jk (ja (pv 3) jb))) jb))) jb)))) (jd (jw 6 rn.nd (kJ (pv 0) y.cl hW GW Y.m bW .nil bh (ja (pv 1) (ja (pv 5) (ja (pv 2) jb))))) (jd (jN (kh Dw DN DM jP (ze (pv 0) Z) (ja (jh (ja (jB jA Z m0 EB (ja (pv 4) jb)) (ja (cD.e Y.m (ja (pv 1) jb)) (ja (pv 6) jb)))) jb))) (jg (jl (pv 5)))))))),?_]
 have b0:=aB
 obtain⟨br,ss,bw,rfl,h0,hN,h1⟩:=id I.p
 have hz:=I.sz
 have lc:=I.c.len
 refine ak λF1 i=>#[_,Z,z,C,L,_,_,Z,I.c.ins,y.cl,y.nm,Z,_,Z,z,C,L,_,_,Z,I.c.ins,y.cl,y.nf,Z,l,_,Z,.inl (aE.of I.c.fd),_,_,Z,Z,_,Z,iR,λu nu=>?_]
 have s1:ae H (af H u (.tup [v])):=je nu
 refine#[u,st,_,Z,jc,(B.mono (ae.tm s1)).bd,Ic,λH1 k1=>#[_,_,Z,Z,i _ _ ?_]]
 clear i
 have S:=s1.trans k1
 rw[lc]
 refine ak λF1 i=>#[_,Z,js (S _ _ h0) Z #[v,g,st,ss,j.M,ys,Z,B.mono (ae.tm S),hN.same S,I.ok,Ic,Ic,λG zs H2 n2 N2 k2=>i _ _ ?_]]
 clear i
 have s3:=S.trans k2
 have N:G≠l:=λe=>by rw[e,S _ _ I.c.fd]at n2;cases n2
 refine ak λF1 i=>#[_,Z,gQ,λe ne=>#[_,Z,bG,λU O=>#[bG,λx nx=>#[bG,λr nr=>i _ _ ?_]]]]
 clear i
 have s4:ae H2 (af (af (af (af H2 e (.tup [])) U (.tup [.str "go",.int (m - (a.length:Int) - (st.cuts:Int))])) x (.tup [.ref e,.ref U])) r (.tup [.ref G,.ref x])):=(((je ne).trans (je O)).trans (je nx)).trans (je nr)
 have P4:lg (af (af (af (af H2 e (.tup [])) U (.tup [.str "go",.int (m - (a.length:Int) - (st.cuts:Int))])) x (.tup [.ref e,.ref U])) r (.tup [.ref G,.ref x])) #[st.use j.M,#[[],.go (m - (a.length:Int) - (st.cuts:Int))]] (.ref r) G ys:=
  #[r,zs,.ref x,Z,jc,N2.same s4,jH (ao jc nr) (jp Z (jH (ao (ao (ao jc O) nx) nr) jE) (jp Z (jH (ao (ao jc nx) nr) (jp Z kC (jp Z qt jE))) jE))]
 generalize af (af (af (af H2 e (.tup [])) U (.tup [.str "go",.int (m - (a.length:Int) - (st.cuts:Int))])) x (.tup [.ref e,.ref U])) r (.tup [.ref G,.ref x])=H4 at s4 P4
 have R:=s3.trans s4
 have c5:=I.c.same R
 refine ak λF1 i=>#[_,Z,z,L,_,Z,c5.ins,Z,_,Z,_,Z,_,Z,z,L,l,g,G,m,a,cs,j,_,v,.ref br,.ref r,ys,st,Z,#[c5,I.p.same R,I.ng,I.ok,I.sz],P4,N,Z,B.mono (ae.tm R),hd,λwv D H6 w6 c6 k6=>i _ _ ?_]
 clear i
 have t0:=c5.tm k6
 have p6:=P4.but k6 c5.fd N
 have z6:H6 G=some (.lst (zs.map V.str)):=k6 _ _ N (s4 _ _ N2.at')
 have ez:=N2.nm.canon
 have l6:=c6.len
 have lw:(fb m #[st.use j.M,#[[],.go (m - (a.length:Int) - (st.cuts:Int))]] j a st).2.length+1=a.length+st.cuts:=by
  have:=j6 m st j a
  rw[Xn B hc m j a,Dj]at this
  exact this
 have cl:=kr st
 refine ak λF1 i=>#[_,Z,z,C,L,_,_,Z,c6.ins,y.cl,y.nf,Z,.inl #[Z,_,aE.of c6.fd],_,Z,G,_,Z,.inl #[aE.of z6,λnt n0=>?_]]
 have s7:ae H6 (af H6 nt (.tup (zs.map V.str))):=je n0
 refine#[_,Z,v,st,Z,((B.mono (ae.tm R)).mono t0).mono (ae.tm s7),λd H8 d8 k8=>#[_,Z,dP,λW J=>?_]]
 have X:=(s7.trans k8).trans (je (o:=.tup [.ref nt,d,wv]) J)
 have t:=c6.same X
 refine#[l,D,_,Z,Z,t.fd,Ic,i _ _ ?_]
 clear i
 have T9:a9 (af H8 W (.tup [.ref nt,d,wv])) (AX #[st.use j.M,st.deed,(fb m #[st.use j.M,#[[],.go (m - (a.length:Int) - (st.cuts:Int))]] j a st).1]) (.ref W) []:=by
  refine jH jc (jp Z (jH (ao (k8 _ _ jc) J) ?_) (jp (AY _) (d8.mono (ae.tm (je J))) (jp Z (w6.mono (ae.tm X)) jE)))
  rw[<- ez]
  exact QX zs
 have p9:=p6.same X
 generalize af H8 W (.tup [.ref nt,d,wv])=H9 at X t T9 p9
 have k:ar l H9 (af H9 l (.lst (D++[.ref W]))):=λb o nb e=>by rw[ji nb];exact e
 have T:=t.tm k
 have n1:z≠l:=λe=>by have:=t.ins;rw[e,t.fd]at this;cases this
 refine#[_,Z,q (.ref r) G (D++[.ref W]) _ ?_ N ?_ (λb o nb e=>k b o nb (X _ _ (k6 b o nb (R _ _ e))))]
 ·rw[Xn B hc m j a]
  exact p9.but k t.fd N
 ·rw[Xn B hc m j a]
  refine#[k _ _ n1 t.ins,jc,?_]
  rw[DJ]
  exact JH (jp Z (T9.mono T) jE) (t.tr.mono T)
inductive BI(C ia dx fa a:Addr)(m:Int)(cts:List Ct)(pc:Pc)(bv:V)(ys:List Str)(b:Bd)(xs:List V)(H:Hp)(i:Nat)(σ:L2.St)(H':Hp):Prop
 |mk (pre eh:Bd) (v:V) (g:Addr) (cs:List V) (o4:Option V) (e0:σ=[some (.ref ia),some (.ref a),some bv,some v,o4]) (e1:b=pre.app eh) (e2:c8 H pre (xs.take (xs.length - i))) (e3:lg H' (pB m eh pc cts).1 v g ys) (e4:g≠fa) (e5:Cg H' C ia dx fa m (pB m eh pc cts).2 cs) (e6:ar fa H H'):BI C ia dx fa a m cts pc bv ys b xs H i σ H'
theorem JI(m:Int):∀(b:Bd) (c:Pc) (F:List Ct),(pB m b c F).2.length+(pB m b c F).1.w.sets.length<=F.length+c.w.sets.length+b.size
 | .nil,_,_=>Dk _
 | .lf p l r,c,F=>by
  have e:=JI m r c F
  show(pL m p l (pB m r c F)).2.length+(pL m p l (pB m r c F)).1.w.sets.length<=F.length+c.w.sets.length+(r.size+1)
  cases l with
  |st x t T=>have:=QY x t (pB m r c F).1;show(pB m r c F).2.length+(gp x t (pB m r c F).1).sets.length<=_;omega
  |gv t T=>show(pB m r c F).2.length+0<=_;omega
  |rd x t T |wr t u T U |cl x f a d=>show((pB m r c F).2++[_]).length+0<=_;rw[Dj];show _+1+0<=_;omega
 | .ite p t T x y r,c,F=>by
  have e:=JI m r c F
  have h:=kr x
  have H:=kr y
  show((pB m x _ (pB m y _ _).2).2++[_]).length+0<=F.length+c.w.sets.length+(x.size+y.size+r.size+1)
  rw[Dj,j6 m x,j6 m y]
  show _+1+0<=_
  omega
 | .loop p t T x r,c,F=>by
  have e:=JI m r c F
  have h:=kr x
  show((pB m x _ _).2++[_]).length+0<=F.length+c.w.sets.length+(x.size+r.size+1)
  rw[Dj,j6 m x]
  show _+1+0<=_
  omega
theorem Ci:aj ["self","statement","behind"] ["self","statement","behind"] (aa sM):=bo
theorem Ay(F:aJ K "place_of" "Cutting.place_of" sM f fd)(ck:CK K C)(GC:ai P w K mg base ax (4*n+33) fC D ["self","statement","behind"] (xB C n))(bC:aw K D ["self","statement","behind"] [])(hC:bK K C "place_of_cut" fC)(cG:Cl P w K mg base 8 fG f0 ["term"] gf "place_of_give")(cS:Cl P w K mg base 11 fS f1 ["statement","behind"] h9 "place_of_set"):ai P w K mg base ax (4*n+34) f fd ["self","statement","behind"] (Aq C n):=by
 refine F.ok Ci ?_ λc0 A O s H vs Q E G h=>?_
 ·rintro _ _ _ _ ⟨r,J,fa,g,m,j,z,L,v,B,y,s,rfl,_⟩
  rfl
 refine aP λGq kq=>?_
 obtain⟨r,J,fa,g,m,j,z,L,v,B,y,st,rfl,I,M,hd,q⟩:=h
 refine kq ?_
 clear kq
 refine#[_,(jd (jv (j5 (jy (pv 1))) (jg (jl (cG.e G.m (ja (jy (pv 1)) jb)))) jm) (jd (jv (j5 (jy (pv 1))) (jg (jl (cS.e G.m (ja (pv 1) (ja (pv 2) jb))))) jm) (jg (jl (kJ (pv 0) ck.cl hC GC G.m bC .nil bh (ja (pv 1) (ja (pv 2) jb))))))),?_]
 have hz:=I.sz
 have R:=M
 have i:st.isCut=true->gM (oN C "place_of_cut" (xB C n) [] E0 (aU 0) (al (aU 1) (al (aU 2) aI))) { nx:=λx k=>Q V.non k,rt:=Q } [some (.ref r),some v,some B] H:=λhc=>
  #[_,Z,r,J,_,Z,I.c.ins,Z,_,Z,_,Z,r,J,fa,g,m,j,z,L,v,B,y,st,Z,I,M,hd,hc,q]
 cases M with
 |lf p l vs d o=>
  cases l with
  |rd x t T |wr t u T U |cl x f q2 ts=>
   obtain⟨rfl,_⟩:=o
   refine(js d Z #[Z,_,Z,aO Ig ?_])
   refine(js d Z #[Z,_,Z,aO Ig ?_])
   exact i Z
  |gv t T=>
   obtain⟨rfl,hT⟩:=o
   refine(js d Z #[Z,_,Z,bV Ig ?_])
   clear i
   have Y:y.length<=21:=by obtain⟨_,_,_,_,_,hN,_⟩:=I.p;exact hN.y20
   exact(js d Z #[t,T,y,Z,hT,I.ok.1,Y,λW X k p' N S=>q W X z k p' (λe=>by rw[e,I.c.fd]at N;cases N) (I.c.same S) (ar.of_same S)])
  |st x t T=>
   obtain⟨rfl,hT⟩:=o
   refine(js d Z #[Z,_,Z,aO Ig ?_])
   refine(js d Z #[Z,_,Z,bV Ig ?_])
   clear i
   exact#[_,Z,_,Z,.ref p,B,p,t,x,T,L,g,y,Z,R,I.p,I.ok.1.1,I.ok.1.2,Ic,λW X k p' N S=>q W X z k p' (λe=>by rw[e,I.c.fd]at N;cases N) (I.c.same S) (ar.of_same S)]
 |ite p t T a b qa qb as bs d h0 o h3 h4 h5 |loop p t T a qa as d h0 o h3=>
  refine(js d Z #[Z,_,Z,aO Ig ?_])
  refine(js d Z #[Z,_,Z,aO Ig ?_])
  exact i Z
theorem tW:aj ["self","body","behind","place","statement"] ["self","body","behind"] (aa sV):=bo
theorem AZ(F:aJ K "place_of_body" "Cutting.place_of_body" sV f fd)(ck:CK K C)(GO:ai P w K mg base ax (4*n+34) fO T ["self","statement","behind"] (Aq C n))(bO:aw K T ["self","statement","behind"] [])(hO:bK K C "place_of" fO)(R:mg "reversed"=none):ai P w K mg base ax (4*n+35) f fd ["self","body","behind"] (lF C (n+1)):=by
 refine F.ok tW ?_ λc1 A U s H vs Q E hr h=>?_
 ·rintro _ _ _ _ ⟨r,J,V,a,g,m,d,cs,xs,l,L,Y,b,rfl,_⟩
  rfl
 refine aP λGq t=>?_
 obtain⟨r,J,V,a,g,m,d,cs,xs,l,L,Y,b,rfl,I,ha,hb,hd,q⟩:=h
 refine t ?_
 clear t
 refine#[_,(jd (jw 3 tW.nd (pv 2)) (jd (ke D0 Z (@ZM _ _ _ _ _ _ _ Z R boot_reversed (pv 1) Ib Ib Ih Ih) (ju (i:=4) tW.nd Z (Or.inl Z)) (jg (jw 3 tW.nd (kJ (pv 0) ck.cl hO GO hr.m bO .nil bh (ja (pv 4) (ja (pv 3) jb)))))) (jg (jl (pv 3))))),?_]
 have b0:=aB
 have hz:=I.sz
 have xl:=hb.len
 refine ak λF1 u=>#[_,Z,u _ _ ?_]
 clear u
 refine ak λF1 u=>?_
 refine dU λF kF=>#[_,Z,a,xs,Z,aA.of ha,kF _ _ ?_]
 clear kF
 refine QT (K:=K) (xs:=xs) (BI C r J V a m d l L Y b xs H) #[b,.nil,L,g,cs,_,Z,(qI b).symm,by rw[Hk,DY];exact hb,I.p,I.ng,I.c,ar.refl] (λi σ H' hi h=>?_) ?_ (λσ H' h=>u _ _ ?_)
 ·obtain⟨_,_,_,_,_,_,_,_,_,_,_,_,k⟩:=h
  exact aA.of (I.c.tm k _ _ ha)
 ·clear u
  intro E _ i x σ H2 M fE Gq t h
  obtain⟨pre,eh,v,W,o,o4,rfl,j,y,X,h4,N,O⟩:=h
  have hi:i < xs.length:=by
   rcases Gs i xs.length with z |z
   ·exact z
   ·rw[Ex (by simpa using z)]at M;cases M
  rw[FV hi]at M
  have et:xs.take (xs.length - i)=xs.take (xs.length - (i+1))++[x]:=by
   have D:xs.length - i=(xs.length - 1 - i)+1:=by omega
   have e2:xs.length - (i+1)=xs.length - 1 - i:=by omega
   rw[D,e2,D7,M]
   rfl
  rw[et]at y
  rcases y.last with ⟨e,_⟩ | ⟨ws,v',B,S,D,e2,h6,h7⟩
  ·exact absurd e Ie
  obtain⟨ew,ev⟩:=List.append_inj' D Z
  cases ev
  subst e2
  have h0:=zw (j▸I.ok)
  have G:=zw h0.1
  have a1:b.dep=max (B.app S).dep eh.dep:=by rw[j,kY]
  have a2:(B.app S).dep=max B.dep S.dep:=kY ..
  have h8:S.dep<=b.dep:=by rw[a1,a2];exact Ds (Hv ..) (HA ..)
  clear a1 a2
  have h':b.size=B.size+S.size+eh.size:=by rw[j,jT,jT]
  have hl:=j6 m eh l d
  have a0:=kr eh
  have a3:=Yo m eh l d
  have a4:(pB m eh l d).1.w.sets.length+(pB m eh l d).2.length+S.size<=10000000:=by have:=JI m eh l d;omega
  refine t ?_
  clear t
  have tm:=I.c.tm O
  show dD _ _ E [some (.ref r),some (.ref a),some L,some v,some x] H2
  refine#[_,Z,r,J,_,Z,N.ins,Z,_,Z,_,Z,r,J,V,W,m,_,o,_,x,v,Y,S,Z,#[N,X,h4,G.2,Ic],h7.mono tm,Ic,λv3 g3 c0 H3 p3 n3 c3 k3=>fE _ _ #[B,S.app eh,v3,g3,c0,_,Z,by rw[j,zE],?_,by rw[J1];exact p3,n3,by rw[J1];exact c3,O.trans k3]]
  rw[ew]
  exact h6
 ·obtain⟨pre,eh,v,W,o,o4,rfl,j,y,X,h4,N,O⟩:=h
  rw[Gr]at y
  have ep:pre= .nil:=by
   rcases y.last with ⟨_,e⟩ | ⟨ws,v,B,S,D,_⟩
   ·exact e
   ·exact absurd D Ie
  rw[ep]at j
  refine#[_,Z,q v W o H' ?_ h4 ?_ O]
  ·rw[j];exact X
  ·rw[j];exact N
theorem Ax:ai P w K mg base ax k f i ["self","body","behind"] (lF C 0):=by
 have n:∀v H Q E,¬lF C 0 v H Q E:=λv H Q E h=>by
  obtain⟨I,D,F,a,g,m,d,j,x,p,B,y,b,_,_,_,_,e,_⟩:=h
  exact absurd e (F8 _)
 exact#[λv H Q E h=>absurd h (n v H Q E),λA o s H c u v Q E _ _ _ _ h=>absurd h (n v H Q E)]
theorem Cy(c:CK K C)(FB:aJ K "place_of_body" "Cutting.place_of_body" sV g f)(F:aJ K "place_of" "Cutting.place_of" sM A a)(i:aJ K "place_of_cut" "Cutting.place_of_cut" ut D b)(j:aJ K "ways_of" "Cutting.ways_of" sY E d)
  (B:aw K f ["self","body","behind"] []) (H:bK K C "place_of_body" g) (k:aw K a ["self","statement","behind"] []) (l:bK K C "place_of" A) (o:aw K b ["self","statement","behind"] []) (p:bK K C "place_of_cut" D) (q:aw K d ["self","statement","place","behind"] []) (r:bK K C "ways_of" E)
  (s:Cl P w K mg base 2 T G ["body"] gB "many_cuts") (t:Cl P w K mg base 31 U I ["statement","behind"] (fj 7) "used_ahead_of") (u:Cl P w K mg base 1 Y J ["statement"] iq "deed_of") (v:Cl P w K mg base 8 fG L ["term"] gf "place_of_give") (x:Cl P w K mg base 11 fS N ["statement","behind"] h9 "place_of_set") (y:mg "len"=none) (m:mg "tuple"=none) (M:mg "reversed"=none):
  ∀n:Nat,n<=8->ai P w K mg base ax (4*n+31) g f ["self","body","behind"] (lF C n)
 |0,_=>Ax
 |n+1,h=>by
  have O:=Cy c FB F i j B H k l o p q r s t u v x y m M n Ic
  have Q:=yZ j c O B H
  have R:=AR i c Ic Q q r s t u y m
  have S:=Ay F c R o p v x
  have z:=AZ FB c S k l M
  have e:4*n+35=4*(n+1)+31:=by omega
  rw[e]at z
  exact z
theorem rM{X:Cx}{K:Frag}{n:Nat}(a:X.K=K)(b:X.calm=true)(h:yH X e t)
  (c:(assignEach e X.env).length=n) (H:(assignEach e X.env).findIdx? (·.1)=none):PG X (.Tuple e k p) (sI K n t):=by
 subst a
 exact zc b h c H
abbrev g3(K:Frag)(i j k:Nat):TG:=sI K 3 (dF (bf i) (dF (bf j) (dF (bf k) uL)))
theorem Br{t:L2.St}(h:t.length=3):∃a b c,t=[a,b,c]:=by
 match t,h with
 | [a,b,c],_=>exact#[a,b,c,Z]
noncomputable abbrev nV:Stmt:=bn 30
noncomputable abbrev mJ:Stmt:=bn 31
structure Df where
 f:Str
 p:Addr
 pa:Addr
 pb:Addr
 b:Bd
def vH(H:Hp)(d:Df)(v:V):Prop:=∃B,v= .ref d.p/\H d.p=some (.tup [.str d.f,.ref d.pa,.ref d.pb])/\H d.pb=some (.tup B)/\c8 H d.b B
def b6(H:Hp):List Df->List V->Prop
 | [],a=>a=[]
 |d::D,a=>∃v r,a=v::r/\vH H d v/\b6 H D r
theorem vH.mono(k:ah H a)(h:vH H d v):vH a d v:=by
 obtain⟨b,e,c,f,g⟩:=h
 exact#[b,e,k _ _ c,k _ _ f,g.mono k]
theorem b6.mono(k:ah H b):∀{a:List V},b6 H D a->b6 b D a:=by
 induction D with
 |nil=>exactλh=>h
 |cons d D i=>rintro a ⟨v,r,e,c,f⟩;exact#[v,r,e,c.mono k,i f]
theorem b6.snoc{d:Df}(a:vH H d v):∀{D:List Df} {b:List V},b6 H D b->b6 H (D++[d]) (b++[v])
 | [],_,h=>by have e:_=[]:=h;rw[e];exact#[v,[],Z,a,Z]
 |_::_,_,#[u,r,e,c,f]=>#[u,r++[v],by rw[e];rfl,c,b6.snoc a f]
theorem b6.len:∀{d:List Df} {v:List V},b6 H d v->v.length=d.length
 | [],_,h=>by have e:_=[]:=h;rw[e];rfl
 |_::_,_,#[u,r,e,b,a]=>by rw[e,DU,DU,b6.len a]
theorem b6.at:∀{D:List Df} {b:List V},b6 H D b->∀(i:Nat) (v:V),b[i]?=some v->∃d,D[i]?=some d/\vH H d v
 | [],_,h,i,v,a=>by have e:_=[]:=h;rw[e]at a;simp at a
 |d::_,_,#[u,r,e,c,f],0,v,a=>by rw[e]at a;cases a;exact#[d,Z,c]
 |_::D,_,#[u,r,e,c,f],i+1,v,a=>by rw[e]at a;simpa using b6.at f i v (by simpa using a)
def lD(d:Df):Prop:=(∃y:List Str,y.length<=20/\d.b.Ok y)/\d.b.dep < 8/\d.b.size<=3000
noncomputable def Ce(n:Addr):Pc:=#[λx=>x∈(Tm.num 0).vars,#[[],.give n]]
noncomputable def gF(n:Addr)(d:Df):Pc×List Ct:=pB (d.b.cuts:Int) d.b (Ce n) []
noncomputable def eA(n:Addr)(d:Df):Tr:=bJ [cp d.f,mZ d.pa,fq (gF n d).1.w,bJ ((gF n d).2.reverse.map AX)]
def md(K:Frag)(n:Addr):Prop:=∀H:Hp,aA K H n [.str "num",.int 0]
def rC(C:Addr):Sp:=λv H Q _=>∃(i d a:Addr) (b:Bd) (x:List V),v=[.ref i,.ref a]/\H i=some (.ins C d [])/\H a=some (.tup x)/\c8 H b x/\b.size<=10000000/\
 ∀(f:Addr) (h:Hp),H f=none->Cg h C i d f (b.cuts:Int) [] []->ar i H h->Q .non h
def lB(K:Frag)(n:Addr):Sp:=λa H Q _=>∃(d:Df) (B:List V),a=[.str d.f,.ref d.pa,.ref d.pb]/\H d.pb=some (.tup B)/\c8 H d.b B/\lD d/\∀(v:V) (h:Hp),a9 h (eA n d) v []->ae H h->Q v h
def lG(K:Frag)(n:Addr):Sp:=λb H Q _=>∃(a:Addr) (D:List Df) (x:List V),b=[.ref a]/\H a=some (.tup x)/\b6 H D x/\D.length<=1000/\(∀d∈D,lD d)/\∀(v:V) (h:Hp),a9 h (bJ (D.map (eA n))) v []->ae H h->Q v h
theorem Y9{K:Frag}{t:TE}{Q:List V->Hp->Prop}{H:Hp}(x:H a=some (.tup g))(u:b6 H D g)(R:D.length<=1000)
  (Pv:Nat->List V->Hp->Prop) (z:Pv 0 [] H) (A:∀i Y h,Pv i Y h->ae H h/\Y.length<=i)
  (C:∀i d B Y h,D[i]?=some d->h d.pb=some (.tup B)->c8 h d.b B->Pv i Y h->t (some (.str d.f)::some (.ref d.pa)::some (.ref d.pb)::l) h λy j=>Pv (i+1) (Y++[y]) j)
  (E:∀Y h,Pv D.length Y h->Q Y h):dM (uf K a) 3 l (g3 K 0 1 2) hX t Q H:=by
 have F:=aB
 have S:=u.len
 refine#[λi m Y h=>m=D.length - i/\i<=D.length/\Pv i Y h,#[D.length,Ie,Dt _,z],?_]
 intro i m Y h c
 refine aP λG k=>?_
 obtain⟨rfl,T,p⟩:=c
 refine k ?_
 clear k
 obtain⟨s,U⟩:=A i Y h p
 have c:aA K h a g:=aA.of (s _ _ x)
 by_cases n:i < D.length
 ·have I:i < g.length:=by omega
  refine .inr #[#[g,g[i],c,Dh I],Ic,Pv (i+1),λJ j L=>#[D.length - (i+1),Ic,Z,n,L],λv j W o y=>?_]
  obtain⟨e,y⟩:=y
  subst e
  have q:=y g c
  refine aP λG k=>?_
  obtain⟨d,r,B,rfl,M,N,O⟩:=(u.mono (ae.tm s)).at i v q
  refine k ?_
  clear k
  refine aP λG k=>?_
  obtain⟨X,t2,t3,rfl⟩:=Br o
  refine k ?_
  clear k
  refine#[d.p,_,Z,aA.of M,Z,_,_,Z,_,_,Z,_,_,Z,Z,#[[some _,some _,some _],Z,Z],?_]
  exact C i d B Y j r N O p
 ·have e:i=D.length:=by omega
  subst e
  exact .inl #[#[g,c,Ic],E Y h p]
theorem yV:aj ["self","body"] ["self","body"] (aa rg):=bo
theorem vV(F:aJ K "__init__" "Cutting.__init__" rg f t)(d:CK K C)(u:Cl P w K mg base 2 M v ["body"] gB "many_cuts"):ai P w K mg base ax 3 f t ["self","body"] (rC C):=by
 refine F.ok yV ?_ λy A O s H V Q E B h=>?_
 ·rintro _ _ _ _ ⟨i,D,a,b,x,rfl,_⟩
  rfl
 refine aP λR j=>?_
 obtain⟨i,D,a,b,x,rfl,G,I,J,L,q⟩:=h
 refine j ?_
 clear j
 refine#[_,(jd (@qr _ _ _ _ _ _ _ _ (pv 0) (u.e B.m (ja (pv 1) jb)) Z) (jg (@qr _ _ _ _ _ _ _ _ (pv 0) (jC jb) Z))),?_]
 refine ak λS l=>#[_,Z,a,b,x,Z,I,J,L,λT k=>#[_,Z,i,C,D,_,Z,k _ _ G,d.cl,d.nm,Ib,l _ _ ?_]]
 clear l
 refine#[gQ,λg n=>#[_,Z,i,C,D,_,Z,ao jc n,d.cl,d.nf,(by show 1 < 1000;decide),?_]]
 have N:g≠i:=λe=>by rw[e,jc]at n;cases n
 have p:H g=none:=by
  cases e:H g with
  |none=>rfl
  |some o=>rw[ji N,k _ _ e]at n;cases n
 refine q g _ p #[jc,by rw[ji N,jc],Z] λc o r e=>?_
 rw[ji r,ji (λz=>by rw[z,p]at e;cases e),ji r]
 exact k _ _ e
theorem lJ:aj ["name","params","body","cutting","first"] ["name","params","body"] (aa nV):=bo
theorem sL(F:aJ K "part_made" "part_made" nV f fd)(t:CK K C)(mk:Mk K C fI)(GI:ai P w K mg base ax 3 fI u ["self","body"] (rC C))(bI:aw K u ["self","body"] [])(mC:mg "Cutting"=some (.ref C))(M:mg "NOUGHT"=some (.ref n))(no:md K n)(GB:ai P w K mg base ax 63 fB x ["self","body","behind"] (lF C 8))(bB:aw K x ["self","body","behind"] [])(hB:bK K C "place_of_body" fB)(cG:Cl P w K mg base 8 fG f0 ["term"] (oG K) "place_of_give")(y:mg "tuple"=none)(z:mg "reversed"=none):ai P w K mg base ax 64 f fd ["name","params","body"] (lB K n):=by
 refine F.ok lJ ?_ λc0 A O s H vs Q E B h=>?_
 ·rintro _ _ _ _ ⟨d,G,rfl,_⟩
  rfl
 refine aP λGq kq=>?_
 obtain⟨d,G,rfl,hb,a,I,q⟩:=h
 refine kq ?_
 clear kq
 refine#[_,(jd (jw 3 lJ.nd (Yc mk GI B.m Z mC bI .nil bh (ja (pv 2) jb))) (jd (jw 4 lJ.nd (kJ (pv 3) t.cl hB GB B.m bB .nil bh (ja (pv 2) (ja (cG.e B.m (ja (qD (v:=.ref n) Z M Z) jb)) jb)))) (jg (jl (jh (ja (pv 0) (ja (pv 1) (ja (jy (pv 4)) (ja (@Y0 _ _ _ _ _ _ _ _ _ Z Z y EB Z z boot_reversed (ze (pv 3) Z) Ib Ib Ib Ib Ih Ih Ih Ih) jb))))))))),?_]
 have b0:=aB
 obtain⟨⟨ys,y0,ok⟩,J,hz⟩:=I
 refine ak λF1 j=>#[_,Z,λi D N L n0=>?_]
 have S:ae H (af (af H D (.own i)) i (.ins C D [])):=λc o e=>by rw[ji (jj e N),ji (jj e L)];exact e
 refine#[i,D,d.pb,d.b,G,Z,jc,S _ _ hb,a.mono (ae.tm S),Ic,λp H1 nf R k1=>#[Z,j _ _ ?_]]
 clear j
 have s1:ae H H1:=λc o e=>k1 c o (jj e N) (S _ _ e)
 have T:H p=none:=S.free nf
 refine ak λF1 j=>#[_,Z,i,D,_,Z,R.ins,Z,_,Z,n,ys,Z,no _,Ic,λv g H2 p2 n2 k2=>?_]
 have ng:g≠p:=λe=>by rw[e,R.fd]at n2;cases n2
 have U:=s1.trans k2
 refine#[i,D,p,d.pb,g,_,[],[],G,Ce n,v,ys,d.b,Z,#[R.same k2,p2,ng,ok,by show 0+0+d.b.size<=_;omega],U _ _ hb,a.mono (ae.tm U),J,λv3 g3 k V p3 n3 W k3=>j _ _ ?_]
 clear j
 obtain⟨r3,w3,rfl,X,Y⟩:=pS p3
 have s3:ae H V:=λc o e=>k3 c o (jj e T) (U _ _ e)
 refine#[_,Z,_,Z,js X Z #[_,Z,i,C,D,_,_,Z,W.ins,t.cl,t.nf,Z,p,k,Z,aE.of W.fd,λl nl=>#[nk,λr nr=>?_]]]
 have s5:ae V (af (af V l (.tup k.reverse)) r (.tup [.str d.f,.ref d.pa,w3,.ref l])):=(je nl).trans (je nr)
 refine q (.ref r) _ ?_ (s3.trans s5)
 refine jH jc (jp Z kC (jp Z Ja (jp Z (Y.mono (ae.tm s5)) (jp Z (jH (ao jc nr) ?_) jE))))
 have e:=Yn (W.tr.mono (ae.tm s5))
 rw[<- List.map_reverse]at e
 exact e
theorem yt:aj ["program"] ["program"] (aa mJ):=bo
noncomputable def oy:Scope:=#[.function,[(".0",.local),("name",.local),("params",.local),("body",.local),("part_made",.globalImplicit)],false,false,[]]
theorem Zv:(["name","params","body"]:List Str).Nodup:=by decide+kernel
theorem AV:aX ["program"] (aa mJ) oy ["name","params","body"] 3 []:=nh
theorem sC(F:aJ K "made" "made" mJ f p)(C:Cl P w K mg base 64 U t ["name","params","body"] (lB K N) "part_made")(M:mg "tuple"=none):ai P w K mg base ax 65 f p ["program"] (lG K N):=by
 refine F.ok yt ?_ λu A o s H V Q E x h=>?_
 ·rintro _ _ _ _ ⟨a,D,X,rfl,_⟩
  rfl
 refine aP λW k=>?_
 obtain⟨a,D,X,rfl,g,y,B,O,q⟩:=h
 refine k ?_
 clear k
 refine#[_,(jg (jl (jB jA Z M EB (ja (@kO _ _ _ _ _ _ _ (["name","params","body"]) (3) ([]) _ _ _ _ Z (zS (pv 0)) AV (λ_ _ _ _ _=>(rM (K:=K) (n:=3) Z Z (jx (ju (i:=0) Zv Z (Or.inl Z)) (jx (ju (i:=1) Zv Z (Or.inl Z)) (jx (ju (i:=2) Zv Z (Or.inl Z)) j8))) Z Z)) (λ_ _ _ _ _=>(@kW _)) (λ_ _ _ _ _=>(C.e x.m (ja (pv 0) (ja (pv 1) (ja (pv 2) jb))))) (by intro _;rfl)) jb)))),?_]
 refine#[_,Z,a,Z,#[_,aA.of g],?_]
 refine Y9 g y B (λi V b=>a9 b (aR ((D.take i).map (eA N))) .non V/\ae H b/\i<=D.length) #[Z,ae.refl _,Dt _] (λi V b h=>#[h.2.1,?_]) (λi d G V b c I J h=>?_) (λV b h l L=>?_)
 ·rw[zq h.1,Di,DG]
  exact Hz ..
 ·have R:i < D.length:=by
   rcases Gs i D.length with z |z
   ·exact z
   ·rw[Ex z]at c;cases c
  refine#[_,Z,_,Z,_,Z,d,G,Z,I,J,O d (Dx c),λv Y T j=>#[?_,h.2.1.trans j,R]]
  rw[D7,c,DJ]
  exact JH (jp Z T jE) (h.1.mono (ae.tm j))
 ·refine#[l,V,Z,.inl #[aE.of jc,λr S=>?_]]
  have s:ae b (af (af b l (.lst V)) r (.tup V)):=(je L).trans (je S)
  refine q (.ref r) _ (jH jc ?_) (h.2.1.trans s)
  have e:=h.1
  rw[DY]at e
  exact e.mono (ae.tm s)
noncomputable abbrev rh:Stmt:=bn 57
noncomputable abbrev pM:Stmt:=bn 58
noncomputable abbrev mG:Stmt:=bn 59
def aH(p q:Addr)(H h:Hp):Prop:=∀b o,b≠p->b≠q->H b=some o->h b=some o
theorem aH.refl:aH p q H H:=λ_ _ _ _ h=>h
theorem aH.trans(a:aH p q H d)(b:aH p q d e):aH p q H e:=λc o n m h=>b c o n m (a c o n m h)
theorem ar.two(a:ar p H b):aH p q H b:=λc o n _ h=>a c o n h
theorem aH.of_same(a:ae H b):aH p q H b:=λc o _ _ h=>a c o h
theorem aH.at:aH p q H (af H q o):=λb u _ m e=>by rw[ji m];exact e
def bP(H:Hp)(q:Addr):Prop:=∃k:Int,H q=some (.lst [.int k])
theorem bP.new{o:HO}(h:bP H q)(n:H r=none):bP (af H r o) q:=let #[k,e]:=h;#[k,ao e n]
theorem bP.ne(h:bP H q)(B:am H p):q≠p:=by
 obtain⟨k,e⟩:=h
 refine aP λG c=>?_
 obtain⟨a,b,_,_,_,d⟩:=B.ob
 refine c ?_
 clear c
 exact jI e d (by intro z;cases z)
theorem bP.but(h:bP H q)(B:am H p)(k:ar p H a):bP a q:=by
 have n:=h.ne B
 obtain⟨z,e⟩:=h
 exact#[z,k _ _ n e]
theorem aH.tm(k:aH p q H h)(B:am H p)(s:bP H q):ah H h:=λb x e=>by
 refine aP λG d=>?_
 obtain⟨a,c,_,_,_,f⟩:=B.ob
 refine d ?_
 clear d
 obtain⟨z,g⟩:=s
 exact k b _ (jI e f (by intro w;cases w)) (jI e g (by intro w;cases w)) e
noncomputable def bZ(H:Hp)(q:Addr):Int:=match H q with
 |some (.lst [.int k])=>k
 |_=>0
theorem zz{H:Hp}(e:H q=some (.lst [.int k])):bZ H q=k:=by unfold bZ;rw[e]
theorem Ql{h:Hp}(s:bP H q)(k:∀o,H q=some o->h q=some o):bZ h q=bZ H q:=by
 obtain⟨z,e⟩:=s
 rw[zz e,zz (k _ e)]
theorem jR(B:am H p)(s:bP H q)(k:ar p H h):bZ h q=bZ H q:=Ql s λo e=>k _ _ (s.ne B) e
theorem jU(s:bP H q)(k:ae H h):bZ h q=bZ H q:=Ql s λo e=>k _ _ e
def Bf(H:Hp)(c:Str×List Str)(v:V):Prop:=∃p t,v= .ref p/\H p=some (.tup [.str c.1,.ref t])/\H t=some (.tup (c.2.map V.str))
def di(H:Hp):List (Str×List Str)->List V->Prop
 | [],a=>a=[]
 |c::C,a=>∃v r,a=v::r/\Bf H c v/\di H C r
theorem di.mono(k:ah H b):∀{c:List (Str×List Str)} {a:List V},di H c a->di b c a
 | [],_,h=>h
 |_::_,_,#[v,r,e,#[p,t,E,d,f],g]=>#[v,r,e,#[p,t,E,k _ _ d,k _ _ f],di.mono k g]
theorem di.snoc(a:Bf H c v):∀{C:List (Str×List Str)} {b:List V},di H C b->di H (C++[c]) (b++[v])
 | [],_,h=>by have e:_=[]:=h;rw[e];exact#[v,[],Z,a,Z]
 |_::_,_,#[u,r,e,d,f]=>#[u,r++[v],by rw[e];rfl,d,di.snoc a f]
theorem di.len:∀{c:List (Str×List Str)} {v:List V},di H c v->v.length=c.length
 | [],_,h=>by have e:_=[]:=h;rw[e];rfl
 |_::_,_,#[u,r,e,b,a]=>by rw[e,DU,DU,di.len a]
theorem di.at:∀{C:List (Str×List Str)} {b:List V},di H C b->∀(i:Nat) (v:V),b[i]?=some v->∃c,C[i]?=some c/\Bf H c v
 | [],_,h,i,v,a=>by have e:_=[]:=h;rw[e]at a;simp at a
 |c::_,_,#[u,r,e,d,f],0,v,a=>by rw[e]at a;cases a;exact#[c,Z,d]
 |_::C,_,#[u,r,e,d,f],i+1,v,a=>by rw[e]at a;simpa using di.at f i v (by simpa using a)
theorem xE(h:di H C a)(i:0<=k)(j:k < (a.length:Int)):∃v c,dn a k=some v/\c∈C/\Bf H c v:=by
 have b:k.toNat < a.length:=by omega
 have d:k=((k.toNat:Nat):Int):=by omega
 have E:a[k.toNat]?=some a[k.toNat]:=Dh b
 have e:dn a ((k.toNat:Nat):Int)=some a[k.toNat]:=jO E
 rw[<- d]at e
 obtain⟨c,f,g⟩:=h.at _ _ E
 exact#[_,c,e,Dx f,g]
def Bd.fit(h:List (Str×List Str))(y:List Str)(d:Nat)(b:Bd):Prop:=(b.Ok y/\b.Cs (h.map λc=>(c.1,c.2.length)))/\b.dep<=d
theorem Yp:Bd.fit h y d .nil:=#[#[DR,DR],Dt _]
theorem yl{H:List (Str×List Str)}{l:Lf}(h:l.Ok y)(k:l.Cs (H.map λc=>(c.1,c.2.length))):Bd.fit H y d (.lf p l .nil):=#[#[#[h,DR],k,DR],Dt _]
theorem Yq{a b:Bd}(h:a.fit H y d)(k:b.fit H y d):(a.app b).fit H y d:=#[#[JZ h.1.1 k.1.1,JY h.1.2 k.1.2],by rw[kY];have:=h.2;have:=k.2;omega]
theorem ui{a b:Bd}(c:cw y T)(h:a.fit H y d)(k:b.fit H y d):Bd.fit H y (d+1) (.ite p t T a b .nil):=#[#[#[c,h.1.1,k.1.1,DR],h.1.2,k.1.2,DR],by show max (max a.dep b.dep+1) 0<=d+1;have:=h.2;have:=k.2;omega]
theorem oq{a:Bd}(H:cw y T)(h:a.fit b y d):Bd.fit b y (d+1) (.loop p t T a .nil):=#[#[#[H,h.1.1,DR],h.1.2,DR],by show max (a.dep+1) 0<=d+1;have:=h.2;omega]
noncomputable def CP:Nat->Nat
 |0=>1
 |d+1=>1+2*(5*CP d)
def iD:Sp:=λv H Q _=>∃(p g:Addr) (y:List Str),v=[.ref p,.ref g]/\am H p/\H g=some (.lst (y.map V.str))/\1<=y.length/\y.length<=20/\∀(r:Addr) (T:Tm) (h:Hp),a6 h T r->cw y T->am h p->ar p H h->Q (.ref r) h
structure ls(H:Hp)(p g h sp:Addr)(ys:List Str)(hs:List (Str×List Str)):Prop where
 B:am H p
 g:H g=some (.lst (ys.map V.str))
 y1:1<=ys.length
 y2:ys.length<=20
 h:∃hv,H h=some (.lst hv)/\di H hs hv
 h1:1<=hs.length
 h2:hs.length<=20
 h3:∀c∈hs,c.2.length<=6
 s:bP H sp
theorem ls.gsp{H:Hp}{p g h S:Addr}{y:List Str}{b:List (Str×List Str)}(G:ls H p g h S y b):g≠S:=by
 obtain⟨k,e⟩:=G.s
 refine jI G.g e λz=>?_
 injection z with z
 have c:=G.y1
 match y,c,z with
 |a::r,_,z=>injection z with d _;cases d
theorem ls.hsp{H:Hp}{p g h S:Addr}{y:List Str}{f:List (Str×List Str)}(G:ls H p g h S y f):h≠S/\h≠p:=by
 obtain⟨k,e⟩:=G.s
 obtain⟨j,E,l⟩:=G.h
 refine aP λu i=>?_
 obtain⟨a,b,_,_,_,m⟩:=G.B.ob
 refine i ?_
 clear i
 have n:=G.h1
 have:∃q r,j= .ref q::r:=by
  match f,n,l with
  |c::C,_,#[v,r,e,#[q,t,o,_],_]=>exact#[q,r,by rw[e,o]]
 obtain⟨q,r,rfl⟩:=this
 refine#[jI E e λz=>?_,jI E m λz=>?_]
 ·injection z with z
  injection z with d _
  cases d
 ·injection z with z
  injection z with d _
  cases d
theorem ls.but2{H a:Hp}{p g h S:Addr}{y:List Str}{b:List (Str×List Str)}(G:ls H p g h S y b)(B:am a p)(s:bP a S)(k:aH p S H a):ls a p g h S y b:=by
 obtain⟨c,e,E⟩:=G.h
 exact#[B,k _ _ (zf G.B G.g) G.gsp G.g,G.y1,G.y2,#[c,k _ _ G.hsp.2 G.hsp.1 e,E.mono (k.tm G.B G.s)],G.h1,G.h2,G.h3,s]
theorem ls.but{H a:Hp}{p g h S:Addr}{y:List Str}{b:List (Str×List Str)}(G:ls H p g h S y b)(B:am a p)(k:ar p H a):ls a p g h S y b:=G.but2 B (G.s.but G.B k) k.two
def iZ(n:Nat):Sp:=λv H Q _=>∃(p g h s:Addr) (d:Nat) (y:List Str) (c:List (Str×List Str)),v=[.ref p,.ref g,.ref h,.ref s,.int (d:Int)]/\ls H p g h s y c/\d < n/\0 < bZ H s/\
 ∀(r:Addr) (b:Bd) (a:Hp),c8 a b [.ref r]->(b.size:Int)+bZ a s<=bZ H s->0<=bZ a s->b.fit c y d->am a p->bP a s->aH p s H a->Q (.ref r) a
def gA(n:Nat):Sp:=λv H Q _=>∃(p g h s:Addr) (d:Nat) (y:List Str) (c:List (Str×List Str)),v=[.ref p,.ref g,.ref h,.ref s,.int (d:Int)]/\ls H p g h s y c/\d < n/\0<=bZ H s/\
 ∀(r:Addr) (b:Bd) (B:List V) (a:Hp),a r=some (.tup B)->c8 a b B->(b.size:Int)+bZ a s<=bZ H s->0<=bZ a s->b.fit c y d->am a p->bP a s->aH p s H a->Q (.ref r) a
theorem rH:aj ["_law_box_here","_law_names_here","_law_kind"] ["_law_box_here","_law_names_here"] (aa rh):=bo
theorem sW(F:aJ K "_law_spot" "_law_spot" rh f M)(C:Cl P w K mg base 1 Y N ["_law_box_here","_law_wide"] aM "_law_take")(O:Cl P w K mg base 6 fM R ["_law_box_here","_law_names_here","_law_deep"] (cq 4) "_law_term"):ai P w K mg base ax 7 f M ["_law_box_here","_law_names_here"] iD:=by
 refine F.ok rH ?_ λS A o s H vs Q E a h=>?_
 ·rintro _ _ _ _ ⟨p,g,y,rfl,_⟩
  rfl
 refine aP λGq G=>?_
 obtain⟨p,g,y,rfl,B,I,i,j,q⟩:=h
 refine G ?_
 clear G
 refine#[_,(jd (jw 2 rH.nd (C.e a.m (ja (pv 0) (ja jf jb)))) (jd (jv (jz Jm (pv 2) jf (aF _)) (jg (jl (O.e a (ja (pv 0) (ja (pv 1) (ja jf jb)))))) jm) (jd (jv (kE (pv 2)) (jg (jl (jh (ja jk (ja (jr kB (jr kB (jr JV jf jf) jf) (C.e a.m (ja (pv 0) (ja jf jb)))) jb))))) jm) (jg (jl (jh (ja jk (ja (C.e a.m (ja (pv 0) (ja jf jb))) jb)))))))),?_]
 have k:g≠p:=zf B I
 refine#[_,Z,p,8,Z,B,Ib,Ib,λkd J k0 k1 l L=>?_]
 have t:J g=some (.lst (y.map V.str)):=by rw[L g k];exact I
 have u:ar p H J:=ar.of_eq L
 refine#[_,Z,_,_,Z,Z,_,Z,?_]
 refine bp (λc=>?_) (λc=>?_)
 ·exact#[_,Z,_,Z,p,g,1,y,Z,l,t,i,j,Ib,Ib,λr T v U dT W b X=>q r T v U #[W,Ic] b (u.trans X)]
 refine#[_,Z,Z,_,Z,?_]
 refine bp (λc=>?_) (λc=>?_)
 ·refine#[_,_,Z,Z,#[Ib,Ib,Ib],_,_,Z,Z,_,Z,p,4,Z,l,Ib,Ib,λD v d x b z=>#[_,_,Z,Z,bG,λr n=>?_]]
  exact q r (.num (1000000000000000000 - 1 - D)) _ jc #[#[Ic,Ic],(by show 0 < 6;decide)] (b.upd_new n) ((u.trans (ar.of_eq z)).upd_new n)
 ·refine#[_,Z,p,12,Z,l,Ib,Ib,λD v d x b z=>#[bG,λr n=>?_]]
  exact q r (.num D) _ jc #[#[d,Ic],(by show 0 < 6;decide)] (b.upd_new n) ((u.trans (ar.of_eq z)).upd_new n)
theorem gY:aj ["_law_box_here","_law_names_here","_law_heads","_law_spare","_law_deep","_law_kind","_law_x","_law_f","_law_params","_law_body_here"] ["_law_box_here","_law_names_here","_law_heads","_law_spare","_law_deep"] (aa pM):=bo
noncomputable def Za:Scope:=#[.function,[(".0",.local),("_law_one",.local),("_law_term",.globalImplicit),("_law_box_here",.free),("_law_names_here",.free)],false,false,[]]
theorem yx:(["_law_one","_law_box_here","_law_names_here"]:List Str).Nodup:=by decide+kernel
theorem xJ:aX ["_law_box_here","_law_names_here","_law_heads","_law_spare","_law_deep","_law_kind","_law_x","_law_f","_law_params","_law_body_here"] (aa pM) Za ["_law_one","_law_box_here","_law_names_here"] 1 [0,1]:=nh
def RH(p g h s:Addr)(d:Nat)(k:Int)(y:Str)(H:Hp)(a:L2.St)(b:Hp):Prop:=a=[some (.ref p),some (.ref g),some (.ref h),some (.ref s),some (.int (d:Int)),some (.int k),some (.str y),none,none,none]/\b=H
theorem xo(F:aJ K "_law_statement" "_law_statement" pM f fd)(cT:Cl P w K mg base 1 fT f0 ["_law_box_here","_law_wide"] aM "_law_take")(cM:Cl P w K mg base 6 fM f3 ["_law_box_here","_law_names_here","_law_deep"] (cq 4) "_law_term")(cP:Cl P w K mg base 7 fP f4 ["_law_box_here","_law_names_here"] iD "_law_spot"){L:Nat}(cB:Cl P w K mg base (L+9) fB f5 ["_law_box_here","_law_names_here","_law_heads","_law_spare","_law_deep"] (gA n) "_law_body")(ml:mg "len"=none)(m0:mg "tuple"=none):ai P w K mg base ax (L+10) f fd ["_law_box_here","_law_names_here","_law_heads","_law_spare","_law_deep"] (iZ (n+1)):=by
 refine F.ok gY ?_ λc3 A o2 s H vs Q E U h=>?_
 ·rintro _ _ _ _ ⟨p,g,h,S,d,ys,hs,rfl,_⟩
  rfl
 refine aP λGq kq=>?_
 obtain⟨p,g,h,S,d,ys,hs,rfl,G0,hd,b5,q⟩:=h
 refine kq ?_
 clear kq
 refine#[_,(jd (jw 5 gY.nd (cT.e U.m (ja (pv 0) (ja jf jb)))) (jd (jw 6 gY.nd (jq jo (pv 1) (cT.e U.m (ja (pv 0) (ja (jJ jK Z ml Eu (ja (pv 1) jb)) jb))) (λ_ _=>Z))) (jd (kL (jr kB (jq jo (pv 3) jf (λ_ _=>Z)) jf) (zR (pv 3) jf kQ)) (jd (jv (jz Jm (pv 5) jf (aF _)) (jg (jl (jh (ja jk (ja (pv 6) (ja (cP.e U.m (ja (pv 0) (ja (pv 1) jb))) jb)))))) jm) (jd (jv (PW.pt (KK (kE (pv 5)) (qY (kE (pv 5))))) (jg (jl (jh (ja jk (ja (cP.e U.m (ja (pv 0) (ja (pv 1) jb))) (ja (cM.e U.m (ja (pv 0) (ja (pv 1) (ja jf jb)))) jb)))))) jm) (jd (jv (PW.pt (KK (kE (pv 5)) (qY (kE (pv 5))))) (jd (kL (jq jo (pv 2) (cT.e U.m (ja (pv 0) (ja (jJ jK Z ml Eu (ja (pv 2) jb)) jb))) (λ_ _=>Z)) (zc (n:=2) Z (jx (ju (i:=7) gY.nd Z (Or.inl Z)) (jx (ju (i:=8) gY.nd Z (Or.inl Z)) j8)))) (jg (jl (jh (ja jk (ja (pv 6) (ja (pv 7) (ja (jB jA Z m0 EB (ja (@kO _ _ _ _ _ _ _ (["_law_one","_law_box_here","_law_names_here"]) (1) ([0,1]) _ _ _ _ Z (zS (pv 8)) xJ (λ_ _ _ _ _=>(ju (i:=0) yx Z (Or.inl Z))) (λ_ _ _ _ _=>(@kW _)) (λ_ _ _ _ _=>(cM.e U.m (ja (pv 1) (ja (pv 2) (ja jf jb))))) (by intro _;rfl)) jb)) jb)))))))) jm) (jd (jX (jv (PW.pt (JU (kE (pv 5)) (qE (jz qA (pv 4) jf (aF _))))) (jd (jw 9 gY.nd (cB.e U (ja (pv 0) (ja (pv 1) (ja (pv 2) (ja (pv 3) (ja (jr kB (pv 4) jf) jb))))))) (jg (jl (jh (ja jk (ja (cM.e U.m (ja (pv 0) (ja (pv 1) (ja jf jb)))) (ja (pv 9) (ja (cB.e U (ja (pv 0) (ja (pv 1) (ja (pv 2) (ja (pv 3) (ja (jr kB (pv 4) jf) jb)))))) jb)))))))) jm)) (jd (jX (jv (PW.pt (JU (kE (pv 5)) (qE (jz qA (pv 4) jf (aF _))))) (jg (jl (jh (ja jk (ja (cM.e U.m (ja (pv 0) (ja (pv 1) (ja jf jb)))) (ja (cB.e U (ja (pv 0) (ja (pv 1) (ja (pv 2) (ja (pv 3) (ja (jr kB (pv 4) jf) jb)))))) jb)))))) jm)) (jd (jv (kE (pv 5)) (jg (jl (jh (ja jk (ja (cM.e U.m (ja (pv 0) (ja (pv 1) (ja jf jb)))) jb))))) jm) (jg (jl (jh (ja jk (ja (pv 6) (ja (cM.e U.m (ja (pv 0) (ja (pv 1) (ja jf jb)))) jb))))))))))))))),?_]
 have b7:=aB
 have B:=G0.B
 have b9:g≠p:=zf B G0.g
 refine ak λF1 u=>#[_,Z,p,10,Z,B,Ib,Ib,λkd H1 k0 k1 B1 e1=>u _ _ ?_]
 clear u
 have G1:=G0.but B1 (ar.of_eq e1)
 have y1:=G0.y1
 have y2:=G0.y2
 refine ak λF1 u=>#[_,Z,_,Z,_,Z,g,_,Z,.inl (aE.of G1.g),p,_,Z,B1,by rw[Di];omega,by rw[Di];omega,λd2 H2 d1 d0 B2 e2=>?_]
 rw[Di]at d0
 have G2:=G1.but B2 (ar.of_eq e2)
 obtain⟨y,hy,a2⟩:=qZ (ys:=ys) d1 d0
 refine#[g,_,_,_,Z,Z,aE.of G2.g,a2,u _ _ ?_]
 clear u
 obtain⟨k,hk⟩:=G2.s
 have ek:bZ H S=k:=((jR B1 G1.s (ar.of_eq e2)).trans (jR B G0.s (ar.of_eq e1))).symm.trans (zz hk)
 refine ak λF1 u=>#[_,Z,S,_,_,_,Z,Z,aE.of hk,Z,_,_,Z,Z,_,Z,S,_,_,0,Z,Z,hk,Z,u _ _ ?_]
 clear u
 have s0:=G2.s.ne B2
 have B3:am (af H2 S (.lst ([.int k].set 0 (.int (k - 1))))) p:=B2.eq (ji (DQ s0))
 have s3:bP (af H2 S (.lst ([.int k].set 0 (.int (k - 1))))) S:=#[k - 1,jc]
 have K3:aH p S H (af H2 S (.lst ([.int k].set 0 (.int (k - 1))))):=((ar.of_eq e1).trans (ar.of_eq e2)).two.trans aH.at
 have G:=G0.but2 B3 s3 K3
 have e3:bZ (af H2 S (.lst ([.int k].set 0 (.int (k - 1))))) S=k - 1:=zz jc
 generalize af H2 S (.lst ([.int k].set 0 (.int (k - 1))))=H3 at B3 s3 K3 G e3
 have l0:∀(l:Lf) (M:List V) (j:Hp) (r:Addr),um j l M->l.Ok ys->l.Cs (hs.map λc=>(c.1,c.2.length))->ls j p g h S ys hs->aH p S H j->bZ j S=k - 1->j r=none->Q (.ref r) (af j r (.tup M)):=λl M j r hl ok cs C K4 e4 nr=>
  q r (.lf r l .nil) _ #[M,[],Z,jc,hl.mono (ae.tm (je nr)),Z] (by rw[jU C.s (je nr)];show((0+1:Nat):Int)+_<=_;omega) (by rw[jU C.s (je nr)];omega) (yl ok cs) (C.B.upd_new nr) (C.s.new nr) (K4.trans (aH.of_same (je nr)))
 refine ak λF1 u=>my λG' D=>#[_,Z,_,_,Z,Z,_,Z,D _ _ ?_]
 clear D
 refine bp (λc=>?_) (λc=>u _ _ ?_)
 ·refine#[_,Z,_,Z,_,Z,p,g,ys,Z,G.B,G.g,y1,y2,λr T j W oT B4 J=>#[dP,λt N=>?_]]
  exact l0 (.rd y r T) _ j t #[Z,W] #[hy,oT] DR (G.but B4 J) (K3.trans J.two) ((jR G.B G.s J).trans e3) N
 have wr:∀(r:Addr) (T0:Tm) (j:Hp),a6 j T0 r->cw ys T0->am j p->ar p H3 j->dq (cq 4) [] E0 (al (aU 0) (al (aU 1) (al (tC (.int 2)) aI))) [some (.ref p),some (.ref g),some (.ref h),some (.ref S),some (.int (d:Int)),some (.int kd),some (.str y),none,none,none] j (λv o=>3<=sizeLine/\∀t,o t=none->Q (.ref t) (af o t (.tup [.str "write",.ref r,v]))):=λr T0 j h4 o1 B4 J=>by
  refine#[_,Z,_,Z,p,g,2,ys,Z,B4,(G.but B4 J).g,y1,y2,Ib,Ib,λX T o W dT gT R a=>#[Ib,λt N=>?_]]
  exact l0 (.wr r X T0 T) _ o t #[Z,h4.but B4 a,W] #[o1,gT,Ic] DR (G.but R (J.trans a)) (K3.trans (J.trans a).two) ((jR G.B G.s (J.trans a)).trans e3) N
 refine ak λF1 u=>my λG' D=>?_
 have Y:G' true H3:=D _ _ (iT #[_,Z,_,Z,p,g,ys,Z,G.B,G.g,y1,y2,λr T0 j h4 o1 B4 J=>wr r T0 j h4 o1 B4 J])
 refine#[_,Z,Z,_,Z,bp (λc=>Y) (λc=>#[_,Z,Z,_,Z,vo Y λc2=>D _ _ (aO c2 (u _ _ ?_))])]
 clear Y D u
 obtain⟨hv,hh,hH⟩:=G.h
 have hl:=hH.len
 have h1:=G0.h1
 have h2:=G0.h2
 have c1:∀(f':Str) (ps:List Str) (h':(f',ps.length)∈hs.map λc=>(c.1,c.2.length)) (t:Addr) (j:Hp),ls j p g h S ys hs->aH p S H j->bZ j S=k - 1->j t=some (.tup (ps.map V.str))->ps.length<=6->
   dM (uf K t) 1 [some (.ref p),some (.ref g)] (bf 0) hX (dq (cq 4) [] E0 (al (aU 1) (al (aU 2) (al (tC (.int 1)) aI)))) (λM o=>∀l,o l=none->∃p' y0,[V.ref l]=[.ref p']/\((aE K (af o l (.lst M)) p' y0/\∀l2,af o l (.lst M) l2=none->4<=sizeLine/\∀r,af (af o l (.lst M)) l2 (.tup y0) r=none->Q (.ref r) (af (af (af o l (.lst M)) l2 (.tup y0)) r (.tup [.str "call",.str y,.str f',.ref l2])))∨(aA K (af o l (.lst M)) p' y0/\4<=sizeLine/\∀r,af o l (.lst M) r=none->Q (.ref r) (af (af o l (.lst M)) r (.tup [.str "call",.str y,.str f',.ref p']))))) j:=λf' ps h' t j C K4 e4 ht c4=>by
  refine qj (K:=K) (xs:=ps.map V.str) (by rw[Di];omega) (λi M o=>∃ts:List (Addr×Tm),M=ts.map (λc=>V.ref c.1)/\ts.length=i/\(∀c∈ts,a6 o c.2 c.1/\cw ys c.2)/\am o p/\ar p j o) #[[],Z,Z,(λ_ h=>absurd h DO),C.B,ar.refl] (λi M o h5=>?_) ?_ ?_
  ·obtain⟨ts,rfl,e5,_,_,a⟩:=h5
   exact#[aA.of (a.tm C.B _ _ ht),by rw[Di,e5];exact Dk _]
  ·intro i x M o hx a3
   refine aP λGq kq=>?_
   obtain⟨ts,rfl,e5,h5,R,a⟩:=a3
   refine kq ?_
   clear kq
   refine#[_,Z,_,Z,p,g,1,ys,Z,R,(C.but R a).g,y1,y2,Ib,Ib,λX T H6 W dT gT B6 k6=>#[ts++[(X,T)],by rw[DJ];rfl,by rw[Dj,e5];rfl,λc hc=>?_,B6,a.trans k6]]
   rcases List.mem_append.mp hc with hc |hc
   ·exact#[(h5 c hc).1.but R k6,(h5 c hc).2]
   ·rw[List.mem_singleton.mp hc]
    exact#[W,gT,(by show T.depth < 6;omega)]
  ·rintro M o ⟨ts,rfl,e5,h5,R,a⟩ l nl
   refine#[l,_,Z,.inl #[aE.of jc,λl2 n0=>#[Ib,λr nr=>?_]]]
   have O:=C.but R a
   have s6:ae o (af (af o l (.lst (ts.map λc=>V.ref c.1))) l2 (.tup (ts.map λc=>V.ref c.1))):=(je nl).trans (je n0)
   rw[Di]at e5
   exact l0 (.cl y f' l2 ts) _ _ r #[Z,jc,λc hc=>(h5 c hc).1.same s6] #[hy,Ic,λc hc=>(h5 c hc).2] (by show(f',ts.length)∈_;rw[e5];exact h') (O.but2 ((O.B.upd_new nl).upd_new n0) ((O.s.new nl).new n0) (aH.of_same s6)) ((K4.trans a.two).trans (aH.of_same s6)) ((jU O.s s6).trans ((jR C.B C.s a).trans e4)) nr
 refine ak λF1 u=>my λG' D=>?_
 have Y:G' true H3:=by
  refine D _ _ (iT ?_)
  clear u D
  refine ak λF2 f2=>#[_,Z,_,Z,_,Z,h,_,Z,.inl (aE.of hh),p,_,Z,G.B,Ic,Ic,λd4 j d3 d5 B4 e4=>?_]
  have C:=G.but B4 (ar.of_eq e4)
  have J:ar p H3 j:=ar.of_eq e4
  have a4:=hH.mono (J.tm G.B)
  refine aP λGq kq=>?_
  obtain⟨v,c0,a5,a0,p4,t4,rfl,z1,z2⟩:=xE a4 d3 d5
  refine kq ?_
  clear kq
  refine#[h,_,_,_,Z,Z,aE.of (J _ _ G.hsp.2 hh),a5,p4,_,Z,aA.of z1,Z,_,_,Z,_,_,Z,Z,f2 _ _ ?_]
  clear f2
  refine#[_,Z,_,Z,_,Z,t4,Z,#[_,aA.of z2],?_]
  exact c1 c0.1 c0.2 (List.mem_map.mpr #[c0,a0,Z]) t4 j C (K3.trans J.two) ((jR G.B G.s J).trans e3) z2 (G0.h3 c0 a0)
 refine#[_,Z,Z,_,Z,bp (λc=>Y) (λc=>#[_,Z,Z,_,Z,vo Y λc2=>D _ _ (aO c2 (u _ _ ?_))])]
 clear Y D u
 have l1:∀(c:(0:Int) < (d:Int)),∃d':Nat,d=d'+1:=λc=>#[d - 1,Ic]
 refine ak λF1 u=>df (RH p g h S d kd y H3) (λE6 eR f6=>?_) λσ0 H' z=>?_
 ·clear u
  refine my λG' D=>#[_,Z,Z,_,Z,?_]
  refine bp (λc=>?_) (λc=>D _ _ (nC (f6 _ _ #[Z,Z])))
  refine#[_,Z,_,_,Z,Z,_,Z,D _ _ ?_]
  clear D
  refine bp (λc2=>?_) (λc2=>f6 _ _ #[Z,Z])
  clear f6
  obtain⟨d',rfl⟩:=l1 (Em c2)
  have ed:(((d'+1:Nat):Int) - 1)=((d':Nat):Int):=by omega
  refine#[_,Z,_,Z,_,Z,_,Z,_,Z,_,_,Z,Z,p,g,h,S,d',ys,hs,(by show [V.ref p,V.ref g,V.ref h,V.ref S,V.int (((d'+1:Nat):Int) - 1)]=_;rw[ed]),G,Ic,Ic,λr b bs j a' b1 c5 b2 b4 B4 s4 J=>?_]
  have C:=G.but2 B4 s4 J
  refine#[_,Z,_,Z,p,g,2,ys,Z,C.B,C.g,y1,y2,Ib,Ib,λX T o W dT gT R a=>?_]
  have O:=C.but R a
  refine#[_,Z,_,Z,_,Z,_,Z,_,Z,_,Z,_,_,Z,Z,p,g,h,S,d',ys,hs,(by show [V.ref p,V.ref g,V.ref h,V.ref S,V.int (((d'+1:Nat):Int) - 1)]=_;rw[ed]),O,Ic,(by rw[jR C.B C.s a];exact b2),λr3 b3 b0 H6 h6 h7 a1 h8 h0 B6 s6 k6=>#[nk,λt N=>?_]]
  have G6:=O.but2 B6 s6 k6
  have tm:ah j H6:=λb' xs e=>k6.tm O.B O.s _ _ (a.tm C.B _ _ e)
  have I:ah H6 (af H6 t (.tup [.str "if",.ref X,.ref r,.ref r3])):=ae.tm (je N)
  rw[eR]
  refine q t (.ite t X T b b3 .nil) _ #[r,r3,bs,b0,[],Z,jc,(W.mono (k6.tm O.B O.s)).mono I,I _ _ (tm _ _ a'),I _ _ h6,(b1.mono tm).mono I,h7.mono I,Z] (by have x1:=jR C.B C.s a;rw[jU G6.s (je N)];show((b.size+b3.size+0+1:Nat):Int)+_<=_;omega) (by rw[jU G6.s (je N)];exact h8) (ui #[gT,Ic] b4 h0) (G6.B.upd_new N) (G6.s.new N) (((K3.trans J).trans (a.two.trans k6)).trans (aH.of_same (je N)))
 obtain⟨rfl,e⟩:=z
 rw[e]
 refine u _ _ ?_
 clear u
 refine ak λF1 u=>df (RH p g h S d kd y H3) (λE6 eR f6=>?_) λσ0 H' z=>?_
 ·clear u
  refine my λG' D=>#[_,Z,Z,_,Z,?_]
  refine bp (λc=>?_) (λc=>D _ _ (nC (f6 _ _ #[Z,Z])))
  refine#[_,Z,_,_,Z,Z,_,Z,D _ _ ?_]
  clear D
  refine bp (λc2=>?_) (λc2=>f6 _ _ #[Z,Z])
  clear f6
  obtain⟨d',rfl⟩:=l1 (Em c2)
  have ed:(((d'+1:Nat):Int) - 1)=((d':Nat):Int):=by omega
  refine#[_,Z,_,Z,p,g,2,ys,Z,G.B,G.g,y1,y2,Ib,Ib,λX T o W dT gT R a=>?_]
  have O:=G.but R a
  refine#[_,Z,_,Z,_,Z,_,Z,_,Z,_,_,Z,Z,p,g,h,S,d',ys,hs,(by show [V.ref p,V.ref g,V.ref h,V.ref S,V.int (((d'+1:Nat):Int) - 1)]=_;rw[ed]),O,Ic,(by rw[jR G.B G.s a];omega),λr3 b3 b0 H6 h6 h7 a1 h8 h0 B6 s6 k6=>#[dP,λt N=>?_]]
  have G6:=O.but2 B6 s6 k6
  have I:ah H6 (af H6 t (.tup [.str "while",.ref X,.ref r3])):=ae.tm (je N)
  rw[eR]
  refine q t (.loop t X T b3 .nil) _ #[r3,b0,[],Z,jc,(W.mono (k6.tm O.B O.s)).mono I,I _ _ h6,h7.mono I,Z] (by have x1:=jR G.B G.s a;rw[jU G6.s (je N)];show((b3.size+0+1:Nat):Int)+_<=_;omega) (by rw[jU G6.s (je N)];exact h8) (oq #[gT,Ic] h0) (G6.B.upd_new N) (G6.s.new N) ((K3.trans (a.two.trans k6)).trans (aH.of_same (je N)))
 obtain⟨rfl,e⟩:=z
 rw[e]
 refine u _ _ ?_
 clear u
 refine ak λF1 u=>my λG' D=>#[_,Z,Z,_,Z,D _ _ ?_]
 clear D
 refine bp (λc=>?_) (λc=>u _ _ ?_)
 ·refine#[_,Z,_,Z,p,g,2,ys,Z,G.B,G.g,y1,y2,Ib,Ib,λX T o W dT gT R a=>#[bG,λt N=>?_]]
  exact l0 (.gv X T) _ o t #[Z,W] #[gT,Ic] DR (G.but R a) (K3.trans a.two) ((jR G.B G.s a).trans e3) N
 ·refine#[_,Z,_,Z,_,Z,p,g,3,ys,Z,G.B,G.g,y1,y2,Ib,Ib,λX T o W dT gT R a=>#[dP,λt N=>?_]]
  exact l0 (.st y X T) _ o t #[Z,W] #[hy,gT,Ic] DR (G.but R a) (K3.trans a.two) ((jR G.B G.s a).trans e3) N
theorem lP:aj ["_law_box_here","_law_names_here","_law_heads","_law_spare","_law_deep","_law_body_here","_law_k"] ["_law_box_here","_law_names_here","_law_heads","_law_spare","_law_deep"] (aa mG):=bo
theorem Yr(F:aJ K "_law_body" "_law_body" mG f fd)(cT:Cl P w K mg base 1 fT f0 ["_law_box_here","_law_wide"] aM "_law_take"){L:Nat}(cS:Cl P w K mg base (L+8) fS f1 ["_law_box_here","_law_names_here","_law_heads","_law_spare","_law_deep"] (iZ n) "_law_statement")(mr:mg "range"=none)(m2:mg "tuple"=none):ai P w K mg base ax (L+9) f fd ["_law_box_here","_law_names_here","_law_heads","_law_spare","_law_deep"] (gA n):=by
 refine F.ok lP ?_ λc0 A o1 s H v Q E hr h=>?_
 ·rintro _ _ _ _ ⟨p,g,h,S,d,ys,hs,rfl,_⟩
  rfl
 refine aP λGq y=>?_
 obtain⟨p,g,h,S,d,ys,hs,rfl,G,hd,h0,q⟩:=h
 refine y ?_
 clear y
 refine#[_,(jd (jw 5 lP.nd (jC jb)) (jd (ke D0 Z (jZ Z mr (ja (cT.e hr.m (ja (pv 0) (ja jf jb))) jb)) (ju (i:=6) lP.nd Z (Or.inl Z)) (jg (jv (jz qA (jq jo (pv 3) jf (λ_ _=>Z)) jf (aF _)) (jg (jN (kh Dw DN DM jP (pv 5) (ja (cS.e hr (ja (pv 0) (ja (pv 1) (ja (pv 2) (ja (pv 3) (ja (pv 4) jb)))))) jb)))) jm))) (jg (jl (jB jA Z m2 EB (ja (pv 5) jb)))))),?_]
 have b0:=aB
 refine#[Dt _,λl N=>?_]
 have s0:ae H (af H l (.lst [])):=je N
 have O:ls (af H l (.lst [])) p g h S ys hs:=G.but2 (G.B.upd_new N) (G.s.new N) (aH.of_same s0)
 have l1:af H l (.lst []) l=some (.lst []):=jc
 have lp:l≠p:=G.B.ne N
 have D:l≠S:=λe=>by obtain⟨k,z⟩:=G.s;rw[<- e,N]at z;cases z
 have k1:aH p S H (af H l (.lst [])):=aH.of_same s0
 have R:bZ (af H l (.lst [])) S=bZ H S:=jU G.s s0
 generalize af H l (.lst [])=H1 at O l1 k1 R
 refine#[_,Z,p,6,Z,O.B,Ib,Ib,λm H2 m0 m1 B2 e2=>#[_,Z,Ic,Ic,?_]]
 have G2:=O.but B2 (ar.of_eq e2)
 refine KR (lo:=0) (λi σ I=>∃(o6:Option V) (v:List V) (b:Bd),σ=[some (.ref p),some (.ref g),some (.ref h),some (.ref S),some (.int (d:Int)),some (.ref l),o6]/\I l=some (.lst v)/\c8 I b v/\((b.size:Int)+bZ I S<=bZ H S/\0<=bZ I S)/\b.fit hs ys d/\v.length<=i/\am I p/\bP I S/\aH p S H I)
  #[none,[],.nil,Z,by rw[e2 l lp];exact l1,Z,(by rw[jR O.B O.s (ar.of_eq e2),R];exact#[by show((0:Nat):Int)+_<=_;omega,h0]),Yp,Dt _,B2,G2.s,k1.trans (ar.of_eq e2).two] ?_ ?_
 ·intro i σ H3 hi J
  refine aP λGq y=>?_
  obtain⟨o6,v,b,rfl,a,u,j,x,h1,T,C,U⟩:=J
  refine y ?_
  clear y
  have G3:=G.but2 T C U
  obtain⟨kk,W⟩:=id C
  refine#[_,Z,S,_,_,_,Z,Z,aE.of W,Z,_,_,Z,Z,_,Z,?_]
  refine bp (λc=>?_) (λc=>?_)
  ·refine#[_,Z,.inl #[Z,_,aE.of a],_,Z,_,Z,_,Z,_,Z,_,Z,p,g,h,S,d,ys,hs,Z,G3,hd,(by rw[zz W];exact Em c),λr b4 H4 h2 h5 h3 h4 B4 s4 k4=>?_]
   have X:H4 l=some (.lst v):=k4 _ _ lp D a
   refine#[l,_,_,Z,Z,X,Ic,?_]
   have tm:ah H4 (af H4 l (.lst (v++[.ref r]))):=λb' xs e=>by rw[ji (jI e X (by intro z;cases z))];exact e
   have Y:ah H3 H4:=k4.tm T C
   refine#[_,_,b.app b4,Z,jc,(h2.mono tm).app ((u.mono Y).mono tm),?_,Yq x h4,by rw[Dj];show v.length+1<=i+1;omega,B4.eq (ji (DQ lp)),?_,λb' o n1 n2 e=>?_]
   ·rw[jT,Ql s4 λo e=>by rw[ji (DQ D)];exact e]
    obtain⟨z1,z2⟩:=j
    exact#[Ic,h3]
   ·obtain⟨z,hz⟩:=s4
    exact#[z,by rw[ji (DQ D)];exact hz]
   ·rw[ji (jj e N)]
    exact k4 _ _ n1 n2 (U _ _ n1 n2 e)
  ·exact#[_,v,b,Z,a,u,j,x,Ic,T,C,U]
 ·intro σ H3 J
  refine aP λGq y=>?_
  obtain⟨o6,v,b,rfl,a,u,j,x,h1,T,C,U⟩:=J
  refine y ?_
  clear y
  refine#[_,Z,l,v,Z,.inl #[aE.of a,λt M=>?_]]
  have hm:(m).toNat<=5:=by omega
  refine q t b v _ jc (u.mono (ae.tm (je M))) (by rw[jU C (je M)];exact j.1) (by rw[jU C (je M)];exact j.2) x (T.upd_new M) (C.new M) (U.trans (aH.of_same (je M)))
theorem ZU:ai P w K mg base ax 8 f c ["_law_box_here","_law_names_here","_law_heads","_law_spare","_law_deep"] (iZ 0):=by
 have n:∀v H Q E,¬iZ 0 v H Q E:=λv H Q E h=>by
  refine aP λG k=>?_
  obtain⟨p,g,h,S,d,y,e,_,_,b,_⟩:=h
  refine k ?_
  clear k
  exact absurd b (F8 _)
 exact#[λv H Q E h=>absurd h (n v H Q E),λA o s H a u v Q E _ _ _ _ h=>absurd h (n v H Q E)]
theorem Ah(F:aJ K "_law_statement" "_law_statement" pM f e)(FB:aJ K "_law_body" "_law_body" mG g a)(c:Cl P w K mg base 1 r k ["_law_box_here","_law_wide"] aM "_law_take")(C:Cl P w K mg base 6 s l ["_law_box_here","_law_names_here","_law_deep"] (cq 4) "_law_term")(h:Cl P w K mg base 7 t o ["_law_box_here","_law_names_here"] iD "_law_spot")(b:aw K e ["_law_box_here","_law_names_here","_law_heads","_law_spare","_law_deep"] [])(M:mg "_law_statement"=some (.ref f))(B:aw K a ["_law_box_here","_law_names_here","_law_heads","_law_spare","_law_deep"] [])(i:mg "_law_body"=some (.ref g))(j:mg "len"=none)(m:mg "tuple"=none)(d:mg "range"=none):
  ∀n:Nat,ai P w K mg base ax (n+n+8) f e ["_law_box_here","_law_names_here","_law_heads","_law_spare","_law_deep"] (iZ n)/\ai P w K mg base ax (n+n+9) g a ["_law_box_here","_law_names_here","_law_heads","_law_spare","_law_deep"] (gA n)
 |0=>#[ZU,Yr (L:=0) FB c #[ZU,b,F.kp,M] d m]
 |n+1=>by
  have I:=Ah F FB c C h b M B i j m d n
  have E:n+n+10=n+1+(n+1)+8:=by omega
  have p:n+n+2+9=n+1+(n+1)+9:=by omega
  have H:=xo (L:=n+n) F c C h #[I.2,B,FB.kp,i] j m
  have q:=Yr (L:=n+n+2) FB c #[H,b,F.kp,M] d m
  rw[<- E,<- p]
  exact#[H,q]
theorem Ar{x:List V}(h:k<=x.length):aT x none (some (k:Int))=x.take k:=by
 unfold aT
 rw[HT.sIx_nat,HT.sIx_none]
 have e:min k x.length=k:=by omega
 rw[e]
 simp
noncomputable abbrev xj:Stmt:=bn 60
theorem tR(h:0<=d)(H:d < 4):∃D:Nat,dn [V.int 3,.int 3,.int 3,.int 5] d=some (.int (D:Int))/\D < 6/\CP D<=111111/\D<=5:=by
 rcases(by omega:d=0∨d=1∨d=2∨d=3) with rfl |rfl |rfl |rfl
 ·exact#[3,Z,Ib,Ib,Ib]
 ·exact#[3,Z,Ib,Ib,Ib]
 ·exact#[3,Z,Ib,Ib,Ib]
 ·exact#[5,Z,Ib,Ib,Ib]
theorem oB{ys:List Str}{k:Int}(h:ys.length=20)(H:14<=k)(a:k<=20):1<=(aZ ys (some 8) (some k)).length/\(aZ ys (some 8) (some k)).length<=20:=by
 refine#[?_,by have:=zY ys (some 8) (some k);omega]
 have e:(8:Int)=((8:Nat):Int):=rfl
 have E:k=((k.toNat:Nat):Int):=by omega
 unfold aZ
 rw[e,E,HT.sIx_nat,HT.sIx_nat,DG,EJ]
 omega
theorem sX{ss:List Str}(h:0<=k):(aZ ss none (some k)).length<=k.toNat:=by
 have e:k=((k.toNat:Nat):Int):=by omega
 unfold aZ
 rw[e,HT.sIx_nat,HT.sIx_none,DG]
 omega
theorem eQ{t u:TS}(h:∀E:be,(∀a b,u D a b->E.nx a b)->t E c H):eZ t u D c H:=h { D with nx:=u D } λ_ _ h=>h
def An(h:List (Str×List Str)):Prop:=∀c∈h,c.1.length<=20/\c.2.length<=6
def C4(H:Hp)(D:List Df):Prop:=∀d∈D,∃p:List Str,H d.pa=some (.tup (p.map V.str))/\p.length<=100
theorem qO{a:Type}{P:a->Prop}{X:List a}{x:a}(h:∀c∈X,P c)(H:P x):∀c∈X++[x],P c:=λc b=>by
 rcases List.mem_append.mp b with h1 |h1
 ·exact h c h1
 ·rw[List.mem_singleton.mp h1];exact H
def lh(H:Hp)(D:List Df)(N:List Nat):Prop:=D.length=N.length/\∀(i:Nat) (d:Df) (n:Nat),D[i]?=some d->N[i]?=some n->∃p:List Str,H d.pa=some (.tup (p.map V.str))/\p.length=n/\n<=100
theorem lh.mono(h:lh H D N)(k:ah H a):lh a D N:=#[h.1,λi d n b c=>let #[p,e,l]:=h.2 i d n b c;#[p,k _ _ e,l]]
theorem lh.snoc{d:Df}{p:List Str}(h:lh H D N)(e:H d.pa=some (.tup (p.map V.str)))(l:p.length<=100):lh H (D++[d]) (N++[p.length]):=by
 refine#[by rw[Dj,Dj,h.1];rfl,λi c n a b=>?_]
 by_cases f:i < D.length
 ·rw[ER f]at a
  rw[ER (by rw[<- h.1];exact f)]at b
  exact h.2 i c n a b
 ·have g:i < (D++[d]).length:=(List.getElem?_eq_some_iff.mp a).1
  rw[Dj]at g
  have E:i=D.length:=by have:i < D.length+1:=g;omega
  subst E
  rw[EM (Dk _),Gr]at a
  rw[h.1,EM (Dk _),Gr]at b
  cases a
  cases b
  exact#[p,e,Z,l]
theorem lh.v(h:lh H D n):C4 H D:=λd b=>by
 obtain⟨i,a,e⟩:=List.mem_iff_getElem.mp b
 have c:D[i]?=some d:=by rw[<- e];exact Dh a
 obtain⟨p,e,l,k⟩:=h.2 i d _ c (Dh (by rw[<- h.1];exact a))
 exact#[p,e,Ic]
def tV(D:List Df)(n:List Nat):Prop:=(∀d∈D,lD d/\d.b.Cs ((D.map Df.f).zip n))/\(D.map Df.f).Nodup/\∀y∈D.map Df.f,y.length<=20
def nO:Sp:=λv H Q _=>∃(p:Addr) (T R:Int),v=[.ref p,.int T,.int R]/\am H p/\1<=T/\T<=8/\0<=R/\R<=40/\
 ∀(r:Addr) (d:List Df) (x:List V) (h:Hp),h r=some (.tup x)->b6 h d x->(d.length:Int)=T->∀n:List Nat,tV d n->lh h d n->am h p->ar p H h->Q (.ref r) h
theorem cf:aj ["_law_box_here","_law_total","_law_room","_law_words","_law_most","_law_heads","_law_k","_law_turn","_law_row","_law_some","_law_deep","_law_defs","_law_f","_law_params","_law_spare","_law_body_here"] ["_law_box_here","_law_total","_law_room"] (aa xj):=bo
inductive AJ(p wl:Addr)(T rm:Int)(H:Hp)(σ':L2.St)(H':Hp):Prop
 |mk (ys':List Str) (e0:σ'=[some (.ref p),some (.int T),some (.int rm),some (.ref wl),none,none,none,none,none,none,none,none,none,none,none,none]) (e1:H' wl=some (.lst (ys'.map V.str))) (e2:ys'.length=20) (e3:(∀y∈ys',y.length<=20)/\(ys'.take 8).Nodup) (e4:am H' p) (e5:ar p H H'):AJ p wl T rm H σ' H'
inductive AI(p wl hl:Addr)(T rm m:Int)(ys:List Str)(H:Hp)(i:Nat)(σ:L2.St)(H':Hp):Prop
 |mk (o6 o7 o8:Option V) (hs:List (Str×List Str)) (hv:List V) (e0:σ=[some (.ref p),some (.int T),some (.int rm),some (.ref wl),some (.int m),some (.ref hl),o6,o7,o8,none,none,none,none,none,none,none]) (e1:H' hl=some (.lst hv)) (e2:di H' hs hv) (e3:hs.length=i) (e4:An hs/\hs.map (·.1)=ys.take i) (e5:H' wl=some (.lst (ys.map V.str))) (e6:am H' p) (e7:ar p H H'):AI p wl hl T rm m ys H i σ H'
inductive AK(p wl hl sm dl:Addr)(T rm m:Int)(dp:Nat)(zs:List Str)(hs:List (Str×List Str))(hv:List V)(H:Hp)(i:Nat)(σ:L2.St)(H':Hp):Prop
 |mk (o6 o7 o8 o12 o13 o14 o15:Option V) (ds:List Df) (dv:List V) (e0:σ=[some (.ref p),some (.int T),some (.int rm),some (.ref wl),some (.int m),some (.ref hl),o6,o7,o8,some (.ref sm),some (.int (dp:Int)),some (.ref dl),o12,o13,o14,o15]) (e1:H' dl=some (.lst dv)) (e2:b6 H' ds dv) (e3:ds.length=i) (e4:(∀d∈ds,lD d/\d.b.Cs (hs.map λc=>(c.1,c.2.length)))/\ds.map Df.f=(hs.map (·.1)).take i) (e5:H' hl=some (.lst hv)) (e6:di H' hs hv) (e7:H' sm=some (.lst (zs.map V.str))) (e8:am H' p) (e9:ar p H H') (e10:lh H' ds ((hs.map λc=>c.2.length).take i)):AK p wl hl sm dl T rm m dp zs hs hv H i σ H'
inductive AL(hs:List (Str×List Str))(zs:List Str)(p wl hl sm dl t0 sp:Addr)(T rm m:Int)(dp:Nat)(o7 o8:Option V)(c:Str×List Str)(H9:Hp)(j:Nat)(σ:L2.St)(H':Hp):Prop
 |mk (o6':Option V) (bb:Addr) (Bb:Bd) (bs:List V) (e0:σ=[some (.ref p),some (.int T),some (.int rm),some (.ref wl),some (.int m),some (.ref hl),o6',o7,o8,some (.ref sm),some (.int (dp:Int)),some (.ref dl),some (.str c.1),some (.ref t0),some (.ref sp),some (.ref bb)]) (e1:H' bb=some (.tup bs)) (e2:c8 H' Bb bs) (e3:(Bb.size:Int)+bZ H' sp<=rm/\0<=bZ H' sp) (e4:Bb.fit hs zs dp) (e5:am H' p) (e6:bP H' sp) (e7:aH p sp H9 H'):AL hs zs p wl hl sm dl t0 sp T rm m dp o7 o8 c H9 j σ H'
theorem xW(F:aJ K "_law_any" "_law_any" xj f fd)(cT:Cl P w K mg base 1 fT i' ["_law_box_here","_law_wide"] aM "_law_take")(cA:Cl P w K mg base 2 fA j0 ["_law_box_here","_law_total"] eE "_law_names")(cB:Cl P w K mg base 21 fB j1 ["_law_box_here","_law_names_here","_law_heads","_law_spare","_law_deep"] (gA 6) "_law_body")(ml:mg "len"=none)(mr:mg "range"=none)(m0:mg "tuple"=none)(mi:mg "int"=none):ai P w K mg base ax 22 f fd ["_law_box_here","_law_total","_law_room"] nO:=by
 refine F.ok cf ?_ λj2 A o5 s H vs Q E hr h=>?_
 ·rintro _ _ _ _ ⟨p,T,Y,rfl,_⟩
  rfl
 refine aP λGq u=>?_
 obtain⟨p,T,Y,rfl,B,l4,l5,e',l6,q⟩:=h
 refine u ?_
 clear u
 refine#[_,(jd (jw 3 cf.nd (cA.e hr.m (ja (pv 0) (ja jf jb)))) (jd (jX (jv (kE (cT.e hr.m (ja (pv 0) (ja jf jb)))) (jg (kL (jL km (pv 3) kK (jF jf)) (@nU _ _ _ _ _ _ _ _ _ (pv 3) jf jf (by intro _;rfl)))) jm)) (jd (jw 4 cf.nd (jq jo (jC (ja jf (ja jf jb))) (jB Je Z mi boot_int (ja (qg Jl (cT.e hr.m (ja (pv 0) (ja jf jb))) jf (aF _)) jb)) (λ_ _=>Z))) (jd (jw 5 cf.nd (jC jb)) (jd (ke D0 Z (jZ Z mr (ja (pv 1) jb)) (ju (i:=6) cf.nd Z (Or.inl Z)) (jd (jw 7 cf.nd (jr jV jf (cT.e hr.m (ja (pv 0) (ja jf jb))))) (jd (jw 8 cf.nd (jr zT (jL km (pv 3) (jF (pv 7)) (jF jf)) (jL km (pv 3) (jF jf) (jF (pv 7))))) (jg (jN (kh Dw DN DM jP (pv 5) (ja (jh (ja (jq jo (pv 3) (pv 6) (λ_ _=>Z)) (ja (jB jA Z m0 EB (ja (jL km (pv 8) kK (jF (cT.e hr.m (ja (pv 0) (ja (pv 4) jb))))) jb)) jb))) jb))))))) (jd (jw 9 cf.nd (jL km (pv 3) (jF jf) (jF (jr jV jf (cT.e hr.m (ja (pv 0) (ja jf jb))))))) (jd (jw 10 cf.nd (jq jo (jC (ja jf (ja jf (ja jf (ja jf jb))))) (cT.e hr.m (ja (pv 0) (ja jf jb))) (λ_ _=>Z))) (jd (jw 11 cf.nd (jC jb)) (jd (ke D0 Z (qf (pv 5)) (zc (n:=2) Z (jx (ju (i:=12) cf.nd Z (Or.inl Z)) (jx (ju (i:=13) cf.nd Z (Or.inl Z)) j8))) (jd (jw 14 cf.nd (jC (ja (pv 2) jb))) (jd (jw 15 cf.nd (jh jb)) (jd (ke D0 Z (jZ Z mr (ja jf jb)) (ju (i:=6) cf.nd Z (Or.inl Z)) (jg (jw 15 cf.nd (jr j4 (pv 15) (cB.e hr (ja (pv 0) (ja (pv 9) (ja (pv 5) (ja (pv 14) (ja (pv 10) jb)))))))))) (jg (jN (kh Dw DN DM jP (pv 11) (ja (jh (ja (pv 12) (ja (pv 13) (ja (pv 15) jb)))) jb)))))))) (jg (jl (jB jA Z m0 EB (ja (pv 11) jb))))))))))))),?_]
 have l7:=aB
 refine eQ λE1 m1=>?_
 refine#[_,Z,p,20,Z,B,Ib,Ib,λW ys H1 c2 f4 c3 C B1 k1=>?_]
 refine m1 _ _ ?_
 refine eQ λE2 m2=>?_
 have wp:W≠p:=B.ne c2
 refine df (AJ p W T Y H) (λE0 _ fm=>?_) λσ0 H2 l=>?_
 ·clear m2
  refine my λG' g'=>#[_,Z,p,2,Z,B1,Ib,Ib,λd1 H2 l8 l9 B2 e2=>?_]
  have h0:H2 W=some (.lst (ys.map V.str)):=by rw[e2 W wp];exact f4
  have k2:=k1.trans (ar.of_eq e2)
  refine#[Z,_,Z,g' _ _ ?_]
  clear g'
  refine bp (λc=>?_) (λc=>fm _ _ #[ys,Z,h0,Ic,#[C.1,C.2.sublist (EW _ _)],B2,k2])
  refine#[_,Z,_,Z,W,_,Z,aE.of h0,λsl n0=>?_]
  have f5:W≠sl:=λe=>by rw[<- e,h0]at n0;cases n0
  have l':=B2.ne n0
  refine#[_,Z,W,sl,_,_,_,_,Z,Z,Z,Z,ao h0 n0,jc,f5,Ib,Ib,by rw[Di];omega,?_,?_]
  ·have:=kU (ys.map V.str) none (some 2)
   rw[Di]at this ⊢
   omega
  have e2:aT (ys.map V.str) none (some 2)=(ys.take 2).map V.str:=by
   rw[show(2:Int)=((2:Nat):Int) from Z,Ar (by rw[Di];omega),Gh]
  refine fm _ _ #[ys.take 8++ys.take 2++ys.drop 10,Z,?_,?_,?_,(B2.upd_new n0).eq (ji (DQ wp)),?_]
  ·rw[jc,e2,DJ,DJ,Gh,List.map_drop,Gh]
   rfl
  ·rw[Dj,Dj,DG,DG,EJ]
   omega
  ·refine#[λy hy=>?_,?_]
   ·rcases List.mem_append.mp hy with h |h
    ·rcases List.mem_append.mp h with h |h
     ·exact C.1 y (Ea h)
     ·exact C.1 y (Ea h)
    ·exact C.1 y (List.mem_of_mem_drop h)
   ·rw[Hn,List.take_append_of_le_length (by rw[DG];omega),List.take_take]
    exact C.2.sublist (EW _ _)
  ·exact(k2.upd_new n0).upd_own c2
 obtain⟨ys,rfl,h0,c3,C,B2,k2⟩:=l
 refine m2 _ _ ?_
 clear m1 m2
 refine eQ λE3 m3=>?_
 refine#[bG,λl1 n7=>?_]
 refine#[_,Z,p,3,Z,B2.upd_new n7,Ib,Ib,λd2 H3 m' o' B3 e3=>?_]
 have k3:ar p H2 H3:=((ar.refl).upd_new n7).trans (ar.of_eq e3)
 have l0:=B2.ne n7
 have f7:H3 l1=some (.lst [.int 4,.int 7]):=by rw[e3 l1 l0];exact jc
 refine#[Z,.inr #[_,Z,?_]]
 have a5:∀c:Bool,∃m:Int,dn [V.int 4,V.int 7] (if c then 1 else 0)=some (.int m)/\4<=m/\m<=7:=λc=>by
  cases c
  ·exact#[4,Z,Ib,Ib]
  ·exact#[7,Z,Ib,Ib]
 obtain⟨m,hm,m4,m7⟩:=a5 _
 refine#[l1,_,_,_,Z,Z,aE.of f7,hm,?_]
 refine m3 _ _ ?_
 refine eQ λE4 m4=>?_
 have c4:H3 W=some (.lst (ys.map V.str)):=k3 _ _ wp h0
 have k0:=k2.trans k3
 refine#[Dt _,λhl n1=>?_]
 refine m4 _ _ ?_
 refine eQ λE5 m5=>?_
 have h4:=B3.ne n1
 have n5:H hl=none:=by
  cases z:H hl with
  |none=>rfl
  |some o=>have:=k0 _ _ h4 z;rw[n1]at this;cases this
 have wh:W≠hl:=λe=>by rw[<- e,c4]at n1;cases n1
 refine dU λJ j=>#[_,Z,T,Z,Ic,Ic,j _ _ ?_]
 clear j
 refine zp (lo:=0) (AI p W hl T Y m ys H)
  #[none,none,none,[],[],Z,jc,Z,Z,#[(λc hc=>nomatch hc),Z],ao c4 n1,B3.upd_new n1,k0.upd_own n5] ?_ ?_
 ·intro D' _ i σ H4 hi f0 Gq u l
  obtain⟨o6,o7,o8,hs,hv,rfl,a',h6,c5,h7,b1,B4,k4⟩:=l
  refine u ?_
  clear u m5 m3 m4
  show eZ (dD _ _) _ D' _ _
  refine eQ λF1 f1=>?_
  refine#[_,Z,p,6,Z,B4,Ib,Ib,λD H5 f9 f' B5 e5=>?_]
  have k5:ar p H4 H5:=ar.of_eq e5
  have h8:=k5 _ _ wp b1
  have b2:=k5 _ _ h4 a'
  have b3:=h6.mono (k5.tm B4)
  refine#[_,_,Z,Z,?_]
  refine f1 _ _ ?_
  show eZ (dD _ _) _ D' _ _
  refine eQ λF2 f2=>?_
  refine#[_,Z,_,Z,_,Z,_,Z,W,_,Z,aE.of h8,λs1 n8=>?_]
  refine#[_,Z,_,Z,_,Z,_,Z,W,_,Z,aE.of (ao h8 n8),λs2 n9=>?_]
  have L1:=zY ys (some (8+D)) (some 14)
  have L0:=zY ys (some 8) (some (8+D))
  have L3:=kU (ys.map V.str) (some (8+D)) (some 14)
  have L4:=kU (ys.map V.str) (some 8) (some (8+D))
  rw[Di]at L3 L4
  refine#[s1,s2,_,_,Z,Z,ao jc n9,jc,Ic,λrl c6=>?_]
  refine f2 _ _ ?_
  have er:aT (ys.map V.str) (some (8+D)) (some 14)++aT (ys.map V.str) (some 8) (some (8+D))=(aZ ys (some (8+D)) (some 14)++aZ ys (some 8) (some (8+D))).map V.str:=by
   rw[zj,zj,DJ]
  have s6:ae H5 (af (af (af H5 s1 (.lst (aT (ys.map V.str) (some (8+D)) (some 14)))) s2 (.lst (aT (ys.map V.str) (some 8) (some (8+D))))) rl (.lst (aT (ys.map V.str) (some (8+D)) (some 14)++aT (ys.map V.str) (some 8) (some (8+D))))):=((je n8).trans (je n9)).trans (je c6)
  have r6:af (af (af H5 s1 (.lst (aT (ys.map V.str) (some (8+D)) (some 14)))) s2 (.lst (aT (ys.map V.str) (some 8) (some (8+D))))) rl (.lst (aT (ys.map V.str) (some (8+D)) (some 14)++aT (ys.map V.str) (some 8) (some (8+D)))) rl=some (.lst ((aZ ys (some (8+D)) (some 14)++aZ ys (some 8) (some (8+D))).map V.str)):=by rw[jc,er]
  have B6:am (af (af (af H5 s1 (.lst (aT (ys.map V.str) (some (8+D)) (some 14)))) s2 (.lst (aT (ys.map V.str) (some 8) (some (8+D))))) rl (.lst (aT (ys.map V.str) (some (8+D)) (some 14)++aT (ys.map V.str) (some 8) (some (8+D))))) p:=((B5.upd_new n8).upd_new n9).upd_new c6
  generalize af (af (af H5 s1 (.lst (aT (ys.map V.str) (some (8+D)) (some 14)))) s2 (.lst (aT (ys.map V.str) (some 8) (some (8+D))))) rl (.lst (aT (ys.map V.str) (some (8+D)) (some 14)++aT (ys.map V.str) (some 8) (some (8+D))))=H6 at s6 r6 B6
  have LR:(aZ ys (some (8+D)) (some 14)++aZ ys (some 8) (some (8+D))).length<=40:=by rw[Dj];omega
  generalize aZ ys (some (8+D)) (some 14)++aZ ys (some 8) (some (8+D))=r0 at r6 LR
  have c9:=s6 _ _ h8
  have h':=s6 _ _ b2
  have ei:(0:Int)+(i:Int)=(i:Int):=Int.zero_add _
  rw[ei]
  obtain⟨y,b4⟩:∃y,ys[i]?=some y:=#[_,Dh (by omega:i < ys.length)]
  have hy:=Dx b4
  have a5:dn (ys.map V.str) (i:Int)=some (.str y):=jO (by rw[DE,b4];rfl)
  have rp:rl≠p:=zf B6 r6
  refine#[_,Z,.inl #[Z,_,aE.of h'],_,Z,_,Z,W,_,_,_,Z,Z,aE.of c9,a5,_,Z,_,Z,_,Z,p,m,Z,B6,Ic,Ic,λd7 H7 d0 d4 B7 e7=>?_]
  have k7:ar p H6 H7:=ar.of_eq e7
  refine#[_,Z,rl,_,Z,aE.of (k7 _ _ rp r6),λs3 c'=>?_]
  refine#[s3,_,Z,.inl #[aE.of jc,λt nt=>#[bG,λr nr=>?_]]]
  rw[zj]at nt nr ⊢
  have L8:=sX (ss:=r0) d0
  generalize aZ r0 none (some d7)=ps at*
  have s8:ae H7 (af (af (af H7 s3 (.lst (ps.map V.str))) t (.tup (ps.map V.str))) r (.tup [.str y,.ref t])):=((je c').trans (je nt)).trans (je nr)
  have t8:af (af (af H7 s3 (.lst (ps.map V.str))) t (.tup (ps.map V.str))) r (.tup [.str y,.ref t]) t=some (.tup (ps.map V.str)):=ao jc nr
  have r8:af (af (af H7 s3 (.lst (ps.map V.str))) t (.tup (ps.map V.str))) r (.tup [.str y,.ref t]) r=some (.tup [.str y,.ref t]):=jc
  have B8:am (af (af (af H7 s3 (.lst (ps.map V.str))) t (.tup (ps.map V.str))) r (.tup [.str y,.ref t])) p:=((B7.upd_new c').upd_new nt).upd_new nr
  generalize af (af (af H7 s3 (.lst (ps.map V.str))) t (.tup (ps.map V.str))) r (.tup [.str y,.ref t])=R at s8 t8 r8 B8
  have d6:=s8 _ _ (k7 _ _ h4 h')
  have g0:=s8 _ _ (k7 _ _ wp c9)
  have h5:=h6.len
  refine#[hl,_,_,Z,Z,d6,Ic,?_]
  have tm:ah R (af R hl (.lst (hv++[.ref r]))):=λb xs e=>by rw[ji (jI e d6 (by intro z;cases z))];exact e
  have g1:=((b3.mono (ae.tm s6)).mono (k7.tm B6)).mono (ae.tm s8)
  refine f0 _ _ #[_,_,_,hs++[(y,ps)],_,Z,jc,(g1.mono tm).snoc #[r,t,Z,tm _ _ r8,tm _ _ t8],by rw[Dj,c5];rfl,#[qO h7.1 #[C.1 y hy,by show ps.length<=6;omega],by rw[DJ,h7.2,Fm,b4];rfl],by rw[ji wh];exact g0,B8.eq (ji (DQ h4)),?_]
  refine ar.upd_own (λb o n e=>?_) n5
  exact s8 _ _ (k7 _ _ n (s6 _ _ (k5 _ _ n (k4 _ _ n e))))
 intro σ H4 l
 refine aP λGq u=>?_
 obtain⟨o6,o7,o8,hs,hv,rfl,a',h6,c5,⟨h7,d8⟩,b1,B4,k4⟩:=l
 refine u ?_
 clear u
 refine m5 _ _ ?_
 refine eQ λE6 m6=>?_
 refine#[_,Z,_,Z,_,Z,p,7,Z,B4,Ib,Ib,λD H5 f9 f' B5 e5=>?_]
 have k5:ar p H4 H5:=ar.of_eq e5
 have h8:=k5 _ _ wp b1
 have b2:=k5 _ _ h4 a'
 have b3:=h6.mono (k5.tm B4)
 refine#[_,_,Z,Z,_,Z,W,_,Z,aE.of h8,λsm n3=>?_]
 refine m6 _ _ ?_
 refine eQ λE7 m7=>?_
 obtain⟨z1,z2⟩:=oB (ys:=ys) (k:=14+D) c3 Ic Ic
 have m6:af H5 sm (.lst (aT (ys.map V.str) (some 8) (some (14+D)))) sm=some (.lst ((aZ ys (some 8) (some (14+D))).map V.str)):=by rw[jc,zj]
 have k6:ar p H (af H5 sm (.lst (aT (ys.map V.str) (some 8) (some (14+D))))):=(k4.trans k5).upd_new n3
 have h':=ao (o:=.lst (aT (ys.map V.str) (some 8) (some (14+D)))) b2 n3
 have d9:=b3.mono (ae.tm (je (o:=.lst (aT (ys.map V.str) (some 8) (some (14+D)))) n3))
 have B6:=B5.upd_new (o:=.lst (aT (ys.map V.str) (some 8) (some (14+D)))) n3
 generalize af H5 sm (.lst (aT (ys.map V.str) (some 8) (some (14+D))))=H6 at m6 k6 h' d9 B6
 generalize aZ ys (some 8) (some (14+D))=zs at m6 z1 z2
 have s':=zf B6 m6
 refine#[nk,λl2 n'=>?_]
 refine#[_,Z,p,4,Z,B6.upd_new n',Ib,Ib,λd7 H7 d0 d4 B7 e7=>?_]
 have k7:ar p H6 H7:=((ar.refl).upd_new n').trans (ar.of_eq e7)
 have l3:=B6.ne n'
 have g2:H7 l2=some (.lst [.int 3,.int 3,.int 3,.int 5]):=by rw[e7 l2 l3];exact jc
 refine aP λGq u=>?_
 obtain⟨dp,g4,g5,p1,p2⟩:=tR d0 d4
 refine u ?_
 clear u
 refine#[l2,_,_,_,Z,Z,aE.of g2,g4,?_]
 refine m7 _ _ ?_
 refine eQ λE8 m8=>?_
 have m7:=k7 _ _ s' m6
 have b5:=k7 _ _ h4 h'
 have g6:=d9.mono (k7.tm B6)
 have k9:=k6.trans k7
 refine#[Dt _,λdl N=>?_]
 refine m8 _ _ ?_
 refine eQ λE9 m9=>?_
 have d3:=B7.ne N
 have n6:H dl=none:=by
  cases z:H dl with
  |none=>rfl
  |some o=>have:=k9 _ _ d3 z;rw[N]at this;cases this
 have d':hl≠dl:=λe=>by rw[<- e,b5]at N;cases N
 have s5:sm≠dl:=λe=>by rw[<- e,m7]at N;cases N
 have p3:=h6.len
 refine dU λJ j=>#[_,Z,hl,Z,#[_,aE.of (ao b5 N)],j _ _ ?_]
 clear j
 refine Jh (K:=K) (a:=hl) (xs:=hv) (AK p W hl sm dl T Y m dp zs hs hv H)
  #[_,_,_,_,_,_,_,[],[],Z,jc,Z,Z,#[(λc hc=>nomatch hc),Z],ao b5 N,g6.mono (ae.tm (je N)),ao m7 N,B7.upd_new N,k9.upd_own n6,#[Z,(λi d n h=>nomatch h)]] ?_ ?_ ?_
 ·intro i σ R _ l
  refine aP λGq u=>?_
  obtain⟨o6,o7,o8,o1,o2,o3,o4,ds,dv,rfl,h5,hD,a0,x,hh,hd,b7,B8,k8,p0⟩:=l
  refine u ?_
  clear u
  exact aE.of hh
 ·intro D' _ i v σ R hx f0 Gq u l
  obtain⟨o6,o7,o8,o1,o2,o3,o4,ds,dv,rfl,h5,hD,a0,x,hh,hd,b7,B8,k8,p0⟩:=l
  have p4:i < hv.length:=(List.getElem?_eq_some_iff.mp hx).1
  obtain⟨c,hc,q0,t0,rfl,w1,w2⟩:=hd.at i v hx
  refine u ?_
  clear u m9
  have g7:=Dx hc
  have e0:=h7 c g7
  refine CV λF6 f6=>#[q0,_,Z,aA.of w1,Z,_,_,Z,_,_,Z,Z,f6 _ _ ?_]
  clear f6
  show eZ (dD _ _) _ D' _ _
  refine eQ λF1 f1=>?_
  refine#[_,Z,iR,λM n2=>?_]
  refine f1 _ _ ?_
  show eZ (dD _ _) _ D' _ _
  refine eQ λF2 f2=>?_
  refine#[gQ,λb0 n4=>?_]
  refine f2 _ _ ?_
  show eZ (yC _ _ _) _ D' _ _
  refine eQ λF3 f3=>?_
  have s9:ae R (af (af R M (.lst [.int Y])) b0 (.tup [])):=(je n2).trans (je n4)
  have s4:bP (af (af R M (.lst [.int Y])) b0 (.tup [])) M:=#[Y,ao jc n4]
  have b9:af (af R M (.lst [.int Y])) b0 (.tup []) b0=some (.tup []):=jc
  have B9:am (af (af R M (.lst [.int Y])) b0 (.tup [])) p:=(B8.upd_new n2).upd_new n4
  have e9:bZ (af (af R M (.lst [.int Y])) b0 (.tup [])) M=Y:=zz (ao jc n4)
  generalize af (af R M (.lst [.int Y])) b0 (.tup [])=H9 at s9 s4 b9 B9 e9
  have e4:H M=none:=by
   cases z:H M with
   |none=>rfl
   |some o=>have:=k8 _ _ (B8.ne n2) z;rw[n2]at this;cases this
  have g8:dl≠M:=λe=>by rw[<- e,h5]at n2;cases n2
  have G9:ls H9 p sm hl M zs hs:=#[B9,s9 _ _ b7,z1,z2,#[hv,s9 _ _ hh,hd.mono (ae.tm s9)],Ic,Ic,λc hc=>(h7 c hc).2,s4]
  refine dU λJ j=>#[_,Z,Ib,Ib,j _ _ ?_]
  clear j
  refine zp (lo:=0) (AL hs zs p W hl sm dl t0 M T Y m dp o7 o8 c H9)
   #[_,b0,.nil,[],Z,b9,Z,(by rw[e9];exact#[by show((0:Nat):Int)+_<=_;omega,e']),Yp,B9,s4,aH.refl] ?_ ?_
  ·intro p5 _ j σ G hj fin2 Gq u l
   obtain⟨o9,bb,Bb,bs,rfl,b',a1,a2,I,B',U,L⟩:=l
   refine u ?_
   clear u f1 f2 f3
   have G0:=G9.but2 B' U L
   refine#[_,Z,_,Z,_,Z,_,Z,_,Z,_,Z,p,sm,hl,M,dp,zs,hs,Z,G0,g5,a2.2,λr b p6 H0 X a4 i0 c0 c1 a3 S k'=>?_]
   have tm:=k'.tm B' U
   have lb:=a1.len
   have p8:=a4.len
   obtain⟨i1,i2⟩:=a2
   refine#[bb,r,_,_,Z,Z,tm _ _ b',X,Ic,λr2 H' e6 s0=>?_]
   have i3:am H' p:=by
    refine aP λGq u=>?_
    obtain⟨a,b,h1,h2,h3,h⟩:=a3.ob
    refine u ?_
    clear u
    exact#[a,b,h1,h2,h3,s0 _ _ h]
   have s7:bP H' M:=by
    obtain⟨z,hz⟩:=S
    exact#[z,s0 _ _ hz]
   refine fin2 _ _ #[_,r2,Bb.app b,_,Z,e6,(a4.mono (ae.tm s0)).app ((a1.mono tm).mono (ae.tm s0)),?_,Yq I c1,i3,s7,L.trans (k'.trans (aH.of_same s0))]
   rw[jT,jU S s0]
   exact#[Ic,c0]
  ·intro σ G l
   refine aP λGq u=>?_
   obtain⟨o9,bb,Bb,bs,rfl,b',a1,a2,I,B',U,L⟩:=l
   refine u ?_
   clear u
   refine f3 _ _ ?_
   have O:G dl=some (.lst dv):=L _ _ d3 g8 (s9 _ _ h5)
   have G0:=G9.but2 B' U L
   have t3:ah R G:=λb xs e=>L.tm B9 s4 _ _ (s9 _ _ e)
   refine#[_,Z,.inl #[Z,_,aE.of O],_,Z,_,Z,_,Z,dP,λr nr=>?_]
   have S:ae G (af G r (.tup [.str c.1,.ref t0,.ref bb])):=je nr
   have i4:=hD.len
   have e8:Bb.size<=40:=by obtain⟨i1,i2⟩:=a2;omega
   refine#[dl,_,_,Z,Z,S _ _ O,Ic,?_]
   have X:af G r (.tup [.str c.1,.ref t0,.ref bb]) r=some (.tup [.str c.1,.ref t0,.ref bb]):=jc
   have a3:=B'.upd_new (o:=.tup [.str c.1,.ref t0,.ref bb]) nr
   generalize af G r (.tup [.str c.1,.ref t0,.ref bb])=H0 at S X a3
   have tm:ah H0 (af H0 dl (.lst (dv++[.ref r]))):=λb xs e=>by rw[ji (jI e (S _ _ O) (by intro z;cases z))];exact e
   have t2:ah G (af H0 dl (.lst (dv++[.ref r]))):=λb xs e=>tm _ _ (S _ _ e)
   have t1:ah R (af H0 dl (.lst (dv++[.ref r]))):=λb xs e=>t2 _ _ (t3 _ _ e)
   refine f0 _ _ #[_,_,_,_,_,_,_,ds++[#[c.1,r,t0,bb,Bb]],_,Z,jc,(hD.mono t1).snoc #[bs,Z,tm _ _ X,t2 _ _ b',a1.mono t2],by rw[Dj,a0];rfl,#[qO x.1 #[#[#[zs,z2,I.1.1],Ez I.2 Ic,Ds e8 Ib],I.1.2],by rw[DJ,x.2,Fm,DE,hc];rfl],?_,hd.mono t1,?_,a3.eq (ji (DQ d3)),?_,(by rw[Fm,DE,hc];exact(p0.mono t1).snoc (d:=#[c.1,r,t0,bb,Bb]) (t1 _ _ w2) (Ds e0.2 Ib))]
   ·obtain⟨p9,e1,e2⟩:=G0.h
    rw[ji d']
    exact S _ _ (L _ _ G9.hsp.2 G9.hsp.1 (s9 _ _ hh))
   ·rw[ji s5]
    exact S _ _ G0.g
   ·refine ar.upd_own (λb o n e=>?_) n6
    exact S _ _ (L _ _ n (jj e e4) (s9 _ _ (k8 _ _ n e)))
 ·intro σ R l
  refine aP λGq u=>?_
  obtain⟨o6,o7,o8,o1,o2,o3,o4,ds,dv,rfl,h5,hD,a0,x,hh,hd,b7,B8,k8,p0⟩:=l
  refine u ?_
  clear u
  refine m9 _ _ ?_
  refine#[_,Z,dl,dv,Z,.inl #[aE.of h5,λt nt=>?_]]
  have nn:(ds.map Df.f).Nodup:=by
   rw[x.2,d8]
   refine List.Nodup.sublist (EW _ _) ?_
   have e:∀m,m<=8->ys.take m=(ys.take 8).take m:=λm hm=>by rw[List.take_take,Fz hm]
   rw[e _ Ic]
   exact C.2.sublist (EW _ _)
  exact q t ds dv _ jc (hD.mono (ae.tm (je nt))) Ic (hs.map λc=>c.2.length) #[λd hd=>#[(x.1 d hd).1,by have e:=x.2;rw[EF (by rw[Di];omega)]at e;rw[e];have z:=(x.1 d hd).2;rw[show(hs.map λc=>(c.1,c.2.length))=(hs.map (·.1)).zip (hs.map λc=>c.2.length) by rw[List.zip_map']]at z;exact z],nn,λy hy=>by rw[x.2,d8]at hy;exact C.1 y (Ea (Ea hy))] (by have z:=p0.mono (ae.tm (je (o:=.tup dv) nt));rw[EF (by rw[Di];omega)]at z;exact z) (B8.upd_new nt) (k8.upd_new nt)
theorem gQ:0<=sizeLine:=by decide
theorem iR:1<=sizeLine:=by decide
theorem bG:2<=sizeLine:=by decide
theorem dP:3<=sizeLine:=by decide
theorem nk:4<=sizeLine:=by decide
theorem ah.trans(a:ah H h)(b:ah h d):ah H d:=λc x e=>b c x (a c x e)
theorem ah.refl:ah H H:=λ_ _ e=>e
def eV(H:Hp)(y:List Str)(k:Nat)(a:Addr):Prop:=∃T,a6 H T a/\T.Good y/\T.depth<=k
theorem eV.mono(h:eV H y k a)(m:ah H b):eV b y k a:=let #[T,c,d]:=h;#[T,c.mono m,d]
theorem eV.ok(h:eV H y k a)(m:k < 6):∃T,a6 H T a/\cw y T:=let #[T,b,c,d]:=h;#[T,b,c,Ez d m]
section
variable {Cf:gj}{H:Hp}{ys:List Str}
theorem wE(h:H a=some (.tup [.str "num",.int n]))(b:0<=n)(c:n < 1000000000000000000):eV H ys 0 a:=#[.num n,h,#[b,c],Dt _]
theorem ZV(h:H a=some (.tup [.str "var",.str x]))(b:x∈ys):eV H ys 0 a:=#[.var x,h,b,Dt _]
def Sg(s:Str):Prop:=∃i,i < 6/\s=Bw i
theorem vq(h:H a=some (.tup [.str "op",.str s,.ref b,.ref c]))(d:Sg s)(e:eV H ys j b)(f:eV H ys k c)(q:j < n)(r:k < n):eV H ys n a:=by
 obtain⟨i,g,rfl⟩:=d
 obtain⟨B,l,m,t⟩:=e
 obtain⟨C,o,p,u⟩:=f
 exact#[.op i B C,#[b,c,h,l,o],#[g,m,p],by show max B.depth C.depth+1<=n;omega]
theorem za:Sg "+":=#[0,Ib,Ig]
theorem QZ:Sg "-":=#[1,Ib,Ig]
theorem Q0:Sg "*":=#[2,Ib,Ig]
theorem uG:Sg "/":=#[3,Ib,Ig]
theorem Qv:Sg "<":=#[4,Ib,Ig]
theorem y':Sg "=":=#[5,Ib,Ig]
theorem sG(h:0<=d)(a:d < 4):∃s,dn [V.str "+",.str "+",.str "*",.str "-"] d=some (.str s)/\Sg s:=by
 rcases(by omega:d=0∨d=1∨d=2∨d=3) with rfl |rfl |rfl |rfl
 ·exact#[_,Z,za]
 ·exact#[_,Z,za]
 ·exact#[_,Z,Q0]
 ·exact#[_,Z,QZ]
theorem tE(h:0<=d)(a:d < 3):∃c,dn (Str.cps "<=*").toList d=some c/\Sg #[(List.toArray [c])]:=by
 rcases(by omega:d=0∨d=1∨d=2) with rfl |rfl |rfl
 ·exact#[_,Z,Qv]
 ·exact#[_,Z,y']
 ·exact#[_,Z,Q0]
theorem AS{P:Addr->Prop}(e:0<=d)(f:d < 2)(h:P a)(c:P b):∃x,dn [V.ref a,.ref b] d=some (.ref x)/\P x:=by
 rcases(by omega:d=0∨d=1) with rfl |rfl
 ·exact#[_,Z,h]
 ·exact#[_,Z,c]
theorem AO{P:Addr->Prop}(g:0<=d)(i:d < 3)(h:P a)(e:P b)(f:P c):∃x,dn [V.ref a,.ref b,.ref c] d=some (.ref x)/\P x:=by
 rcases(by omega:d=0∨d=1∨d=2) with rfl |rfl |rfl
 ·exact#[_,Z,h]
 ·exact#[_,Z,e]
 ·exact#[_,Z,f]
theorem y4{P:Addr->Prop}(h:P a)(d:P b)(c:Bool):∃x,dn [V.ref a,.ref b] (if c then 1 else 0)=some (.ref x)/\P x:=by
 cases c
 ·exact#[_,Z,h]
 ·exact#[_,Z,d]
def bX(Cf:gj)(H:Hp)(ys:List Str)(d:Nat)(v:V):Prop:=∃s,gg H v s/\(s.Ok ys/\s.Cs Cf)/\s.dep<=d/\s.size<=1+20*d
def fc(Cf:gj)(H:Hp)(ys:List Str)(d:Nat)(x:List V):Prop:=∃b,c8 H b x/\(b.Ok ys/\b.Cs Cf)/\b.dep<=d/\b.size<=(1+20*d)*x.length
theorem bX.mono(h:bX Cf H ys d v)(m:ah H a):bX Cf a ys d v:=let #[s,b,c]:=h;#[s,b.mono m,c]
theorem fc.mono(h:fc Cf H ys d x)(m:ah H a):fc Cf a ys d x:=let #[s,b,c]:=h;#[s,b.mono m,c]
theorem bX.up(h:bX Cf H ys 0 v):bX Cf H ys d v:=let #[s,a,b,c,e]:=h;#[s,a,b,Ic,Ic]
theorem J2:fc Cf H ys d []:=#[.nil,Z,#[DR,DR],Dt _,Dt _]
theorem Jc{xs:List V}(h:fc Cf H ys d xs)(g:fc Cf H ys d z):fc Cf H ys d (xs++z):=by
 obtain⟨a,c,A,f,i⟩:=h
 obtain⟨b,e,B,j,k⟩:=g
 refine#[a.app b,e.app c,#[JZ A.1 B.1,JY A.2 B.2],by rw[kY];omega,?_]
 rw[jT,Dj,Nat.mul_add]
 omega
theorem zg(h:bX Cf H ys d v):fc Cf H ys d [v]:=by
 obtain⟨s,a,b,c,e⟩:=h
 exact#[s,a.bd,b,c,by show s.size<=(1+20*d)*1;omega]
theorem jS(h:bX Cf H ys d v)(g:fc Cf H ys d xs):fc Cf H ys d (v::xs):=Jc (xs:=[v]) (zg h) g
theorem QL{l:Lf}(h:H p=some (.tup v))(a:um H l v)(b:l.Ok ys)(c:l.Cs Cf):bX Cf H ys 0 (.ref p):=#[.lf p l .nil,.lf p l v h a,#[#[b,DR],c,DR],Dk 0,Dk 1]
theorem yM(h:H p=some (.tup [.str "read",.str x,.ref t]))(a:x∈ys)(b:eV H ys k t)(c:k < 6:=by decide):bX Cf H ys 0 (.ref p):=by
 obtain⟨T,d,e⟩:=b.ok c
 exact QL (l:=.rd x t T) h #[Z,d] #[a,e] DR
theorem Aj(h:H p=some (.tup [.str "set",.str x,.ref t]))(a:x∈ys)(b:eV H ys k t)(c:k < 6:=by decide):bX Cf H ys 0 (.ref p):=by
 obtain⟨T,d,e⟩:=b.ok c
 exact QL (l:=.st x t T) h #[Z,d] #[a,e] DR
theorem AE(h:H p=some (.tup [.str "give",.ref t]))(a:eV H ys k t)(b:k < 6:=by decide):bX Cf H ys 0 (.ref p):=by
 obtain⟨T,c,d⟩:=a.ok b
 exact QL (l:=.gv t T) h #[Z,c] d DR
theorem yL(h:H p=some (.tup [.str "write",.ref t,.ref u]))(a:eV H ys k t)(b:eV H ys j u)(c:k < 6:=by decide)(d:j < 6:=by decide):bX Cf H ys 0 (.ref p):=by
 obtain⟨T,e,f⟩:=a.ok c
 obtain⟨U,g,i⟩:=b.ok d
 exact QL (l:=.wr t u T U) h #[Z,e,g] #[f,i] DR
theorem A4{f:Str}(h:H p=some (.tup [.str "call",.str x,.str f,.ref q]))(b:x∈ys)(a:(f,2)∈Cf)(d:H q=some (.tup [.ref t,.ref u]))(e:eV H ys k t)(g:eV H ys j u)(i:k < 6:=by decide)(m:j < 6:=by decide):bX Cf H ys 0 (.ref p):=by
 obtain⟨T,n,o⟩:=e.ok i
 obtain⟨U,r,s⟩:=g.ok m
 refine QL (l:=.cl x f q [(t,T),(u,U)]) h #[Z,d,λc hc=>?_] #[b,(by show 2<=6;decide),λc hc=>?_] a
 ·rcases List.mem_cons.mp hc with rfl |hc
  ·exact n
  ·rw[List.mem_singleton.mp hc];exact r
 ·rcases List.mem_cons.mp hc with rfl |hc
  ·exact o
  ·rw[List.mem_singleton.mp hc];exact s
theorem AH(h:H p=some (.tup [.str "if",.ref t,.ref q,.ref Q]))(e:eV H ys k t)(f:H q=some (.tup A))(g:H Q=some (.tup B))(G:fc Cf H ys 0 A)(i:fc Cf H ys 0 B)(r:A.length+B.length<=20)(j:k < 6:=by decide):bX Cf H ys 1 (.ref p):=by
 obtain⟨T,l,m⟩:=e.ok j
 obtain⟨a,n,c,s,u⟩:=G
 obtain⟨b,o,d,v,x⟩:=i
 exact#[.ite p t T a b .nil,.ite p t T a b q Q A B h l f g n o,#[#[m,c.1,d.1,DR],c.2,d.2,DR],(by show max (max a.dep b.dep+1) 0<=1;omega),(by show a.size+b.size+0+1<=21;omega)]
theorem oQ(h:H p=some (.tup [.str "while",.ref t,.ref q]))(c:eV H ys k t)(d:H q=some (.tup A))(g:fc Cf H ys 0 A)(l:A.length<=20)(e:k < 6:=by decide):bX Cf H ys 1 (.ref p):=by
 obtain⟨T,f,i⟩:=c.ok e
 obtain⟨a,j,b,m,n⟩:=g
 exact#[.loop p t T a .nil,.loop p t T a q A h f d j,#[#[i,b.1,DR],b.2,DR],(by show max (a.dep+1) 0<=1;omega),(by show a.size+0+1<=21;omega)]
def nE(Cf:gj)(n:Nat)(H:Hp)(r:Addr)(f:Str):Prop:=∃d:Df,vH H d (.ref r)/\(lD d/\d.b.Cs Cf)/\∃p:List Str,H d.pa=some (.tup (p.map V.str))/\p.length=n/\d.f=f
theorem nE.mono(h:nE Cf n H r f)(m:ah H a):nE Cf n a r f:=let #[d,b,c,p,e,g]:=h;#[d,b.mono m,c,p,m _ _ e,g]
theorem yS{f:Str}{p:List Str}(h:H r=some (.tup [.str f,.ref a,.ref b]))(d:H a=some (.tup (p.map V.str)))(e:p.length=n)(i:H b=some (.tup x))(g:fc Cf H ys 1 x)(l:x.length<=100)(j:ys.length<=20):nE Cf n H r f:=by
 obtain⟨c,k,C,m,o⟩:=g
 exact#[#[f,r,a,b,c],#[x,Z,h,i,k],#[#[#[ys,j,C.1],(by show c.dep < 8;omega),(by show c.size<=3000;omega)],C.2],p,d,e,Z]
structure Wd(H0 H:Hp)(p wl:Addr)(ys:List Str):Prop where
 B:am H p
 K:ar p H0 H
 w:H wl=some (.lst (ys.map V.str))
theorem Wd.np(h:Wd b H p a ys):a≠p:=zf h.B h.w
theorem Wd.same(h:Wd a H p b ys)(s:ae H c):Wd a c p b ys:=#[h.B.same s,h.K.trans (ar.of_same s),s _ _ h.w]
theorem Wd.but(h:Wd b H p c ys)(B:am a p)(k:ar p H a):Wd b a p c ys:=#[B,h.K.trans k,k _ _ h.np h.w]
theorem Wd.own{xs:List V}(h:Wd a H p b ys)(n:a l=none)(L:l≠p)(c:l≠b):Wd a (af H l (.lst z)) p b ys:=#[h.B.eq (ji (DQ L)),h.K.upd_own n,by rw[ji (DQ c)];exact h.w]
theorem Qm(h:H l=some (.lst x)):ah H (af H l (.lst a)):=λb u e=>by rw[ji (jI e h (by intro z;cases z))];exact e
end
def lH:Sp:=λv H Q _=>∃(p a b:Addr) (y:List Str) (k:Nat),v=[.ref p,.ref a,.ref b]/\am H p/\eV H y k a/\eV H y k b/\∀(r:Addr) (h:Hp),eV h y (k+1) r->am h p->ar p H h->Q (.ref r) h
def c7(n:Nat):Sp:=λv H Q _=>∃(p W:Addr) (f g:Str) (y:List Str),v=[.ref p,.str f,.str g,.ref W]/\am H p/\H W=some (.lst (y.map V.str))/\y.length=6/\∀(r:Addr) (h:Hp),nE [(g,2)] n h r f->am h p->ar p H h->Q (.ref r) h
noncomputable abbrev BP:Stmt:=bn 61
noncomputable abbrev lO:Stmt:=bn 62
noncomputable abbrev gi:Stmt:=bn 63
noncomputable abbrev eG:Stmt:=bn 64
noncomputable abbrev pP:Stmt:=bn 65
theorem BW{A:List V}(h:A.length=5):∃a b c d e,A=[a,b,c,d,e]:=by
 match A,h with
 | [a,b,c,d,e],_=>exact#[a,b,c,d,e,Z]
theorem CW{n:Nat}:lT (n+1) 0=some 0:=by unfold lT;rw[DB Ib,DB Ic];rfl
theorem Da{n:Nat}:lT (n+2) 1=some 1:=by unfold lT;rw[DB Ib,DB Ic];rfl
theorem ni:dn (v::u::y) 1=some u:=jO (j:=1) Z
structure Fw(p:Addr)(H H':Hp):Prop where
 t:ah H H'
 b:ar p H H'
theorem Fw.refl:Fw p H H:=#[ah.refl,ar.refl]
theorem Fw.trans(a:Fw p H h)(b:Fw p h c):Fw p H c:=#[a.t.trans b.t,a.b.trans b.b]
theorem Fw.new{p:Addr}{H:Hp}{o:HO}(n:H r=none):Fw p H (af H r o):=#[ae.tm (je n),ar.of_same (je n)]
theorem Fw.same(s:ae H h):Fw p H h:=#[ae.tm s,ar.of_same s]
theorem Fw.but(B:am H p)(c:ar p H h):Fw p H h:=#[c.tm B,c]
def mt(P:Hp->V->Prop):Prop:=∀H h v,ah H h->P H v->P h v
def Ev(a:Hp)(p W:Addr)(y:List Str)(b:Hp)(c:L2.St)(t:TE)(P:Hp->V->Prop):Prop:=∀(H:Hp) (Q:VK),Fw p b H->Wd a H p W y->(∀v h,P h v->Wd a h p W y->Fw p H h->Q v h)->t c H Q
def PT(y:List Str)(k:Nat)(H:Hp)(v:V):Prop:=∃a,v= .ref a/\eV H y k a
def PB(C:gj)(y:List Str)(d n:Nat)(H:Hp)(v:V):Prop:=∃a x,v= .ref a/\H a=some (.tup x)/\fc C H y d x/\x.length<=n
def PN(y:List Str)(_:Hp)(v:V):Prop:=∃x,v= .str x/\x∈y
def PG(_:Hp)(v:V):Prop:=∃s,v= .str s/\Sg s
def PP(n:Nat)(H:Hp)(v:V):Prop:=∃(a:Addr) (x:List Str),v= .ref a/\H a=some (.tup (x.map V.str))/\x.length=n
def sA(y:Str)(_:Hp)(v:V):Prop:=v= .str y
def PD(C:gj)(n:Nat)(f:Str)(H:Hp)(v:V):Prop:=∃a,v= .ref a/\nE C n H a f
section
variable {Cf:gj}{ys:List Str}{H0 Hb:Hp}{p wl:Addr}{σ:L2.St}
theorem aq:mt (PT ys k):=λ_ _ _ m #[a,e,h]=>#[a,e,h.mono m]
theorem dm:mt (PB Cf ys d n):=λ_ _ _ m #[a,x,e,h,H,b]=>#[a,x,e,m _ _ h,H.mono m,b]
theorem dA:mt λH v=>bX Cf H ys d v:=λ_ _ _ m h=>h.mono m
theorem ij:mt (PD Cf n f):=λ_ _ _ m #[a,e,h]=>#[a,e,h.mono m]
theorem Ev.up{P R:Hp->V->Prop}(h:Ev H0 p wl ys Hb σ t P)(k:∀H v,P H v->R H v):Ev H0 p wl ys Hb σ t R:=λH Q m W q=>h H Q m W λv a x=>q v a (k _ _ x)
theorem jD{P:Hp->V->Prop}(e:σ[i]?=some (some v))(M:mt P)(h:P Hb v):Ev H0 p wl ys Hb σ (aU i) P:=λH Q m W q=>#[v,e,q v H (M _ _ _ m.t h) W .refl]
theorem zQ(h:Sg s):Ev H0 p wl ys Hb σ (tC (.str s)) PG:=λH Q m W q=>q _ H #[s,Z,h] W .refl
theorem ky{K:Frag}(e:σ[j]?=some (some (.ref wl)))(a:0<=i)(b:i < (ys.length:Int)):Ev H0 p wl ys Hb σ (dw (ik K) (aU j) (tC (.int i))) (PN ys):=λH Q m W q=>by
 obtain⟨y,c,h⟩:=qZ (ys:=ys) a b
 exact#[_,e,wl,_,_,_,Z,Z,aE.of W.w,h,q _ H #[y,Z,c] W .refl]
theorem kf{Q:VK}{P:Hp->V->Prop}(W:Wd H0 H p wl ys)(q:∀v h,P h v->Wd H0 h p wl ys->Fw p H h->Q v h)(n:H r=none)(x:ah H (af H r o)->af H r o r=some o->P (af H r o) (.ref r)):Q (.ref r) (af H r o):=
 q _ _ (x (ae.tm (je n)) jc) (W.same (je n)) (.new n)
abbrev rJ(n:Int):TE:=dq aM [] E0 (al (aU 0) (al (tC (.int n)) aI))
def PK(n:Int)(_:Hp)(v:V):Prop:=∃d:Int,v= .int d/\0<=d/\d < n
theorem kI(e:σ[0]?=some (some (.ref p)))(h:1<=n)(c:n<=1000):Ev H0 p wl ys Hb σ (rJ n) (PK n):=λH Q m W q=>
 #[_,e,p,n,Z,W.B,Ic,Ic,λd f D a b E=>q _ _ #[d,Z,D,a] (W.but b (ar.of_eq E)) (.but W.B (ar.of_eq E))]
theorem ki(h:Ev H0 p wl ys Hb σ t (PK n))(g:n<=1000000000000000000):Ev H0 p wl ys Hb σ (bE (al (tC (.str "num")) (al t aI))) (PT ys 0):=λH Q m W q=>
 h H _ m W λv i #[d,e,D,j] a b=>#[bG,λr N=>kf (P:=PT ys 0) a (λV c x f k=>q V c x f (b.trans k)) N λ_ z=>#[r,Z,wE (by rw[z,e]) D Ic]]
theorem Qi(h:0<=n)(a:n < m):Ev H0 p wl ys Hb σ (tC (.int n)) (PK m):=λH Q _ W q=>q _ H #[n,Z,h,a] W .refl
theorem Qn(h:Ev H0 p wl ys Hb σ t (PK n))(c:0<=m):Ev H0 p wl ys Hb σ (dw (uA λi j=>V.int (i+j)) (tC (.int m)) t) (PK (m+n)):=λH Q M W q=>
 h H _ M W λv a #[d,e,D,f] b k=>#[m,d,Z,e,q _ a #[m+d,Z,Ic,Ic] b k]
theorem JO(h:Ev H0 p wl ys Hb σ t (PN ys)):Ev H0 p wl ys Hb σ (bE (al (tC (.str "var")) (al t aI))) (PT ys 0):=λH Q m W q=>
 h H _ m W λv i #[d,e,a] b c=>#[bG,λr n=>kf (P:=PT ys 0) b (λV f x g k=>q V f x g (c.trans k)) n λ_ z=>#[r,Z,ZV (by rw[z,e]) a]]
theorem zO{n:Nat}(h:Ev H0 p wl ys Hb σ T PG)(f:Ev H0 p wl ys Hb σ g (PT ys j))(i:Ev H0 p wl ys Hb σ l (PT ys k))(o:j < n)(u:k < n):Ev H0 p wl ys Hb σ (bE (al (tC (.str "op")) (al T (al g (al l aI))))) (PT ys n):=λH Q m W q=>
 h H _ m W λM v #[s,E,X] y c=>f v _ (m.trans c) y λO A #[a,B,C] D d=>i A _ ((m.trans c).trans d) D λR S #[b,F,G] I e=>#[nk,λr N=>kf (P:=PT ys n) I (λV J x L k=>q V J x L (((c.trans d).trans e).trans k)) N λt z=>
  #[r,Z,vq (by rw[z,E,B,F]) X ((C.mono e.t).mono t) (G.mono t) o u]]
theorem AM(e:σ[0]?=some (some (.ref p))):Ev H0 p wl ys Hb σ (dw yp (tC (.str "<=*")) (rJ 3)) PG:=λH Q m W q=>
 kI e Ib Ib H _ m W λv h #[d,E,D,a] b k=>by
  obtain⟨g,i,x⟩:=tE D a
  exact#["<=*",d,g,Z,E,Ig,i,q _ h #[_,Z,x] b k]
theorem X6{K:Frag}(e:σ[0]?=some (some (.ref p)))(r:Ev H0 p wl ys Hb σ T (PT ys k))(s:Ev H0 p wl ys Hb σ u (PT ys k)):Ev H0 p wl ys Hb σ (dw (ik K) (i7 (al T (al u aI))) (rJ 2)) (PT ys k):=λH Q m W q=>
 r H _ m W λV y #[a,E,X] z c=>s y _ (m.trans c) z λA C #[b,D,F] h f=>#[bG,λl n=>kI e Ib Ib _ _ (((m.trans c).trans f).trans (.new n)) (h.same (je n)) λv G #[d,I,J,L] M j=>by
  obtain⟨g,i,x⟩:=AS (P:=eV C ys k) J L (X.mono f.t) F
  rw[<- E,<- D]at i
  have t:=(Fw.new (p:=p) (o:=HO.lst [V,A]) n).trans j
  exact#[l,_,d,_,Z,I,aE.of (j.b _ _ (h.B.ne n) jc),i,q _ G #[g,Z,x.mono t.t] M ((c.trans f).trans t)]]
theorem vC{K:Frag}(e:σ[0]?=some (some (.ref p)))(u:Ev H0 p wl ys Hb σ T (PT ys k))(y:Ev H0 p wl ys Hb σ z (PT ys k))(A:Ev H0 p wl ys Hb σ C (PT ys k)):Ev H0 p wl ys Hb σ (dw (ik K) (i7 (al T (al z (al C aI)))) (rJ 3)) (PT ys k):=λH Q m W q=>
 u H _ m W λV D #[a,E,X] F f=>y D _ (m.trans f) F λG I #[b,J,L] M h=>A I _ ((m.trans f).trans h) M λN O #[c,R,S] r j=>#[dP,λl n=>kI e Ib Ib _ _ ((((m.trans f).trans h).trans j).trans (.new n)) (r.same (je n)) λv U #[d,Y,d0,d1] W4 s=>by
  obtain⟨g,i,x⟩:=AO (P:=eV O ys k) d0 d1 (X.mono (h.trans j).t) (L.mono j.t) S
  rw[<- E,<- J,<- R]at i
  have t:=(Fw.new (p:=p) (o:=HO.lst [V,G,N]) n).trans s
  exact#[l,_,d,_,Z,Y,aE.of (s.b _ _ (r.B.ne n) jc),i,q _ U #[g,Z,x.mono t.t] W4 (((f.trans h).trans j).trans t)]]
theorem Ap{K:Frag}(e:σ[0]?=some (some (.ref p)))(r:1<=n)(s:n<=1000)(u:Ev H0 p wl ys Hb σ T (PT ys k))(y:Ev H0 p wl ys Hb σ z (PT ys k)):Ev H0 p wl ys Hb σ (dw (ik K) (i7 (al T (al z aI))) (A9 (λX H Q=>(∃i,X=[V.int i]/\Q (V.int i) H)∨∃k,X=[V.bl k]/\Q (V.int (if k=true then 1 else 0)) H) (al (dw Am (rJ n) (tC (.int 0))) aI))) (PT ys k):=λH Q m W q=>
 u H _ m W λA C #[a,E,D] F c=>y C _ (m.trans c) F λG I #[b,J,L] h f=>#[bG,λl N=>kI e r s _ _ (((m.trans c).trans f).trans (.new N)) (h.same (je N)) λv M #[d,O,S,U] R j=>by
  subst O
  refine#[Z,.inr #[_,Z,?_]]
  obtain⟨g,i,x⟩:=y4 (P:=eV I ys k) (D.mono f.t) L _
  rw[<- E,<- J]at i
  have t:=(Fw.new (p:=p) (o:=HO.lst [A,G]) N).trans j
  exact#[l,_,_,_,Z,Z,aE.of (j.b _ _ (h.B.ne N) jc),i,q _ M #[g,Z,x.mono t.t] R ((c.trans f).trans t)]]
theorem JP(e:σ[0]?=some (some (.ref p)))(h:Ev H0 p wl ys Hb σ T (PT ys k))(g:Ev H0 p wl ys Hb σ i (PT ys k)):Ev H0 p wl ys Hb σ (dq lH [] E0 (al (aU 0) (al T (al i aI)))) (PT ys (k+1)):=λH Q m W q=>
 #[_,e,h H _ m W λv j #[a,E,x] l d=>g j _ (m.trans d) l λV y #[b,n,X] c f=>#[p,a,b,ys,k,by rw[E,n];rfl,c.B,x.mono f.t,X,λr o s u C=>q _ o #[r,Z,s] (c.but u C) ((d.trans f).trans (.but c.B C))]]
theorem tU{w:Str}{T a:TE}{A B R:Hp->V->Prop}(M:mt A)(d:mt B)(e:Ev H0 p wl ys Hb σ T A)(f:Ev H0 p wl ys Hb σ a B)(h:∀H r u v,H r=some (.tup [.str w,u,v])->A H u->B H v->R H (.ref r)):Ev H0 p wl ys Hb σ (bE (al (tC (.str w)) (al T (al a aI)))) R:=λH Q m W q=>
 e H _ m W λC g X i b=>f g _ (m.trans b) i λD E j l c=>#[dP,λr n=>kf (P:=R) l (λo s x y k=>q o s x y ((b.trans c).trans k)) n λt z=>h _ _ _ _ z (M _ _ _ t (M _ _ _ c.t X)) (d _ _ _ t j)]
theorem Cb{w:Str}{T:TE}{A R:Hp->V->Prop}(M:mt A)(a:Ev H0 p wl ys Hb σ T A)(h:∀H r u,H r=some (.tup [.str w,u])->A H u->R H (.ref r)):Ev H0 p wl ys Hb σ (bE (al (tC (.str w)) (al T aI))) R:=λH Q m W q=>
 a H _ m W λf g X b c=>#[bG,λr n=>kf (P:=R) b (λv d x e k=>q v d x e (c.trans k)) n λt z=>h _ _ _ z (M _ _ _ t X)]
theorem Ac{w:Str}{T d e:TE}{A B C R:Hp->V->Prop}(M:mt A)(f:mt B)(g:mt C)(i:Ev H0 p wl ys Hb σ T A)(j:Ev H0 p wl ys Hb σ d B)(l:Ev H0 p wl ys Hb σ e C)(h:∀H r u v x,H r=some (.tup [.str w,u,v,x])->A H u->B H v->C H x->R H (.ref r)):Ev H0 p wl ys Hb σ (bE (al (tC (.str w)) (al T (al d (al e aI))))) R:=λH Q m W q=>
 i H _ m W λL n X o a=>j n _ (m.trans a) o λO s y D b=>l s _ ((m.trans a).trans b) D λS U E F c=>#[nk,λr N=>kf (P:=R) F (λG I x J k=>q G I x J (((a.trans b).trans c).trans k)) N λt z=>h _ _ _ _ _ z (M _ _ _ t (M _ _ _ (b.trans c).t X)) (f _ _ _ t (f _ _ _ c.t y)) (g _ _ _ t E)]
theorem yd:mt (PN ys):=λ_ _ _ _ h=>h
theorem JQ{t T:TE}{k:Nat}(h:Ev H0 p wl ys Hb σ t (PN ys))(b:Ev H0 p wl ys Hb σ T (PT ys k))(c:k < 6):Ev H0 p wl ys Hb σ (bE (al (tC (.str "read")) (al t (al T aI)))) (λH v=>bX Cf H ys 0 v):=tU yd aq h b λH r u v z #[x,e,d] #[a,E,f]=>yM (by rw[z,e,E]) d f c
theorem Jn{t T:TE}{k:Nat}(h:Ev H0 p wl ys Hb σ t (PN ys))(b:Ev H0 p wl ys Hb σ T (PT ys k))(c:k < 6):Ev H0 p wl ys Hb σ (bE (al (tC (.str "set")) (al t (al T aI)))) (λH v=>bX Cf H ys 0 v):=tU yd aq h b λH r u v z #[x,e,d] #[a,E,f]=>Aj (by rw[z,e,E]) d f c
theorem JR{t T:TE}{j k:Nat}(h:Ev H0 p wl ys Hb σ t (PT ys j))(b:Ev H0 p wl ys Hb σ T (PT ys k))(c:j < 6)(d:k < 6):Ev H0 p wl ys Hb σ (bE (al (tC (.str "write")) (al t (al T aI)))) (λH v=>bX Cf H ys 0 v):=tU aq aq h b λH r u v z #[x,e,f] #[a,E,g]=>yL (by rw[z,e,E]) f g c d
theorem QM{t:TE}{k:Nat}(h:Ev H0 p wl ys Hb σ t (PT ys k))(b:k < 6):Ev H0 p wl ys Hb σ (bE (al (tC (.str "give")) (al t aI))) (λH v=>bX Cf H ys 0 v):=Cb aq h λH r v z #[a,e,c]=>AE (by rw[z,e]) c b
theorem Zw{n o T c:TE}{j k:Nat}(C:Ev H0 p wl ys Hb σ n (PN ys)){f:Str}(D:Ev H0 p wl ys Hb σ o (sA f))(d:(f,2)∈Cf)(F:Ev H0 p wl ys Hb σ T (PT ys j))(G:Ev H0 p wl ys Hb σ c (PT ys k))(I:j < 6)(J:k < 6):Ev H0 p wl ys Hb σ (bE (al (tC (.str "call")) (al n (al o (al (bE (al T (al c aI))) aI))))) (λH v=>bX Cf H ys 0 v):=by
 let R:Hp->V->Prop:=λH v=>∃q a b,v= .ref q/\H q=some (.tup [.ref a,.ref b])/\eV H ys j a/\eV H ys k b
 have M:mt R:=λ_ _ _ m #[q,a,b,e,g,L,i]=>#[q,a,b,e,m _ _ g,L.mono m,i.mono m]
 have N:Ev H0 p wl ys Hb σ (bE (al T (al c aI))) R:=λH Q m W q=>
  F H _ m W λv2 O #[a,E,X] S s=>G O _ (m.trans s) S λv3 H3 #[b,l,U] Y A=>#[bG,λr nr=>kf (P:=R) Y (λv' H' x W' k=>q v' H' x W' ((s.trans A).trans k)) nr λt z=>#[r,a,b,Z,by rw[z,E,l],(X.mono A.t).mono t,U.mono t]]
 exact Ac yd (B:=sA f) (λ_ _ _ _ h=>h) M C D N λH r u v x z #[y,e1,g] (E:v= .str f) #[q,a,b,l,i,h4,h5]=>A4 (f:=f) (by rw[z,e1,E,l]) g d i h4 h5 I J
theorem vI{t T b:TE}{k n m:Nat}(h:Ev H0 p wl ys Hb σ t (PT ys k))(c:Ev H0 p wl ys Hb σ T (PB Cf ys 0 n))(d:Ev H0 p wl ys Hb σ b (PB Cf ys 0 m))(e:k < 6)(s:n+m<=20):Ev H0 p wl ys Hb σ (bE (al (tC (.str "if")) (al t (al T (al b aI))))) (λH v=>bX Cf H ys 1 v):=
 Ac aq dm dm h c d λH r u v x z #[a,E,f] #[Q,X,g,i,j,y] #[A,B,l,o,q,C]=>AH (by rw[z,E,g,l]) f i o j q Ic e
theorem vp{t T:TE}{k n:Nat}(h:Ev H0 p wl ys Hb σ t (PT ys k))(b:Ev H0 p wl ys Hb σ T (PB Cf ys 0 n))(c:k < 6)(i:n<=20):Ev H0 p wl ys Hb σ (bE (al (tC (.str "while")) (al t (al T aI)))) (λH v=>bX Cf H ys 1 v):=
 tU aq dm h b λH r u v z #[a,e,d] #[q,x,E,f,g,j]=>oQ (by rw[z,e,E]) d f g Ic c
theorem uO{d:Nat}:Ev H0 p wl ys Hb σ (bE aI) (PB Cf ys d 0):=λH Q m W q=>#[gQ,λr n=>kf (P:=PB Cf ys d 0) W q n λt z=>#[r,[],Z,z,J2,Dk 0]]
theorem JS(h:Ev H0 p wl ys Hb σ T (λH v=>bX Cf H ys d v)):Ev H0 p wl ys Hb σ (bE (al T aI)) (PB Cf ys d 1):=λH Q m W q=>
 h H _ m W λf g X a b=>#[iR,λr n=>kf (P:=PB Cf ys d 1) a (λV c x e k=>q V c x e (b.trans k)) n λt z=>#[r,_,Z,z,zg (X.mono t),Dk 1]]
theorem X7(h:Ev H0 p wl ys Hb σ T (λH v=>bX Cf H ys d v))(c:Ev H0 p wl ys Hb σ e (λH v=>bX Cf H ys d v)):Ev H0 p wl ys Hb σ (bE (al T (al e aI))) (PB Cf ys d 2):=λH Q m W q=>
 h H _ m W λs f X g a=>c f _ (m.trans a) g λu y i j b=>#[bG,λr n=>kf (P:=PB Cf ys d 2) j (λV l x o k=>q V l x o ((a.trans b).trans k)) n λt z=>#[r,_,Z,z,jS ((X.mono b.t).mono t) (zg (i.mono t)),Dk 2]]
theorem AN(h:Ev H0 p wl ys Hb σ T (λH v=>bX Cf H ys d v))(e:Ev H0 p wl ys Hb σ f (λH v=>bX Cf H ys d v))(g:Ev H0 p wl ys Hb σ i (λH v=>bX Cf H ys d v)):Ev H0 p wl ys Hb σ (bE (al T (al f (al i aI)))) (PB Cf ys d 3):=λH Q m W q=>
 h H _ m W λC j X l a=>e j _ (m.trans a) l λD n o s b=>g n _ ((m.trans a).trans b) s λE F u y c=>#[dP,λr N=>kf (P:=PB Cf ys d 3) y (λV A x B k=>q V A x B (((a.trans b).trans c).trans k)) N λt z=>#[r,_,Z,z,jS ((X.mono (b.trans c).t).mono t) (jS ((o.mono c.t).mono t) (zg (u.mono t))),Dk 3]]
theorem qu(h:Ev H0 p wl ys Hb σ T (PB Cf ys d n))(e:Ev H0 p wl ys Hb σ f (PB Cf ys d m))(B:n+m<=100):Ev H0 p wl ys Hb σ (dw u5 T f) (PB Cf ys d (n+m)):=λH Q M W q=>
 h H _ M W λV g #[a,x,E,i,X,L] j c=>e g _ (M.trans c) j λC D #[b,z,l,o,u,F] v k=>#[a,b,x,z,E,l,k.t _ _ i,o,Ds (show x.length+z.length<=100 by omega) Ib,λr y A s=>q _ y #[r,_,Z,A,Jc ((X.mono k.t).mono (ae.tm s)) (u.mono (ae.tm s)),by rw[Dj];omega] (v.same s) ((c.trans k).trans (.same s))]
theorem KP(e:σ[i]?=some (some (.str x))):Ev H0 p wl ys Hb σ (aU i) (sA x):=jD e (λ_ _ _ _ h=>h) Z
theorem X8(h:Ev H0 p wl ys Hb σ T (sA f))(g:Ev H0 p wl ys Hb σ i (PP m))(j:Ev H0 p wl ys Hb σ l (PB Cf ys 1 n))(O:n<=100)(o:ys.length<=20):Ev H0 p wl ys Hb σ (bE (al T (al i (al l aI)))) (PD Cf m f):=λH Q M W q=>
 h H _ M W λv s (E:v= .str f) u c=>g s _ (M.trans c) u λR y #[a,S,A,B,L] C d=>j y _ ((M.trans c).trans d) C λU Y #[b,xs,D,F,X,l4] G e=>#[dP,λr N=>kf (P:=PD Cf m f) G (λV I x J k=>q V I x J (((c.trans d).trans e).trans k)) N λt z=>
  #[r,Z,yS (f:=f) (by rw[z,E,A,D]) (t _ _ (e.t _ _ B)) L (t _ _ F) (X.mono t) Ic o]]
theorem vF(h:Ev H0 p wl ys Hb σ T (PN ys)):Ev H0 p wl ys Hb σ (bE (al T aI)) (PP 1):=λH Q m W q=>
 h H _ m W λV f #[X,e,_] a b=>#[iR,λr n=>kf (P:=PP 1) a (λv c x d k=>q v c x d (b.trans k)) n λt z=>#[r,[X],Z,by rw[z,e];rfl,Z]]
theorem uZ(h:Ev H0 p wl ys Hb σ T (PN ys))(b:Ev H0 p wl ys Hb σ c (PN ys)):Ev H0 p wl ys Hb σ (bE (al T (al c aI))) (PP 2):=λH Q m W q=>
 h H _ m W λV d #[X,e,_] f a=>b d _ (m.trans a) f λs u #[g,E,_] i j=>#[bG,λr n=>kf (P:=PP 2) i (λv l x o k=>q v l x o ((a.trans j).trans k)) n λt z=>#[r,[X,g],Z,by rw[z,e,E];rfl,Z]]
theorem bX.lift(h:bX Cf H ys 0 v):bX Cf H ys 1 v:=h.up
theorem PB.lift(h:PB Cf ys 0 n H v):PB Cf ys 1 n H v:=let #[a,x,e,c,#[b,B,d,g,i],f]:=h;#[a,x,e,c,#[b,B,d,Ic,Ic],f]
theorem PB.more(h:PB Cf ys d n H v)(k:n<=m):PB Cf ys d m H v:=let #[a,x,e,b,c,f]:=h;#[a,x,e,b,c,Ds f k]
theorem qB{a b:TS}(W:Wd H0 H p wl ys)(e:σ[0]?=some (some (.ref p)))(g:1<=n)(i:n<=1000)(j:∀h,Wd H0 h p wl ys->Fw p H h->a D σ h)(l:∀h,Wd H0 h p wl ys->Fw p H h->b D σ h):gu (gU (dw Am (rJ n) (tC (.int 0)))) a b D σ H:=
 kI (Hb:=H) e g i H _ .refl W λv c #[d,E,m,o] f k=>by
  subst E
  exact#[Z,_,Z,bp (λ_=>j c f k) (λ_=>l c f k)]
theorem jQ{D:be}{P:Hp->V->Prop}(W:Wd H0 H p wl ys)(h:Ev H0 p wl ys H σ t P)(q:∀v a,P a v->Wd H0 a p wl ys->Fw p H a->D.nx (σ.set i (some v)) a):dD t (bf i) D σ H:=h H _ .refl W q
theorem Qo{D:be}{P:Hp->V->Prop}(W:Wd H0 H p wl ys)(h:Ev H0 p wl ys H σ t P)(q:∀v a,P a v->Wd H0 a p wl ys->D.rt v a):gM t D σ H:=h H _ .refl W λv a x b _=>q v a x b
theorem uo{K:Frag}{D:be}(W:Wd H0 H p wl ys)(d:Ev H0 p wl ys H σ T (PT ys 0))(e:Ev H0 p wl ys H σ f (PT ys 0))(g:Ev H0 p wl ys H σ l (PT ys 0))
  (q:∀u v w h,PT ys 0 h u->PT ys 0 h v->PT ys 0 h w->Wd H0 h p wl ys->Fw p H h->D.nx (((σ.set k (some w)).set j (some v)).set i (some u)) h):vk K (bE (al T (al f (al l aI)))) i j k D σ H:=
 d H _ .refl W λV m x o a=>e m _ a o λs y X z b=>g y _ (a.trans b) z λA E B C c=>#[dP,λr n=>#[r,_,_,_,Z,aA.of jc,q V s A _ (aq _ _ _ (ae.tm (je n)) (aq _ _ _ (b.trans c).t x)) (aq _ _ _ (ae.tm (je n)) (aq _ _ _ c.t X)) (aq _ _ _ (ae.tm (je n)) B) (C.same (je n)) (((a.trans b).trans c).trans (.new n))]]
structure Ow(H0 H:Hp)(p wl l:Addr)(xs:List V):Prop where
 hl:H l=some (.lst xs)
 np:l≠p
 lw:l≠wl
 l0:H0 l=none
theorem Ow.fw(o:Ow H0 H p wl l x)(k:Fw p H h):Ow H0 h p wl l x:=#[k.b _ _ o.np o.hl,o.np,o.lw,o.l0]
theorem Ow.new(W:Wd H0 H p wl ys)(n:H l=none):Ow H0 (af H l (.lst x)) p wl l x:=#[jc,W.B.ne n,(λe=>by have z:=W.w;rw[<- e,n]at z;cases z),W.K.none W.B n]
theorem y9{D:be}(W:Wd H0 H p wl ys)(b:Ev H0 p wl ys H σ t (λH v=>bX Cf H ys 0 v))(q:∀l v h,Ow H0 h p wl l [v]->bX Cf h ys 0 v->Wd H0 h p wl ys->Fw p H h->D.nx (σ.set i (some (.ref l))) h):dD (i7 (al t aI)) (bf i) D σ H:=
 b H _ .refl W λV c x a k=>#[iR,λl n=>q l V _ (.new a n) (x.mono (ae.tm (je n))) (a.same (je n)) (k.trans (.new n))]
theorem yU{D:be}(W:Wd H0 H p wl ys)(c:Ev H0 p wl ys H σ T (λH v=>bX Cf H ys 0 v))(d:Ev H0 p wl ys H σ e (λH v=>bX Cf H ys 0 v))(q:∀l u v h,Ow H0 h p wl l [u,v]->bX Cf h ys 0 u->bX Cf h ys 0 v->Wd H0 h p wl ys->Fw p H h->D.nx (σ.set i (some (.ref l))) h):dD (i7 (al T (al e aI))) (bf i) D σ H:=
 c H _ .refl W λV f x g k=>d f _ k g λj m X a b=>#[bG,λl n=>q l V j _ (.new a n) ((x.mono b.t).mono (ae.tm (je n))) (X.mono (ae.tm (je n))) (a.same (je n)) ((k.trans b).trans (.new n))]
theorem Jd{K:Frag}{D:be}(W:Wd H0 H p wl ys)(a:σ[i]?=some (some (.ref l)))(o:Ow H0 H p wl l xs)(b:xs.length<=100)(c:Ev H0 p wl ys H σ T (λH v=>bX Cf H ys 0 v))
  (q:∀v h,bX Cf h ys 0 v->Ow H0 h p wl l (xs++[v])->Wd H0 h p wl ys->ah H h->D.nx σ h):mh (BC K "list" mK (aU i) (al T aI)) D σ H:=
 #[_,a,.inl #[Z,_,aE.of o.hl],c H _ .refl W λv e x d k=>#[l,xs,v,Z,Z,(o.fw k).hl,Ez b Ib,q v _ (x.mono (Qm (o.fw k).hl)) #[jc,o.np,o.lw,o.l0] (d.own (xs:=xs) o.l0 o.np o.lw) (k.t.trans (Qm (o.fw k).hl))]]
theorem uK{K:Frag}{D:be}(W:Wd H0 H p wl ys)(h:σ[i]?=some (some (.ref l)))(o:Ow H0 H p wl l (u::v::z))
  (q:∀a,Ow H0 a p wl l (v::u::z)->Wd H0 a p wl ys->ah H a->D.nx σ a):dD (bE (al (dw (ik K) (aU i) (tC (.int 1))) (al (dw (ik K) (aU i) (tC (.int 0))) aI))) (sI K 2 (dF (yB (aU i) (tC (.int 0)) pk) (dF (yB (aU i) (tC (.int 1)) pk) uL))) D σ H:=
 #[_,h,l,_,_,_,Z,Z,aE.of o.hl,ni,_,h,l,_,_,_,Z,Z,aE.of o.hl,gZ,bG,λt N=>#[t,_,Z,aA.of jc,Z,_,_,Z,_,h,l,_,0,0,Z,Z,ao o.hl N,CW (n:=z.length+1),_,_,Z,_,h,l,_,1,1,Z,Z,jc,Da (n:=z.length),Z,
  q _ #[jc,o.np,o.lw,o.l0] (((W.same (je N)).own (xs:=u::v::z) o.l0 o.np o.lw).own (xs:=u::v::z) o.l0 o.np o.lw) (((ae.tm (je N)).trans (Qm (ao o.hl N))).trans (Qm jc))]]
theorem uX{K:Frag}{n:Nat}(e:σ[i]?=some (some (.ref l)))(o:Ow H0 Hb p wl l x)(h:fc Cf Hb ys 0 x)(a:x.length<=n):Ev H0 p wl ys Hb σ (A9 (λx H Q=>∃p ys,x=[V.ref p]/\((aE K H p ys/\∀(l:Addr),H l=none->Q (V.ref l) (af H l (HO.tup ys)))∨aA K H p ys/\Q (V.ref p) H)) (al (aU i) aI)) (PB Cf ys 0 n):=λH Q m W q=>
 #[_,e,l,x,Z,.inl #[aE.of (o.fw m).hl,λr N=>kf (P:=PB Cf ys 0 n) W q N λt z=>#[r,x,Z,z,(h.mono m.t).mono t,a]]]
theorem yu{D:be}(W:Wd H0 H p wl ys)(u:σ[i]?=some (some (.ref l)))(y:σ[j]?=some (some (.ref m)))(o:Ow H0 H p wl l x)(O:Ow H0 H p wl m z)(C:x.length+z.length<=100)(E:fc Cf H ys 0 x)(F:fc Cf H ys 0 z)
  (G:Ev H0 p wl ys H σ T (λH v=>bX Cf H ys 0 v)) (I:Ev H0 p wl ys H σ J (λH v=>bX Cf H ys 0 v)) (q:∀r U h,Ow H0 h p wl r U->fc Cf h ys 0 U->U.length<=x.length+z.length+2->Wd H0 h p wl ys->Fw p H h->D.nx (σ.set i (some (.ref r))) h):
  dD (dw wq (dw wq (aU i) (aU j)) (i7 (al T (al J aI)))) (bf i) D σ H:=
 #[_,u,_,y,l,m,_,_,Z,Z,o.hl,O.hl,Ds C Ib,λc n=>G _ _ (.new n) (W.same (je n)) λV L X M k=>I L _ ((Fw.new n).trans k) M λe R Q A s=>#[bG,λd N=>#[c,d,_,_,Z,Z,ao ((k.trans s).b _ _ (W.B.ne n) jc) N,jc,by
  have:=aB
  show(x++z).length+2<=sizeLine
  rw[Dj]
  omega,λr a=>q r _ _ (.new (A.same (je N)) a) (by
   have f:=(((Fw.new n).trans k).trans s).trans ((Fw.new (p:=p) (o:=HO.lst [V,e]) N).trans (Fw.new (o:=HO.lst ((x++z)++[V,e])) a))
   have g:=(Fw.new (p:=p) (o:=HO.lst [V,e]) N).trans (Fw.new (o:=HO.lst ((x++z)++[V,e])) a)
   exact Jc (Jc (E.mono f.t) (F.mono f.t)) (jS ((X.mono s.t).mono g.t) (zg (Q.mono g.t)))) (by rw[Dj,Dj];exact Dk _) ((A.same (je N)).same (je a)) ((((Fw.new n).trans k).trans s).trans ((Fw.new N).trans (Fw.new a)))]]]
theorem Ys{K:Frag}{D:be}(W:Wd H0 H p wl ys)(k:σ[3]?=some (some (.ref wl)))(l:ys.length=6)
  (q:∀a b c d e g,PT ys 0 g a->PT ys 0 g b->PT ys 0 g c->PT ys 0 g d->PT ys 0 g e->Wd H0 g p wl ys->D.nx (((((σ.set 4 (some a)).set 5 (some b)).set 6 (some c)).set 7 (some d)).set 8 (some e)) g):
  dD (nH (uY K (Bm (xg K) (aU 3) iu (i9 (tC (V.int 5))))) 1 [] (bf 0) hX (bE (al (tC (V.str "var")) (al (aU 0) aI)))) (CO K 5 (dF (bf 4) (dF (bf 5) (dF (bf 6) (dF (bf 7) (dF (bf 8) uL)))))) D σ H:=by
 have B:=aB
 refine#[_,k,_,Z,wl,_,Z,aE.of W.w,λs n=>?_]
 have E:aT (ys.map V.str) none (some 5)=(ys.take 5).map V.str:=by rw[show(5:Int)=((5:Nat):Int) from Z,Ar (by rw[Di];omega),Gh]
 have t:af H s (.lst (aT (ys.map V.str) none (some 5))) s=some (.lst ((ys.take 5).map V.str)):=by rw[E];exact jc
 have S:=je (o:=HO.lst (aT (ys.map V.str) none (some 5))) n
 generalize af H s (.lst (aT (ys.map V.str) none (some 5)))=A at t S
 refine#[s,Z,#[_,aE.of t],?_]
 refine Y7 (K:=K) (a:=s) (xs:=(ys.take 5).map V.str) (by rw[Di,DG];omega) (λi j g=>j.length=i/\(∀v∈j,PT ys 0 g v)/\ae A g) #[Z,(λ_ h=>absurd h DO),ae.refl _] (λi j g h=>#[aE.of (h.2.2 _ _ t),Hl h.1]) (λi x j g C h=>?_) (λj F h L N=>?_)
 ·obtain⟨y,l,rfl⟩:=List.mem_map.mp (Dx C)
  exact#[_,Z,bG,λr u=>#[by rw[Dj,h.1];rfl,qO (λa z=>aq _ _ _ (ae.tm (je u)) (h.2.1 a z)) #[r,Z,ZV jc (Ea l)],h.2.2.trans (je u)]]
 ·have e:=h.1
  rw[Di,DG]at e
  obtain⟨a,b,c,d,f,rfl⟩:=BW (show j.length=5 by omega)
  have m:=ae.tm (je (o:=HO.lst [a,b,c,d,f]) N)
  exact#[L,_,Z,aE.of jc,Z,_,_,Z,_,_,Z,_,_,Z,_,_,Z,_,_,Z,Z,q a b c d f _ (aq _ _ _ m (h.2.1 a Ie)) (aq _ _ _ m (h.2.1 b Ie)) (aq _ _ _ m (h.2.1 c Ie)) (aq _ _ _ m (h.2.1 d Ie)) (aq _ _ _ m (h.2.1 f Ie)) (((W.same S).same h.2.2).same (je N))]
end
theorem BU:aj ["_law_box_here","_law_a","_law_b"] ["_law_box_here","_law_a","_law_b"] (aa BP):=bo
theorem Ak(F:aJ K "_law_op" "_law_op" BP f t)(C:Cl P w K mg base 1 T u ["_law_box_here","_law_wide"] aM "_law_take"):ai P w K mg base ax 2 f t ["_law_box_here","_law_a","_law_b"] lH:=by
 refine F.ok BU ?_ λv A O s H V Q E x h=>?_
 ·rintro _ _ _ _ ⟨p,a,b,y,k,rfl,_⟩
  rfl
 refine aP λR i=>?_
 obtain⟨p,a,b,y,k,rfl,B,z,D,q⟩:=h
 refine i ?_
 clear i
 refine#[_,(jg (jl (jh (ja jk (ja (jq jo (jC (ja jk (ja jk (ja jk (ja jk jb))))) (C.e x.m (ja (pv 0) (ja jf jb))) (λ_ _=>Z)) (ja (pv 1) (ja (pv 2) jb))))))),?_]
 refine#[nk,λl n=>#[_,Z,p,4,Z,B.upd_new n,Ib,Ib,λd G I J L j=>?_]]
 obtain⟨s,c,M⟩:=sG I J
 have g:ar p H G:=((ar.refl).upd_new n).trans (ar.of_eq j)
 refine#[l,_,_,_,Z,Z,aE.of (by rw[j l (B.ne n)];exact jc),c,_,Z,_,Z,nk,λr N=>?_]
 have S:=je (o:=HO.tup [.str "op",.str s,.ref a,.ref b]) N
 exact q r _ (vq jc M ((z.mono (g.tm B)).mono (ae.tm S)) ((D.mono (g.tm B)).mono (ae.tm S)) (Eo _) (Eo _)) (L.upd_new N) (g.trans (ar.of_same S))
theorem bu:aj ["_law_box_here","_law_f","_law_g","_law_w","_law_x","_law_i","_law_y","_law_spot_here","_law_body_here","_law_deeper","_law_test","_law_early","_law_last"] ["_law_box_here","_law_f","_law_g","_law_w"] (aa lO):=bo
theorem pR(F:aJ K "_law_inner" "_law_inner" lO f fd)(I:Cl P w K mg base 1 fT c0 ["_law_box_here","_law_wide"] aM "_law_take")(cO:Cl P w K mg base 2 fO c1 ["_law_box_here","_law_a","_law_b"] lH "_law_op"):ai P w K mg base ax 3 f fd ["_law_box_here","_law_f","_law_g","_law_w"] (c7 2):=by
 refine F.ok bu ?_ λc2 A o1 s H vs Q E l h=>?_
 ·rintro _ _ _ _ ⟨p,T,f0,g,Y,rfl,_⟩
  rfl
 refine aP λGq kq=>?_
 obtain⟨p,T,f0,g,Y,rfl,B,hw,h2,q⟩:=h
 refine kq ?_
 clear kq
 refine#[_,(jd (@sH _ _ _ _ _ _ _ _ (4) (5) (6) Z bu.nd Z Z Z (Or.inl Z) (Or.inl Z) (Or.inl Z) (jh (ja (jh (ja jk (ja (jq jo (pv 3) jf (λ_ _=>Z)) jb))) (ja (jh (ja jk (ja (jq jo (pv 3) jf (λ_ _=>Z)) jb))) (ja (jh (ja jk (ja (jq jo (pv 3) jf (λ_ _=>Z)) jb))) jb)))) (by first |exact .inl Z |exact .inr Z) (by first |exact .inl Z |exact .inr Z) (by first |exact .inl Z |exact .inr Z) Ih Ih) (jd (jw 7 bu.nd (jh (ja jk (ja jk (ja (jq jo (jC (ja (pv 4) (ja (pv 5) jb))) (I.e l.m (ja (pv 0) (ja jf jb))) (λ_ _=>Z)) (ja (jh (ja jk (ja (I.e l.m (ja (pv 0) (ja jf jb))) jb))) jb)))))) (jd (jw 8 bu.nd (jh (ja (jh (ja jk (ja (jq jo (pv 3) jf (λ_ _=>Z)) (ja (pv 7) jb)))) jb))) (jd (jX (jv (kE (I.e l.m (ja (pv 0) (ja jf jb)))) (jd (jw 7 bu.nd (jh (ja jk (ja jk (ja (pv 5) (ja (jh (ja jk (ja (jr jV jf (I.e l.m (ja (pv 0) (ja jf jb)))) jb))) jb)))))) (jg (jw 8 bu.nd (jr j4 (pv 8) (jh (ja (jh (ja jk (ja (pv 7) (ja (cO.e l.m (ja (pv 0) (ja (pv 4) (ja (pv 6) jb)))) jb)))) jb)))))) jm)) (jd (jX (jv (kE (I.e l.m (ja (pv 0) (ja jf jb)))) (jd (jw 9 bu.nd (jh (ja jk (ja (jq jo (pv 3) jf (λ_ _=>Z)) (ja (pv 2) (ja (jh (ja (jh (ja jk (ja jk (ja (pv 5) (ja (jh (ja jk (ja jf jb))) jb))))) (ja (pv 6) jb))) jb)))))) (jg (jw 8 bu.nd (jr j4 (pv 8) (jh (ja (jh (ja jk (ja (pv 5) (ja (jh (ja (pv 9) jb)) (ja (jh jb) jb))))) jb)))))) jm)) (jd (jw 10 bu.nd (jh (ja jk (ja (jq JW jk (I.e l.m (ja (pv 0) (ja jf jb))) (λ_ _=>Z)) (ja (pv 6) (ja (jh (ja jk (ja (I.e l.m (ja (pv 0) (ja jf jb))) jb))) jb)))))) (jd (jw 11 bu.nd (jh (ja jk (ja (cO.e l.m (ja (pv 0) (ja (pv 4) (ja (pv 6) jb)))) jb)))) (jd (jw 12 bu.nd (jh (ja jk (ja (cO.e l.m (ja (pv 0) (ja (pv 6) (ja (pv 5) jb)))) jb)))) (jd (jw 8 bu.nd (jr j4 (pv 8) (jh (ja (jh (ja jk (ja (pv 10) (ja (jh (ja (pv 11) jb)) (ja (jh jb) jb))))) (ja (pv 12) jb))))) (jg (jl (jh (ja (pv 1) (ja (jh (ja (jq jo (pv 3) jf (λ_ _=>Z)) (ja (jq jo (pv 3) jf (λ_ _=>Z)) jb))) (ja (pv 8) jb))))))))))))))),?_]
 have W0:Wd H H p T Y:=#[B,ar.refl,hw]
 refine ak λF1 f1=>uo W0 (JO (ky Z Ib Ic)) (JO (ky Z Ib Ic)) (JO (ky Z Ib Ic)) λvx vi vy J xx X U W1 k1=>f1 _ _ ?_
 refine ak λF2 f2=>jQ W1 (zO (n:=1) (zQ za) (X6 Z (jD Z aq xx) (jD Z aq X)) (ki (kI Z Ib Ib) Ib) Ib Ib) λv2 H2 x2 W2 k2=>f2 _ _ ?_
 refine ak λF3 f3=>jQ W2 (JS (JQ (Cf:=[(g,2)]) (ky Z Ib Ic) (jD Z aq x2) Ib)) λv3 H3 x3 W3 k3=>f3 _ _ ?_
 refine ak λF4 f4=>df (λL u=>∃(o:Option V) (b:V),L=[some (V.ref p),some (V.str f0),some (V.str g),some (V.ref T),some (vx),some (vi),some (vy),o,some b,none,none,none,none]/\PB [(g,2)] Y 1 2 u b/\Wd H u p T Y/\ah H3 u) (λE4 _ f5=>qB W3 Z Ib Ib (λH6 W6 k6=>?_) (λH6 W6 k6=>?_)) λσ0 H5 h0=>?_
 ·clear f4
  have C:ah J H6:=((k2.t.trans k3.t).trans k6.t)
  refine ak λF7 f7=>jQ W6 (zO (n:=1) (zQ za) (jD Z aq (aq _ _ _ C X)) (ki (Qn (kI Z Ib Ib) Ib) Ib) Ib Ib) λv7 H7 x7 W7 k7=>f7 _ _ ?_
  have D:ah H3 H7:=(k6.t.trans k7.t)
  have G:ah J H7:=(C.trans k7.t)
  refine jQ W7 (qu (jD Z dm (dm _ _ _ D x3)) (JS (JR (Cf:=[(g,2)]) (jD Z aq x7) (JP Z (jD Z aq (aq _ _ _ G xx)) (jD Z aq (aq _ _ _ G U))) Ib Ib)) Ib) λv8 H8 x8 W8 k8=>f5 _ _ ?_
  have m0:ah H3 H8:=(D.trans k8.t)
  exact#[_,_,Z,(PB.lift x8),W8,m0]
 ·clear f4
  exact f5 _ _ #[_,_,Z,(PB.more (PB.lift (dm _ _ _ k6.t x3)) Ib),W6,k6.t]
 obtain⟨o5,b5,rfl,x5,W5,k5⟩:=h0
 refine f4 _ _ ?_
 clear f4
 refine ak λF9 f9=>df (λL u=>∃(o:Option V) (b:V),L=[some (V.ref p),some (V.str f0),some (V.str g),some (V.ref T),some (vx),some (vi),some (vy),o5,some b,o,none,none,none]/\PB [(g,2)] Y 1 3 u b/\Wd H u p T Y/\ah H5 u) (λE9 _ f6=>qB W5 Z Ib Ib (λH0 W k=>?_) (λH0 W k=>?_)) λσ1 H4 h1=>?_
 ·clear f9
  have M:ah J H0:=(((k2.t.trans k3.t).trans k5).trans k.t)
  refine ak λF0 f'=>jQ W (Zw (Cf:=[(g,2)]) (ky Z Ib Ic) (KP Z) DA (zO (n:=1) (zQ QZ) (jD Z aq (aq _ _ _ M X)) (ki (Qi Ib (by decide:(1:Int) < 2)) Ib) Ib Ib) (jD Z aq (aq _ _ _ M U)) Ib Ib) λv1 H9 x0 W4 k0=>f' _ _ ?_
  have c:ah H5 H9:=(k.t.trans k0.t)
  have N:ah J H9:=(M.trans k0.t)
  refine jQ W4 (qu (jD Z dm (dm _ _ _ c x5)) (JS (vI (jD Z aq (aq _ _ _ N X)) (JS (jD Z dA x0)) (uO (Cf:=[(g,2)]) (d:=0)) Ib Ib)) Ib) λv4 a2 x1 W9 k9=>f6 _ _ ?_
  have O:ah H5 a2:=(c.trans k9.t)
  exact#[_,_,Z,x1,W9,O]
 ·clear f9
  exact f6 _ _ #[_,_,Z,(PB.more (dm _ _ _ k.t x5) Ib),W,k.t]
 obtain⟨o2,c3,rfl,x4,a3,k'⟩:=h1
 refine f9 _ _ ?_
 clear f9
 have i:ah J H4:=(((k2.t.trans k3.t).trans k5).trans k')
 refine ak λF5 a4=>jQ a3 (zO (n:=1) (AM Z) (jD Z aq (aq _ _ _ i U)) (ki (kI Z Ib Ib) Ib) Ib Ib) λv5 a0 x9 a5 k4=>a4 _ _ ?_
 have a:ah J a0:=(i.trans k4.t)
 refine ak λF6 a'=>jQ a5 (QM (Cf:=[(g,2)]) (JP Z (jD Z aq (aq _ _ _ a xx)) (jD Z aq (aq _ _ _ a U))) Ib) λv9 b0 x' b1 R=>a' _ _ ?_
 have j:ah J b0:=(a.trans R.t)
 refine ak λc4 b2=>jQ b1 (QM (Cf:=[(g,2)]) (JP Z (jD Z aq (aq _ _ _ j U)) (jD Z aq (aq _ _ _ j X))) Ib) λv' a1 b3 b4 S=>b2 _ _ ?_
 have y:ah H4 a1:=((k4.t.trans R.t).trans S.t)
 have z:ah a0 a1:=(R.t.trans S.t)
 refine ak λc5 b7=>jQ b4 (qu (jD Z dm (dm _ _ _ y x4)) (X7 (vI (jD Z aq (aq _ _ _ z x9)) (JS (jD Z dA (dA _ _ _ S.t x'))) (uO (Cf:=[(g,2)]) (d:=0)) Ib Ib) (Ev.up (jD Z dA b3) λ_ _=>bX.lift)) Ib) λc6 c9 b9 b' c'=>b7 _ _ ?_
 refine Qo b' (X8 (KP Z) (uZ (ky Z Ib Ic) (ky Z Ib Ic)) (jD Z dm b9) Ib Ic) λv u x W'=>?_
 obtain⟨r,rfl,x⟩:=x
 exact q r u x W'.B W'.K
theorem ba:aj ["_law_box_here","_law_f","_law_inner_here","_law_w","_law_n","_law_i","_law_s","_law_x","_law_y","_law_body_here","_law_spot_here","_law_start","_law_loop"] ["_law_box_here","_law_f","_law_inner_here","_law_w"] (aa gi):=bo
noncomputable def KJ:Scope:=#[.function,[(".0",.local),("_law_one",.local)],false,false,[]]
theorem XZ:(["_law_one"]:List Str).Nodup:=by decide+kernel
theorem X0:aX ["_law_box_here","_law_f","_law_inner_here","_law_w","_law_n","_law_i","_law_s","_law_x","_law_y","_law_body_here","_law_spot_here","_law_start","_law_loop"] (aa gi) KJ ["_law_one"] 1 []:=nh
theorem Zb(F:aJ K "_law_looped" "_law_looped" gi f fd)(C:Cl P w K mg base 1 fT d6 ["_law_box_here","_law_wide"] aM "_law_take")(cO:Cl P w K mg base 2 fO d7 ["_law_box_here","_law_a","_law_b"] lH "_law_op")(mi:mg "int"=none)(m6:mg "tuple"=none):ai P w K mg base ax 3 f fd ["_law_box_here","_law_f","_law_inner_here","_law_w"] (c7 1):=by
 refine F.ok ba ?_ λd8 A b1 s H vs Q E l h=>?_
 ·rintro _ _ _ _ ⟨p,W,f0,g,Y,rfl,_⟩
  rfl
 refine aP λGq kq=>?_
 obtain⟨p,W,f0,g,Y,rfl,B,hw,h2,q⟩:=h
 refine kq ?_
 clear kq
 refine#[_,(jd (kL (@kO _ _ _ _ _ _ _ (["_law_one"]) (1) ([]) _ _ _ _ Z (qf (jL km (pv 3) kK (jF jf))) X0 (λ_ _ _ _ _=>(ju (i:=0) XZ Z (Or.inl Z))) (λ_ _ _ _ _=>(@kW _)) (λ_ _ _ _ _=>(jh (ja jk (ja (pv 0) jb)))) (by intro _;rfl)) (@Yj _ _ _ _ (5) _ Z (jx (ju (i:=4) ba.nd Z (Or.inl Z)) (jx (ju (i:=5) ba.nd Z (Or.inl Z)) (jx (ju (i:=6) ba.nd Z (Or.inl Z)) (jx (ju (i:=7) ba.nd Z (Or.inl Z)) (jx (ju (i:=8) ba.nd Z (Or.inl Z)) j8))))) Ih Ih)) (jd (jw 9 ba.nd (jC (ja (jh (ja jk (ja (jq jo (pv 3) jf (λ_ _=>Z)) (ja (jh (ja jk (ja jk (ja (pv 5) (ja (jh (ja jk (ja (C.e l.m (ja (pv 0) (ja jf jb))) jb))) jb))))) jb)))) jb))) (jd (jN (kh Dw DN DM jP (pv 9) (ja (jh (ja jk (ja (jq jo (pv 3) jf (λ_ _=>Z)) (ja (pv 2) (ja (jh (ja (pv 7) (ja (jq jo (jC (ja (pv 5) (ja (pv 6) jb))) (jB Je Z mi boot_int (ja (qg Jl (C.e l.m (ja (pv 0) (ja jf jb))) jf (aF _)) jb)) (λ_ _=>Z)) jb))) jb))))) jb))) (jd (jX (jv (kE (C.e l.m (ja (pv 0) (ja jf jb)))) (jd (jw 10 ba.nd (jh (ja jk (ja jk (ja (pv 5) (ja (jh (ja jk (ja (jr jV jf (C.e l.m (ja (pv 0) (ja jf jb)))) jb))) jb)))))) (jg (jN (kh Dw DN DM jP (pv 9) (ja (jh (ja jk (ja (pv 10) (ja (jq jo (jC (ja (pv 6) (ja (pv 8) (ja (pv 7) jb)))) (C.e l.m (ja (pv 0) (ja jf jb))) (λ_ _=>Z)) jb)))) jb))))) jm)) (jd (jN (kh Dw DN DM jP (pv 9) (ja (jh (ja jk (ja (jq jo (pv 3) jf (λ_ _=>Z)) (ja (cO.e l.m (ja (pv 0) (ja (jq jo (jC (ja (pv 6) (ja (pv 6) (ja (pv 7) jb)))) (C.e l.m (ja (pv 0) (ja jf jb))) (λ_ _=>Z)) (ja (pv 8) jb)))) jb)))) jb))) (jd (jX (jv (kE (C.e l.m (ja (pv 0) (ja jf jb)))) (jg (kL (jh (ja (jq jo (pv 9) jf (λ_ _=>Z)) (ja (jq jo (pv 9) jf (λ_ _=>Z)) jb))) (zc (n:=2) Z (jx (zR (pv 9) jf kQ) (jx (zR (pv 9) jf kQ) j8))))) jm)) (jd (jN (kh Dw DN DM jP (pv 9) (ja (jh (ja jk (ja (jq jo (pv 3) jf (λ_ _=>Z)) (ja (jh (ja jk (ja jk (ja (pv 5) (ja (jh (ja jk (ja jf jb))) jb))))) jb)))) jb))) (jd (jw 11 ba.nd (jh (ja (jh (ja jk (ja (jq jo (pv 3) jf (λ_ _=>Z)) (ja (jh (ja jk (ja (C.e l.m (ja (pv 0) (ja jf jb))) jb))) jb)))) (ja (jh (ja jk (ja (jq jo (pv 3) jf (λ_ _=>Z)) (ja (jh (ja jk (ja (C.e l.m (ja (pv 0) (ja jf jb))) jb))) jb)))) jb)))) (jd (jX (jv (kE (C.e l.m (ja (pv 0) (ja jf jb)))) (jd (jw 11 ba.nd (jr j4 (pv 11) (jh (ja (jh (ja jk (ja (jq jo (pv 3) jf (λ_ _=>Z)) (ja (jh (ja jk (ja (jr jV jf (C.e l.m (ja (pv 0) (ja jf jb)))) jb))) jb)))) jb)))) (jg (jw 11 ba.nd (jr j4 (pv 11) (jh (ja (jh (ja jk (ja (jq jo (pv 3) jf (λ_ _=>Z)) (ja (jh (ja jk (ja jk (ja (pv 4) (ja (jh (ja jk (ja jf jb))) jb))))) jb)))) jb)))))) jm)) (jd (jw 12 ba.nd (jh (ja jk (ja (jh (ja jk (ja jk (ja (pv 5) (ja (pv 4) jb))))) (ja (jB jA Z m6 EB (ja (pv 9) jb)) jb))))) (jg (jl (jh (ja (pv 1) (ja (jh (ja (jq jo (pv 3) jf (λ_ _=>Z)) jb)) (ja (jr j4 (pv 11) (jh (ja (pv 12) (ja (jh (ja jk (ja (jh (ja jk (ja jf jb))) (ja (pv 6) jb)))) (ja (jh (ja jk (ja (pv 6) jb))) jb))))) jb)))))))))))))))),?_]
 have W0:Wd H H p W Y:=#[B,ar.refl,hw]
 refine ak λF1 f1=>Ys W0 Z h2 λvn vi vs vx vy U xn xi xs xx xy W1=>f1 _ _ ?_
 refine ak λF2 f2=>y9 W1 (JQ (Cf:=[(g,2)]) (ky Z Ib Ic) (zO (n:=1) (zQ za) (jD Z aq xi) (ki (kI Z Ib Ib) Ib) Ib Ib) Ib) λlb u2 H2 o2 x2 W2 k2=>f2 _ _ ?_
 refine ak λF3 f3=>Jd W2 Z o2 (show 1<=100 by decide) (Zw (Cf:=[(g,2)]) (ky Z Ib Ic) (KP Z) DA (jD Z aq (aq _ _ _ k2.t xx)) (Ap Z Ib Ib (jD Z aq (aq _ _ _ k2.t xi)) (jD Z aq (aq _ _ _ k2.t xs))) Ib Ib) λu3 H3 x3 o3 W3 k3=>f3 _ _ ?_
 refine ak λF4 f4=>df (λu c=>∃(o:Option V) (G:List V),u=[some (V.ref p),some (V.str f0),some (V.str g),some (V.ref W),some (vn),some (vi),some (vs),some (vx),some (vy),some (V.ref lb),o,none,none]/\Ow H c p W lb (u2::u3::G)/\fc [(g,2)] c Y 0 G/\G.length<=1/\Wd H c p W Y/\ah H3 c) (λE4 _ f5=>qB W3 Z Ib Ib (λH6 W6 k6=>?_) (λH6 W6 k6=>?_)) λσ2 H5 h3=>?_
 ·clear f4
  have o6:=o3.fw k6
  have R:ah U H6:=((k2.t.trans k3).trans k6.t)
  refine ak λF7 f7=>jQ W6 (zO (n:=1) (zQ za) (jD Z aq (aq _ _ _ R xi)) (ki (Qn (kI Z Ib Ib) Ib) Ib) Ib Ib) λv7 H7 x7 W7 k7=>f7 _ _ ?_
  have o7:=o6.fw k7
  have y:ah U H7:=(R.trans k7.t)
  refine Jd W7 Z o7 (show 2<=100 by decide) (JR (Cf:=[(g,2)]) (jD Z aq x7) (vC Z (jD Z aq (aq _ _ _ y xs)) (jD Z aq (aq _ _ _ y xy)) (jD Z aq (aq _ _ _ y xx))) Ib Ib) λu8 H8 x8 o8 W8 k8=>f5 _ _ ?_
  have m5:ah H3 H8:=((k6.t.trans k7.t).trans k8)
  exact#[_,[u8],Z,o8,zg x8,Dk 1,W8,m5]
 ·clear f4
  have o6:=o3.fw k6
  exact f5 _ _ #[_,[],Z,o6,J2,Ib,W6,k6.t]
 obtain⟨w5,G,rfl,o5,zx,zl,W5,k5⟩:=h3
 refine f4 _ _ ?_
 clear f4
 have M:ah U H5:=((k2.t.trans k3).trans k5)
 refine ak λF9 f9=>Jd W5 Z o5 (show G.length+1+1<=100 by omega) (Jn (Cf:=[(g,2)]) (ky Z Ib Ic) (JP Z (vC Z (jD Z aq (aq _ _ _ M xs)) (jD Z aq (aq _ _ _ M xs)) (jD Z aq (aq _ _ _ M xx))) (jD Z aq (aq _ _ _ M xy))) Ib) λu9 H9 x9 o9 W9 k9=>f9 _ _ ?_
 have zy:fc [(g,2)] H9 Y 0 (G++[u9]):=Jc (zx.mono k9) (zg x9)
 have zm:(G++[u9]).length<=2:=by rw[Dj];exact Ey zl
 refine ak λF0 I=>df (λu c=>∃(X:List V),u=[some (V.ref p),some (V.str f0),some (V.str g),some (V.ref W),some (vn),some (vi),some (vs),some (vx),some (vy),some (V.ref lb),w5,none,none]/\Ow H c p W lb X/\fc [(g,2)] c Y 0 X/\X.length<=4/\Wd H c p W Y/\ah H9 c) (λE1 _ S=>qB W9 Z Ib Ib (λH0 W4 k=>?_) (λH0 W4 k=>?_)) λσ0 b2 h0=>?_
 ·clear I
  have o1:=o9.fw k
  refine uK W4 Z o1 λH4 b3 b4 k0=>S _ _ ?_
  have m0:ah H3 H4:=(((k5.trans k9).trans k.t).trans k0)
  have m1:ah H2 H4:=((((k3.trans k5).trans k9).trans k.t).trans k0)
  have z:ah H9 H4:=(k.t.trans k0)
  exact#[_,Z,b3,jS ((dA _ _ _ m0 x3)) (jS ((dA _ _ _ m1 x2)) (zy.mono z)),(show(G++[u9]).length+1+1<=4 by omega),b4,z]
 ·clear I
  have o1:=o9.fw k
  have m2:ah H2 H0:=(((k3.trans k5).trans k9).trans k.t)
  have m3:ah H3 H0:=((k5.trans k9).trans k.t)
  exact S _ _ #[_,Z,o1,jS ((dA _ _ _ m2 x2)) (jS ((dA _ _ _ m3 x3)) (zy.mono k.t)),(show(G++[u9]).length+1+1<=4 by omega),W4,k.t]
 obtain⟨X,rfl,b5,ux,ul,b7,b9⟩:=h0
 refine I _ _ ?_
 clear I
 have d:ah U b2:=((M.trans k9).trans b9)
 refine ak λF5 f6=>Jd b7 Z b5 Ic (Jn (Cf:=[(g,2)]) (ky Z Ib Ic) (zO (n:=1) (zQ za) (jD Z aq (aq _ _ _ d xi)) (ki (Qi Ib (by decide:(1:Int) < 2)) Ib) Ib Ib) Ib) λu0 a1 x1 b' c0 k1=>f6 _ _ ?_
 have b0:fc [(g,2)] a1 Y 0 (X++[u0]):=Jc (ux.mono k1) (zg x1)
 have bl:(X++[u0]).length<=5:=by rw[Dj];exact Ey ul
 refine ak λF6 f'=>jQ c0 (X7 (Jn (Cf:=[(g,2)]) (ky Z Ib Ic) (ki (kI Z Ib Ib) Ib) Ib) (Jn (Cf:=[(g,2)]) (ky Z Ib Ic) (ki (kI Z Ib Ib) Ib) Ib)) λv1 a2 x0 c1 J=>f' _ _ ?_
 have o':=b'.fw J
 refine ak λd9 L=>df (λu c=>∃(b:V),u=[some (V.ref p),some (V.str f0),some (V.str g),some (V.ref W),some (vn),some (vi),some (vs),some (vx),some (vy),some (V.ref lb),w5,some b,none]/\Ow H c p W lb (X++[u0])/\PB [(g,2)] Y 0 4 c b/\Wd H c p W Y/\ah a2 c) (λE2 _ T=>qB c1 Z Ib Ib (λc2 a0 a=>?_) (λc2 a0 a=>?_)) λσ1 a3 h1=>?_
 ·clear L
  have o4:=o'.fw a
  refine ak λd' c3=>jQ a0 (qu (jD Z dm (dm _ _ _ a.t x0)) (JS (JQ (Cf:=[(g,2)]) (ky Z Ib Ic) (ki (Qn (kI Z Ib Ib) Ib) Ib) Ib)) Ib) λv2 c4 x4 c5 k4=>c3 _ _ ?_
  have c6:=o4.fw k4
  have m4:ah U c4:=((((d.trans k1).trans J.t).trans a.t).trans k4.t)
  refine jQ c5 (qu (jD Z dm x4) (JS (Jn (Cf:=[(g,2)]) (ky Z Ib Ic) (zO (n:=1) (zQ uG) (jD Z aq (aq _ _ _ m4 xn)) (ki (Qi Ib (by decide:(2:Int) < 3)) Ib) Ib Ib) Ib)) Ib) λv3 c9 x5 c' a4=>T _ _ ?_
  have d0:=c6.fw a4
  have N:ah a2 c9:=((a.t.trans k4.t).trans a4.t)
  exact#[_,Z,d0,x5,c',N]
 ·clear L
  have o4:=o'.fw a
  exact T _ _ #[_,Z,o4,(PB.more (dm _ _ _ a.t x0) Ib),a0,a.t]
 obtain⟨e0,rfl,a5,x',d1,a'⟩:=h1
 refine L _ _ ?_
 clear L
 have j:ah U a3:=(((d.trans k1).trans J.t).trans a')
 have O:ah a1 a3:=(J.t.trans a')
 refine ak λe1 d2=>jQ d1 (vp (zO (n:=1) (zQ Qv) (jD Z aq (aq _ _ _ j xi)) (jD Z aq (aq _ _ _ j xn)) Ib Ib) (uX (n:=5) Z a5 (b0.mono O) bl) Ib Ib) λv4 d3 d4 d5 k'=>d2 _ _ ?_
 have e2:=a5.fw k'
 have D:ah U d3:=(j.trans k'.t)
 refine Qo d5 (X8 (KP Z) (vF (ky Z Ib Ic)) (qu (Ev.up (jD Z dm (dm _ _ _ k'.t x')) λ_ _=>PB.lift) (AN (jD Z dA d4) (Ev.up (JR (Cf:=[(g,2)]) (ki (Qi Ib (by decide:(30:Int) < 31)) Ib) (jD Z aq (aq _ _ _ D xs)) Ib Ib) λ_ _=>bX.lift) (Ev.up (QM (Cf:=[(g,2)]) (jD Z aq (aq _ _ _ D xs)) Ib) λ_ _=>bX.lift)) Ib) Ib Ic) λv c x W'=>?_
 obtain⟨r,rfl,x⟩:=x
 exact q r c x W'.B W'.K
theorem Cc(b:0<=d)(c:d < 2)(h:bX C H y 0 u)(a:bX C H y 0 v):fc C H y 0 (aT [u,v] none (some (1+d)))/\(aT [u,v] none (some (1+d))).length<=2:=by
 rcases(by omega:d=0∨d=1) with rfl |rfl
 ·exact#[zg h,by show 1<=2;decide]
 ·exact#[jS h (zg a),by show 2<=2;decide]
def P2(C:gj)(y:List Str)(H:Hp)(w:V):Prop:=∃a u v,w= .ref a/\H a=some (.tup [u,v])/\bX C H y 0 u/\bX C H y 0 v
theorem vB:mt (P2 C y):=λ_ _ _ m #[a,u,v,e,h,H,b]=>#[a,u,v,e,m _ _ h,H.mono m,b.mono m]
section
variable {Cf:gj}{ys:List Str}{H0 Hb:Hp}{p wl:Addr}{σ:L2.St}
theorem vU(h:Ev H0 p wl ys Hb σ T (λH v=>bX Cf H ys 0 v))(c:Ev H0 p wl ys Hb σ d (λH v=>bX Cf H ys 0 v)):Ev H0 p wl ys Hb σ (bE (al T (al d aI))) (P2 Cf ys):=λH Q m W q=>
 h H _ m W λo e X f a=>c e _ (m.trans a) f λs u g i b=>#[bG,λr n=>kf (P:=P2 Cf ys) i (λV j x l k=>q V j x l ((a.trans b).trans k)) n λt z=>#[r,_,_,Z,z,(X.mono b.t).mono t,g.mono t]]
theorem xM(e:σ[i]?=some (some v))(E:σ[0]?=some (some (.ref p)))(h:P2 Cf ys Hb v):Ev H0 p wl ys Hb σ (Bm AG (aU i) iu (i9 (dw (uA λi j=>V.int (i+j)) (tC (.int 1)) (rJ 2)))) (PB Cf ys 0 2):=λH Q m W q=>
 #[v,e,kI E Ib Ib H _ m W λw y #[d,b,D,c] f k=>#[1,d,Z,b,_,Z,by
  obtain⟨a,u,A,rfl,g,l,n⟩:=vB _ _ _ (m.trans k).t h
  have z:=Cc D c l n
  exact#[a,_,Z,g,λr o x s=>q _ o #[r,_,Z,x,z.1.mono (ae.tm s),z.2] (f.same s) (k.trans (.same s))]]]
end
theorem aK:aj ["_law_box_here","_law_f","_law_inner_here","_law_w","_law_n","_law_i","_law_s","_law_x","_law_y","_law_spot_here","_law_body_here","_law_kept","_law_some","_law_start","_law_loop"] ["_law_box_here","_law_f","_law_inner_here","_law_w"] (aa eG):=bo
noncomputable def Kw:Scope:=#[.function,[(".0",.local),("_law_one",.local)],false,false,[]]
theorem Xh:(["_law_one"]:List Str).Nodup:=by decide+kernel
theorem Xi:aX ["_law_box_here","_law_f","_law_inner_here","_law_w","_law_n","_law_i","_law_s","_law_x","_law_y","_law_spot_here","_law_body_here","_law_kept","_law_some","_law_start","_law_loop"] (aa eG) Kw ["_law_one"] 1 []:=nh
theorem X1(F:aJ K "_law_ticking" "_law_ticking" eG f fd)(C:Cl P w K mg base 1 fT b5 ["_law_box_here","_law_wide"] aM "_law_take")(cO:Cl P w K mg base 2 fO b7 ["_law_box_here","_law_a","_law_b"] lH "_law_op")(mi:mg "int"=none)(m1:mg "tuple"=none):ai P w K mg base ax 3 f fd ["_law_box_here","_law_f","_law_inner_here","_law_w"] (c7 1):=by
 refine F.ok aK ?_ λc0 A o5 s H vs Q E c h=>?_
 ·rintro _ _ _ _ ⟨p,W,f0,g,ys,rfl,_⟩
  rfl
 refine aP λGq kq=>?_
 obtain⟨p,W,f0,g,ys,rfl,B,hw,h1,q⟩:=h
 refine kq ?_
 clear kq
 refine#[_,(jd (kL (@kO _ _ _ _ _ _ _ (["_law_one"]) (1) ([]) _ _ _ _ Z (qf (jL km (pv 3) kK (jF jf))) Xi (λ_ _ _ _ _=>(ju (i:=0) Xh Z (Or.inl Z))) (λ_ _ _ _ _=>(@kW _)) (λ_ _ _ _ _=>(jh (ja jk (ja (pv 0) jb)))) (by intro _;rfl)) (@Yj _ _ _ _ (5) _ Z (jx (ju (i:=4) aK.nd Z (Or.inl Z)) (jx (ju (i:=5) aK.nd Z (Or.inl Z)) (jx (ju (i:=6) aK.nd Z (Or.inl Z)) (jx (ju (i:=7) aK.nd Z (Or.inl Z)) (jx (ju (i:=8) aK.nd Z (Or.inl Z)) j8))))) Ih Ih)) (jd (jw 9 aK.nd (jh (ja jk (ja (jr jV jf (C.e c.m (ja (pv 0) (ja jf jb)))) jb)))) (jd (jw 10 aK.nd (jC (ja (jh (ja jk (ja (jq jo (pv 3) jf (λ_ _=>Z)) (ja (pv 9) jb)))) (ja (jh (ja jk (ja (jq jo (pv 3) jf (λ_ _=>Z)) (ja (jq jo (jC (ja (pv 5) (ja (jh (ja jk (ja (C.e c.m (ja (pv 0) (ja jf jb))) jb))) jb))) (C.e c.m (ja (pv 0) (ja jf jb))) (λ_ _=>Z)) jb)))) jb)))) (jd (jN (kh Dw DN DM jP (pv 10) (ja (jh (ja jk (ja (jq jo (pv 3) jf (λ_ _=>Z)) (ja (pv 2) (ja (jh (ja (jq jo (jC (ja (pv 7) (ja (jh (ja jk (ja jf jb))) jb))) (C.e c.m (ja (pv 0) (ja jf jb))) (λ_ _=>Z)) (ja (jq jo (jC (ja (pv 5) (ja (jh (ja jk (ja jf jb))) jb))) (C.e c.m (ja (pv 0) (ja jf jb))) (λ_ _=>Z)) jb))) jb))))) jb))) (jd (jX (jv (kE (C.e c.m (ja (pv 0) (ja jf jb)))) (jg (jN (kh Dw DN DM jP (pv 10) (ja (jh (ja jk (ja (jh (ja jk (ja jk (ja (pv 5) (ja (jh (ja jk (ja (C.e c.m (ja (pv 0) (ja jf jb))) jb))) jb))))) (ja (pv 8) jb)))) jb)))) jm)) (jd (jw 11 aK.nd (jh (ja jk (ja jf jb)))) (jd (jw 12 aK.nd (jC (ja (jh (ja jk (ja (jq jo (pv 3) jf (λ_ _=>Z)) (ja (pv 11) jb)))) (ja (jh (ja jk (ja (pv 11) (ja (cO.e c.m (ja (pv 0) (ja (pv 6) (ja (pv 8) jb)))) jb)))) jb)))) (jd (jX (jv (kE (C.e c.m (ja (pv 0) (ja jf jb)))) (jg (jw 12 aK.nd (jC (ja (jh (ja jk (ja (jq jo (pv 3) jf (λ_ _=>Z)) (ja (cO.e c.m (ja (pv 0) (ja (pv 6) (ja (pv 8) jb)))) jb)))) jb)))) jm)) (jd (jw 10 aK.nd (jr zT (jr zT (pv 10) (pv 12)) (jC (ja (jh (ja jk (ja (pv 9) (ja (jh (ja jk (ja jk (ja (pv 5) (ja (jh (ja jk (ja jf jb))) jb))))) jb)))) (ja (jh (ja jk (ja (jq jo (pv 3) jf (λ_ _=>Z)) (ja (jh (ja jk (ja jk (ja (pv 5) (ja (pv 4) jb))))) jb)))) jb))))) (jd (jw 13 aK.nd (jh (ja (jh (ja jk (ja (jq jo (pv 3) jf (λ_ _=>Z)) (ja (jh (ja jk (ja jf jb))) jb)))) (ja (jh (ja jk (ja (pv 9) (ja (jh (ja jk (ja (C.e c.m (ja (pv 0) (ja jf jb))) jb))) jb)))) jb)))) (jd (jw 14 aK.nd (jh (ja jk (ja (jh (ja jk (ja (jq jo (pv 3) jf (λ_ _=>Z)) jb))) (ja (jB jA Z m1 EB (ja (pv 10) jb)) jb))))) (jg (jl (jh (ja (pv 1) (ja (jh (ja (jq jo (pv 3) jf (λ_ _=>Z)) jb)) (ja (jr j4 (jL qh (pv 13) kK (jF (jr jV jf (C.e c.m (ja (pv 0) (ja jf jb)))))) (jh (ja (pv 14) (ja (jh (ja jk (ja (pv 6) jb))) jb)))) jb))))))))))))))))),?_]
 have W0:Wd H H p W ys:=#[B,ar.refl,hw]
 refine ak λF1 f1=>Ys W0 Z h1 λvn vi vs vx vy H1 xn xi xs xx xy W1=>f1 _ _ ?_
 refine ak λF2 f2=>jQ W1 (ki (Qn (kI Z Ib Ib) Ib) Ib) λv2 H2 x2 W2 k2=>f2 _ _ ?_
 refine ak λF3 f3=>yU W2 (JQ (Cf:=[(g,2)]) (ky Z Ib Ic) (jD Z aq x2) Ib) (JQ (Cf:=[(g,2)]) (ky Z Ib Ic) (X6 Z (jD Z aq (aq _ _ _ k2.t xi)) (ki (kI Z Ib Ib) Ib)) Ib) λlb u3 w3 H3 o3 x3 y3 W3 k3=>f3 _ _ ?_
 have a:ah H1 H3:=(k2.t.trans k3.t)
 refine ak λF4 f4=>Jd W3 Z o3 (show 2<=100 by decide) (Zw (Cf:=[(g,2)]) (ky Z Ib Ic) (KP Z) DA (X6 Z (jD Z aq (aq _ _ _ a xx)) (ki (Qi Ib (by decide:(3:Int) < 4)) Ib)) (X6 Z (jD Z aq (aq _ _ _ a xi)) (ki (Qi Ib (by decide:(2:Int) < 3)) Ib)) Ib Ib) λu4 H4 x4 o4 W4 k4=>f4 _ _ ?_
 refine ak λF5 f5=>df (λN d=>∃(us:List V),N=[some (V.ref p),some (V.str f0),some (V.str g),some (V.ref W),some (vn),some (vi),some (vs),some (vx),some (vy),some (v2),some (V.ref lb),none,none,none,none]/\Ow H d p W lb us/\fc [(g,2)] d ys 0 us/\us.length<=4/\Wd H d p W ys/\ah H4 d) (λE5 _ f6=>qB W4 Z Ib Ib (λH7 W7 u=>?_) (λH7 W7 u=>?_)) λσ1 H6 h2=>?_
 ·clear f5
  have o7:=o4.fw u
  have D:ah H1 H7:=((a.trans k4).trans u.t)
  refine Jd W7 Z o7 (show 3<=100 by decide) (JR (Cf:=[(g,2)]) (zO (n:=1) (zQ za) (jD Z aq (aq _ _ _ D xi)) (ki (kI Z Ib Ib) Ib) Ib Ib) (jD Z aq (aq _ _ _ D xy)) Ib Ib) λu8 H8 x8 o8 W8 k8=>f6 _ _ ?_
  have G:ah H4 H8:=(u.t.trans k8)
  have I:ah H3 H8:=((k4.trans u.t).trans k8)
  exact#[_,Z,o8,(jS ((dA _ _ _ I x3)) (jS ((dA _ _ _ I y3)) (jS ((dA _ _ _ G x4)) (jS (x8) J2)))),(show 4<=4 by decide),W8,G]
 ·clear f5
  have o7:=o4.fw u
  have J:ah H3 H7:=(k4.trans u.t)
  exact f6 _ _ #[_,Z,o7,(jS ((dA _ _ _ J x3)) (jS ((dA _ _ _ J y3)) (jS ((dA _ _ _ u.t x4)) J2))),(show 3<=4 by decide),W7,u.t]
 obtain⟨us,rfl,o6,ux,ul,W6,k6⟩:=h2
 refine f5 _ _ ?_
 clear f5
 refine ak λF9 f9=>jQ W6 (ki (Qi Ib (by decide:(30:Int) < 31)) Ib) λv9 H9 x9 W9 k9=>f9 _ _ ?_
 have o9:=o6.fw k9
 have b:ah H1 H9:=(((a.trans k4).trans k6).trans k9.t)
 refine ak λF0 f7=>yU W9 (JQ (Cf:=[(g,2)]) (ky Z Ib Ic) (jD Z aq x9) Ib) (JR (Cf:=[(g,2)]) (jD Z aq x9) (JP Z (jD Z aq (aq _ _ _ b xs)) (jD Z aq (aq _ _ _ b xy))) Ib Ib) λlm u0 w0 H0 z0 x0 y0 W5 j=>f7 _ _ ?_
 have o1:=o9.fw j
 refine ak λF6 y=>df (λN d=>∃(m:Addr) (zs:List V),N=[some (V.ref p),some (V.str f0),some (V.str g),some (V.ref W),some (vn),some (vi),some (vs),some (vx),some (vy),some (v2),some (V.ref lb),some (v9),some (.ref m),none,none]/\Ow H d p W lb us/\Ow H d p W m zs/\fc [(g,2)] d ys 0 zs/\zs.length<=2/\Wd H d p W ys/\ah H0 d) (λE1 _ L=>qB W5 Z Ib Ib (λH5 O k=>?_) (λH5 O k=>?_)) λσ0 R h0=>?_
 ·clear y
  have S:=o1.fw k
  have z1:=z0.fw k
  have l:ah H1 H5:=((b.trans j.t).trans k.t)
  refine y9 O (Jn (Cf:=[(g,2)]) (ky Z Ib Ic) (JP Z (jD Z aq (aq _ _ _ l xs)) (jD Z aq (aq _ _ _ l xy))) Ib) λlq u1 a0 z2 x1 a1 k1=>L _ _ ?_
  have o':=S.fw k1
  have z:ah H0 a0:=(k.t.trans k1.t)
  exact#[_,_,Z,o',z2,zg x1,(show 1<=2 by decide),a1,z]
 ·clear y
  have S:=o1.fw k
  have z1:=z0.fw k
  exact L _ _ #[_,_,Z,S,z1,(jS ((dA _ _ _ k.t x0)) (jS ((dA _ _ _ k.t y0)) J2)),(show 2<=2 by decide),O,k.t]
 obtain⟨lm,zs,rfl,a2,z3,zx,zl,a3,T⟩:=h0
 refine y _ _ ?_
 clear y
 have o:ah H2 R:=(((((k3.t.trans k4).trans k6).trans k9.t).trans j.t).trans T)
 have M:ah H1 R:=((b.trans j.t).trans T)
 have U:ah H6 R:=((k9.t.trans j.t).trans T)
 refine ak λF7 f'=>yu a3 Z Z a2 z3 Ic (ux.mono U) zx (JR (Cf:=[(g,2)]) (jD Z aq (aq _ _ _ o x2)) (zO (n:=1) (zQ za) (jD Z aq (aq _ _ _ M xi)) (ki (Qi Ib (by decide:(1:Int) < 2)) Ib) Ib Ib) Ib Ib) (Jn (Cf:=[(g,2)]) (ky Z Ib Ic) (zO (n:=1) (zQ Qv) (jD Z aq (aq _ _ _ M xi)) (jD Z aq (aq _ _ _ M xn)) Ib Ib) Ib) λlc cs a4 a5 cx cl a' k5=>f' _ _ ?_
 have cm:cs.length<=8:=by omega
 have X:ah H2 a4:=(o.trans k5.t)
 refine ak λb9 b0=>jQ a' (vU (Jn (Cf:=[(g,2)]) (ky Z Ib Ic) (ki (Qi Ib (by decide:(1:Int) < 2)) Ib) Ib) (JR (Cf:=[(g,2)]) (jD Z aq (aq _ _ _ X x2)) (ki (kI Z Ib Ib) Ib) Ib Ib)) λv1 b' x5 b1 Y=>b0 _ _ ?_
 have o2:=a5.fw Y
 refine ak λc1 b2=>jQ b1 (vp (JO (ky Z Ib Ic)) (uX (n:=8) Z o2 (cx.mono Y.t) cm) Ib Ib) λv3 b3 x7 b4 k0=>b2 _ _ ?_
 have c2:=o2.fw k0
 have m0:ah H1 b3:=(((M.trans k5.t).trans Y.t).trans k0.t)
 refine Qo b4 (X8 (KP Z) (vF (ky Z Ib Ic)) (qu (Ev.up (xM Z Z (vB _ _ _ k0.t x5)) λ_ _=>PB.lift) (X7 (jD Z dA x7) (Ev.up (QM (Cf:=[(g,2)]) (jD Z aq (aq _ _ _ m0 xs)) Ib) λ_ _=>bX.lift)) Ib) Ib Ic) λv d x W'=>?_
 obtain⟨r,rfl,x⟩:=x
 exact q r d x W'.B W'.K
theorem Bt{y:List Str}{lo:Nat}(h:y.length=14)(H:lo<=8):(aZ y (some (lo:Int)) (some ((lo+6:Nat):Int))).length=6:=by
 unfold aZ
 rw [HT.sIx_nat, HT.sIx_nat, DG, EJ, h, Fz (Ds H Ib), Fz (Nat.add_le_add_right H 6), Nat.add_sub_cancel_left]
 exact Fz (Nat.le_sub_of_add_le (Ds (Nat.add_le_add_left H 6) Ib))
theorem CT{k:Nat}(h:k < n):lT n (k:Int)=some k:=by unfold lT;rw[DB Ic,DB Ic,D8]
theorem nE.more(h:nE C n H r f)(k:∀y∈C,y∈D):nE D n H r f:=let #[d,b,a,c]:=h;#[d,b,#[a.1,kc k a.2],c]
theorem Ck(r:nE [(l,N),(m,j),(o,k)] N H a l)(s:nE [(l,N),(m,j),(o,k)] j H b m)(t:nE [(l,N),(m,j),(o,k)] k H c o)(p:N<=100/\j<=100/\k<=100):∃D,b6 H D [.ref a,.ref b,.ref c]/\D.length=3/\((∀d∈D,lD d/\d.b.Cs [(l,N),(m,j),(o,k)])/\D.map Df.f=[l,m,o])/\lh H D [N,j,k]:=by
 obtain⟨d,u,v,O,y,z,E⟩:=r
 obtain⟨e,A,B,Q,C,F,G⟩:=s
 obtain⟨f,I,J,R,g3,L,M⟩:=t
 refine#[[d,e,f],#[_,_,Z,u,_,_,Z,A,_,_,Z,I,Z],Z,#[λx q=>?_,by rw[<- E,<- G,<- M];rfl],Z,λi x n h g=>?_]
 ·simp only[EZ,DO,F']at q
  rcases q with rfl |rfl |rfl
  ·exact v
  ·exact B
  ·exact J
 ·match i,h,g with
  |0,h,g=>cases h;cases g;exact#[_,y,z,p.1]
  |1,h,g=>cases h;cases g;exact#[_,C,F,p.2.1]
  |2,h,g=>cases h;cases g;exact#[_,g3,L,p.2.2]
def lV:Sp:=λv H Q _=>∃(p:Addr),v=[.ref p]/\am H p/\∀(r:Addr) (d:List Df) (x:List V) (h:Hp),h r=some (.tup x)->b6 h d x->d.length=3->∀n,tV d n->lh h d n->(∃r,n=1::r)->am h p->ar p H h->Q (.ref r) h
def Ad(L:List Str)(_:Hp)(v:V):Prop:=∃x,v= .str x/\x∈L
section
variable {ys:List Str}{H0 Hb:Hp}{p wl:Addr}{σ:L2.St}
theorem Az{K:Frag}(e:σ[0]?=some (some (.ref p)))(r:Ev H0 p wl ys Hb σ t (sA a))(s:Ev H0 p wl ys Hb σ T (sA b))(u:Ev H0 p wl ys Hb σ x (sA c)):Ev H0 p wl ys Hb σ (dw (ik K) (i7 (al t (al T (al x aI)))) (rJ 3)) (Ad [a,b,c]):=λH Q m W q=>
 r H _ m W λy z (E:y= .str a) A k=>s z _ (m.trans k) A λC D (F:C= .str b) G f=>u D _ ((m.trans k).trans f) G λI R (J:I= .str c) h j=>#[dP,λl n=>kI e Ib Ib _ _ ((((m.trans k).trans f).trans j).trans (.new n)) (h.same (je n)) λv L #[d,M,S,U] N o=>by
  obtain⟨g,i,O⟩:∃g,dn [V.str a,.str b,.str c] d=some (.str g)/\g∈[a,b,c]:=by
   rcases(by omega:d=0∨d=1∨d=2) with rfl |rfl |rfl
   ·exact#[a,Z,Ie]
   ·exact#[b,Z,Ie]
   ·exact#[c,Z,Ie]
  rw[<- E,<- F,<- J]at i
  exact#[l,_,d,_,Z,M,aE.of (o.b _ _ (h.B.ne n) jc),i,q _ L #[g,Z,O] N (((k.trans f).trans j).trans ((Fw.new n).trans o))]]
theorem Zx{K:Frag}{lo:Nat}(e:σ[0]?=some (some (.ref p)))(E:σ[1]?=some (some (.ref wl)))(d:Ev H0 p wl ys Hb σ t (sA f))(l:Ev H0 p wl ys Hb σ T (Ad L))(h:ys.length=14)(o:lo<=8)(s:i=(lo:Int))(u:j=((lo+6:Nat):Int)):
  Ev H0 p wl ys Hb σ (dq (c7 n) [] E0 (al (aU 0) (al t (al T (al (Bm (xg K) (aU 1) (i9 (tC (.int i))) (i9 (tC (.int j)))) aI))))) (PD (L.map λy=>(y,2)) n f):=λH Q m W q=>
 #[_,e,d H _ m W λv x (z:v= .str f) A k=>l x _ (m.trans k) A λV M #[g,D,c] b F=>#[_,E,_,Z,_,Z,wl,_,Z,aE.of b.w,λr N=>#[p,r,f,g,aZ ys (some i) (some j),by rw[z,D];rfl,b.B.upd_new N,by rw[jc,zj],by rw[s,u];exact Bt h o,λa G X I C=>
  q _ G #[a,Z,X.more λy J=>by rw[List.mem_singleton.mp J];exact List.mem_map.mpr #[g,c,Z]] ((b.same (je N)).but I C) ((k.trans F).trans ((Fw.new N).trans (.but (b.B.upd_new N) C)))]]]
theorem qC{K:Frag}{k:Nat}(e:σ[j]?=some (some (.ref wl)))(a:i=(k:Int))(h:ys[k]?=some y):Ev H0 p wl ys Hb σ (dw (ik K) (aU j) (tC (.int i))) (sA y):=λH Q m W q=>
 #[_,e,wl,_,_,_,Z,Z,aE.of W.w,(by rw[a];exact jO (by rw[DE,h];rfl)),q _ H Z W .refl]
theorem AD{n1 n2 n3:Nat}(s:n1<=100/\n2<=100/\n3<=100)(u:Ev H0 p wl ys Hb σ T (PD [(e,n1),(h,n2),(i,n3)] n1 e))(y:Ev H0 p wl ys Hb σ z (PD [(e,n1),(h,n2),(i,n3)] n2 h))(A:Ev H0 p wl ys Hb σ B (PD [(e,n1),(h,n2),(i,n3)] n3 i)):Ev H0 p wl ys Hb σ (bE (al T (al z (al B aI)))) (λH v=>∃r D x,v= .ref r/\H r=some (.tup x)/\b6 H D x/\D.length=3/\((∀d∈D,lD d/\d.b.Cs [(e,n1),(h,n2),(i,n3)])/\D.map Df.f=[e,h,i])/\lh H D [n1,n2,n3]):=λH Q m W q=>
 u H _ m W λV C X E k=>y C _ (m.trans k) E λF G I J j=>A G _ ((m.trans k).trans j) J λL H4 M N l=>#[dP,λr n=>q _ _ (by
  have t:=ae.tm (je (o:=HO.tup [V,F,L]) n)
  obtain⟨a,O,R⟩:=ij _ _ _ t (ij _ _ _ (j.trans l).t X)
  obtain⟨b,S,U⟩:=ij _ _ _ t (ij _ _ _ l.t I)
  obtain⟨c,Y,h3⟩:=ij _ _ _ t M
  obtain⟨D,g⟩:=Ck R U h3 s
  exact#[r,D,_,Z,by rw[jc,O,S,Y],g]) (N.same (je n)) (((k.trans j).trans l).trans (.new n))]
end
theorem dY:aj ["_law_box_here","_law_w","_law_body_here","_law_deeper","_law_further","_law_first"] ["_law_box_here"] (aa pP):=bo
theorem sf(F:aJ K "_law_busy" "_law_busy" pP f fd)(T:Cl P w K mg base 1 fT f0 ["_law_box_here","_law_wide"] aM "_law_take")(cO:Cl P w K mg base 2 fO f1 ["_law_box_here","_law_a","_law_b"] lH "_law_op")(cA:Cl P w K mg base 2 fA f7 ["_law_box_here","_law_total"] eE "_law_names")(cL:Cl P w K mg base 3 fL f9 ["_law_box_here","_law_f","_law_inner_here","_law_w"] (c7 1) "_law_looped")(cK:Cl P w K mg base 3 fK f' ["_law_box_here","_law_f","_law_inner_here","_law_w"] (c7 1) "_law_ticking")(cI:Cl P w K mg base 3 fI a0 ["_law_box_here","_law_f","_law_g","_law_w"] (c7 2) "_law_inner"):ai P w K mg base ax 4 f fd ["_law_box_here"] lV:=by
 refine F.ok dY ?_ λc0 A U s H vs Q E i h=>?_
 ·rintro _ _ _ _ ⟨p,rfl,_⟩
  rfl
 refine aP λGq kq=>?_
 obtain⟨p,rfl,B,q⟩:=h
 refine kq ?_
 clear kq
 refine#[_,(jd (jw 1 dY.nd (cA.e i.m (ja (pv 0) (ja jf jb)))) (jd (jX (jv (kE (T.e i.m (ja (pv 0) (ja jf jb)))) (jg (kL (jq jo (pv 1) jf (λ_ _=>Z)) (zR (pv 1) jf kQ))) jm)) (jd (jw 2 dY.nd (jh (ja (jh (ja jk (ja (jq jo (pv 1) jf (λ_ _=>Z)) (ja (jh (ja jk (ja (jq jo (pv 1) jf (λ_ _=>Z)) jb))) jb)))) (ja (jh (ja jk (ja (cO.e i.m (ja (pv 0) (ja (jh (ja jk (ja (jq jo (pv 1) jf (λ_ _=>Z)) jb))) (ja (jh (ja jk (ja (jq jo (pv 1) jf (λ_ _=>Z)) jb))) jb)))) jb))) jb)))) (jd (jw 3 dY.nd (jh (ja (jq jo (pv 1) jf (λ_ _=>Z)) (ja (jh (ja (jq jo (pv 1) jf (λ_ _=>Z)) (ja (jq jo (pv 1) jf (λ_ _=>Z)) jb))) (ja (pv 2) jb))))) (jd (jw 4 dY.nd (jq jo (jC (ja (jq jo (pv 1) jf (λ_ _=>Z)) (ja (jq jo (pv 1) jf (λ_ _=>Z)) (ja (jq jo (pv 1) jf (λ_ _=>Z)) jb)))) (T.e i.m (ja (pv 0) (ja jf jb))) (λ_ _=>Z))) (jd (jw 5 dY.nd (cL.e i.m (ja (pv 0) (ja (jq jo (pv 1) jf (λ_ _=>Z)) (ja (jq jo (pv 1) jf (λ_ _=>Z)) (ja (jL km (pv 1) (jF jf) (jF jf)) jb)))))) (jd (jX (jv (kE (T.e i.m (ja (pv 0) (ja jf jb)))) (jg (jw 5 dY.nd (cK.e i.m (ja (pv 0) (ja (jq jo (pv 1) jf (λ_ _=>Z)) (ja (jq jo (pv 1) jf (λ_ _=>Z)) (ja (jL km (pv 1) (jF jf) (jF jf)) jb))))))) jm)) (jg (jl (jh (ja (pv 5) (ja (cI.e i.m (ja (pv 0) (ja (jq jo (pv 1) jf (λ_ _=>Z)) (ja (pv 4) (ja (jL km (pv 1) (jF jf) (jF jf)) jb))))) (ja (pv 3) jb))))))))))))),?_]
 refine ak λFa o=>#[_,Z,p,14,Z,B,Ib,Ib,λj ys Ha X u c d Ba ka=>o _ _ ?_]
 clear o
 have wp:j≠p:=zf Ba u
 refine ak λFa o=>df (λn g=>∃Y:List Str,n=[some (V.ref p),some (V.ref j),none,none,none,none]/\g j=some (.lst (Y.map V.str))/\(Y.length=14/\(Y.take 3).Nodup/\∀y∈Y.take 3,y.length<=20)/\am g p/\ar p H g) (λE0 _ fm=>qB (W:=#[Ba,ka,u]) Z Ib Ib (λHb l kb=>?_) (λHb l kb=>fm _ _ #[_,Z,l.w,#[Ic,d.2.sublist (EW _ _),λy hy=>d.1 y (Ea hy)],l.B,l.K])) λσ1 H0 h3=>?_
 ·clear o
  obtain⟨v1,h6,z⟩:=qZ (ys:=ys) (k:=1) Ib Ic
  refine#[_,Z,j,_,_,_,Z,Z,aE.of l.w,z,_,Z,j,_,8,8,Z,Z,l.w,CT (k:=8) (by rw[Di];omega),fm _ _ #[ys.set 8 v1,Z,?_,#[by rw[Gz];omega,by rw[List.take_set_of_le Ib];exact#[d.2.sublist (EW _ _),λy hy=>d.1 y (Ea hy)]],l.B.eq (ji (DQ wp)),l.K.upd_own X]]
  rw[jc,List.map_set]
 obtain⟨ys,rfl,h4,⟨c,C,D⟩,B1,k1⟩:=h3
 obtain⟨y0,h0⟩:∃y,ys[0]?=some y:=#[_,Dh (by omega:0 < ys.length)]
 obtain⟨G,I⟩:∃y,ys[1]?=some y:=#[_,Dh (by omega:1 < ys.length)]
 obtain⟨y2,N⟩:∃y,ys[2]?=some y:=#[_,Dh (by omega:2 < ys.length)]
 have e3:ys.take 3=[y0,G,y2]:=by rw[Fm,Fm,Fm,h0,I,N];rfl
 rw[e3]at C D
 refine o _ _ ?_
 clear o
 have W1:Wd H H0 p j ys:=#[B1,k1,h4]
 generalize H0=H1 at W1
 refine ak λF2 f2=>jQ W1 (X7 (JQ (Cf:=[]) (ky Z Ib Ic) (JO (ky Z Ib Ic)) Ib) (QM (Cf:=[]) (JP Z (JO (ky Z Ib Ic)) (JO (ky Z Ib Ic))) Ib)) λv2 H2 x2 W2 k2=>f2 _ _ ?_
 refine ak λF3 f3=>jQ W2 (X8 (Cf:=[]) (qC (k:=2) Z Z N) (uZ (ky Z Ib Ic) (ky Z Ib Ic)) (Ev.up (jD Z dm x2) λ_ _=>PB.lift) Ib Ic) λv3 H3 x3 W3 k3=>f3 _ _ ?_
 refine ak λF4 f4=>jQ W3 (Az Z (qC (k:=1) Z Z I) (qC (k:=2) Z Z N) (qC (k:=2) Z Z N)) λv4 H4 x4 W4 k4=>f4 _ _ ?_
 refine ak λF5 f5=>jQ W4 (Zx (lo:=6) Z Z (qC (k:=0) Z Z h0) (Ev.up (R:=Ad [G]) (qC (k:=1) Z Z I) λ_ _ e=>#[_,e,DA]) c Ib Z Z) λv5 H5 x5 W5 k5=>f5 _ _ ?_
 refine ak λF6 O=>df (λn g=>∃(b:V),n=[some (V.ref p),some (V.ref j),some (v2),some (v3),some (v4),some b]/\PD [(G,2)] 1 y0 g b/\Wd H g p j ys/\ah H5 g) (λE6 _ J=>qB W5 Z Ib Ib (λH8 W8 S=>?_) (λH8 W8 S=>?_)) λσ2 H7 h5=>?_
 ·clear O
  refine jQ W8 (Zx (lo:=6) Z Z (qC (k:=0) Z Z h0) (Ev.up (R:=Ad [G]) (qC (k:=1) Z Z I) λ_ _ e=>#[_,e,DA]) c Ib Z Z) λv9 H9 x9 W9 k9=>J _ _ ?_
  have M:ah H5 H9:=(S.t.trans k9.t)
  exact#[_,Z,x9,W9,M]
 ·clear O
  exact J _ _ #[_,Z,(ij _ _ _ S.t x5),W8,S.t]
 obtain⟨b7,rfl,x7,W7,k7⟩:=h5
 refine O _ _ ?_
 clear O
 have L:ah H3 H7:=((k4.t.trans k5.t).trans k7)
 refine Qo W7 (AD (n1:=1) (n2:=2) (n3:=2) #[Ib,Ib,Ib] (Ev.up (jD Z ij x7) (λ_ _ #[a,e,h]=>#[a,e,h.more Ie])) (Ev.up (Zx (lo:=7) Z Z (qC (k:=1) Z Z I) (jD (P:=Ad [G,y2,y2]) Z (λ_ _ _ _ h=>h) x4) c Ib Z Z) (λ_ _ #[a,e,h]=>#[a,e,h.more Ie])) (Ev.up (jD Z ij (ij _ _ _ L x3)) (λ_ _ #[a,e,h]=>#[a,e,h.more Ie]))) λv g x W'=>?_
 obtain⟨r,ds,xs,rfl,g0,g1,g2,g3,g4⟩:=x
 exact q r ds xs g g0 g1 g2 [1,2,2] #[by rw[g3.2];exact g3.1,by rw[g3.2];exact#[C,D]] g4 #[_,Z] W'.B W'.K
noncomputable abbrev mq:Stmt:=bn 66
theorem wg(h:0<=d)(H:d < 4):∃m:Int,dn [V.int 3,.int 3,.int 3,.int 8] d=some (.int m)/\3<=m/\m<=8:=by
 rcases(by omega:d=0∨d=1∨d=2∨d=3) with rfl |rfl |rfl |rfl
 ·exact#[3,Z,Ib,Ib]
 ·exact#[3,Z,Ib,Ib]
 ·exact#[3,Z,Ib,Ib]
 ·exact#[8,Z,Ib,Ib]
theorem xu(h:b6 H D v)(f:0<=k)(g:k < (v.length:Int)):∃d,dn v k=some (.ref d.p)/\d∈D/\vH H d (.ref d.p):=by
 have a:k.toNat < v.length:=by omega
 have E:k=((k.toNat:Nat):Int):=by omega
 obtain⟨d,c,b⟩:=h.at k.toNat _ (Dh a)
 have e:v[k.toNat]= .ref d.p:=b.elim λ_ z=>z.1
 refine#[d,?_,Dx c,by rw[<- e];exact b]
 rw[E]
 exact jO (by rw[<- e];exact Dh a)
def A1(H:Hp)(D:List Df)(v a:V):Prop:=∃(d:Df) (p:List Str) (t:Addr) (I:List Int),d∈D/\v= .str d.f/\H d.pa=some (.tup (p.map V.str))/\a= .ref t/\H t=some (.tup (I.map V.int))/\I.length=p.length/\I.length<=100/\∀i∈I,0<=i/\i < 1000000000000000000
def lK:Sp:=λb H Q _=>∃(p:Addr),b=[.ref p]/\am H p/\∀(t r:Addr) (v a:V) (d:List Df) (x:List V) (h:Hp),h t=some (.tup [.ref r,v,a])->h r=some (.tup x)->b6 h d x->1<=d.length->d.length<=8->∀n,tV d n->lh h d n->A1 h d v a->am h p->ar p H h->Q (.ref t) h
theorem dZ:aj ["_law_box_here","_law_program","_law_total","_law_f","_law_params","_law_body_here"] ["_law_box_here"] (aa mq):=bo
noncomputable def Xj:Scope:=#[.function,[(".0",.local),("_law_one",.local),("_law_number",.globalImplicit),("_law_box_here",.free)],false,false,[]]
theorem oR:(["_law_one","_law_box_here"]:List Str).Nodup:=by decide+kernel
theorem oi:aX ["_law_box_here","_law_program","_law_total","_law_f","_law_params","_law_body_here"] (aa mq) Xj ["_law_one","_law_box_here"] 1 [0]:=nh
theorem rZ(F:aJ K "_law_case" "_law_case" mq f fd)(M:Cl P w K mg base 1 fT f0 ["_law_box_here","_law_wide"] aM "_law_take")(cN:Cl P w K mg base 2 fN f3 ["_law_box_here"] eP "_law_number")(cY:Cl P w K mg base 4 fY f4 ["_law_box_here"] lV "_law_busy")(cZ:Cl P w K mg base 22 fZ f5 ["_law_box_here","_law_total","_law_room"] nO "_law_any")(ml:mg "len"=none)(m0:mg "tuple"=none):ai P w K mg base ax 23 f fd ["_law_box_here"] lK:=by
 refine F.ok dZ ?_ λc0 A o1 s H vs Q E y h=>?_
 ·rintro _ _ _ _ ⟨p,rfl,_⟩
  rfl
 refine aP λGq kq=>?_
 obtain⟨p,rfl,B,q⟩:=h
 refine kq ?_
 clear kq
 refine#[_,(jd (jv (jz qA (M.e y.m (ja (pv 0) (ja jf jb))) jf (aF _)) (jd (jw 1 dZ.nd (cY.e y.m (ja (pv 0) jb))) (jg (jl (jh (ja (pv 1) (ja (jy (jq jW (pv 1) jf (λ_ _=>Z))) (ja (jh (ja (M.e y.m (ja (pv 0) (ja jf jb))) jb)) jb))))))) jm) (jd (jw 2 dZ.nd (jq jo (jC (ja jf (ja jf (ja jf (ja jf jb))))) (M.e y.m (ja (pv 0) (ja jf jb))) (λ_ _=>Z))) (jd (jw 1 dZ.nd (cZ.e y.m (ja (pv 0) (ja (jr jV jf (M.e y.m (ja (pv 0) (ja (pv 2) jb)))) (ja jf jb))))) (jd (kL (jq jW (pv 1) (M.e y.m (ja (pv 0) (ja (jJ jK Z ml Eu (ja (pv 1) jb)) jb))) (λ_ _=>Z)) (zc (n:=3) Z (jx (ju (i:=3) dZ.nd Z (Or.inl Z)) (jx (ju (i:=4) dZ.nd Z (Or.inl Z)) (jx (ju (i:=5) dZ.nd Z (Or.inl Z)) j8))))) (jg (jl (jh (ja (pv 1) (ja (pv 3) (ja (jB jA Z m0 EB (ja (@kO _ _ _ _ _ _ _ (["_law_one","_law_box_here"]) (1) ([0]) _ _ _ _ Z (zS (pv 4)) oi (λ_ _ _ _ _=>(ju (i:=0) oR Z (Or.inl Z))) (λ_ _ _ _ _=>(@kW _)) (λ_ _ _ _ _=>(cN.e y.m (ja (pv 1) jb))) (by intro _;rfl)) jb)) jb)))))))))),?_]
 have b0:=aB
 refine ak λF1 a=>my λG1 g1=>#[_,Z,p,3,Z,B,Ib,Ib,λd1 H1 d' a0 B1 e1=>#[_,_,Z,Z,_,Z,g1 _ _ ?_]]
 clear g1
 have k1:ar p H H1:=ar.of_eq e1
 refine bp (λc=>?_) (λc=>a _ _ ?_)
 ·clear a
  refine ak λF2 f2=>#[_,Z,p,Z,B1,λr ds xs H2 N C hl ns D b O B2 k2=>f2 _ _ ?_]
  clear f2
  have ln:=C.len
  obtain⟨nr,rfl⟩:=O
  cases ds with
  |nil=>cases hl
  |cons d r0=>
  obtain⟨p0,R,S,_⟩:=b.2 0 d 1 Z Z
  have h0:=C
  obtain⟨u0,rr,rfl,⟨bs,rfl,hp,_⟩,_⟩:=h0
  have g:dn (V.ref d.p::rr) 0=some (.ref d.p):=gZ
  refine#[_,Z,js N g #[d.p,_,_,_,Z,Z,aA.of hp,gZ,_,Z,p,6,Z,B2,Ib,Ib,λd3 H3 d0 d4 B3 e3=>?_]]
  have c3:ar p H2 H3:=ar.of_eq e3
  refine#[iR,λu nu=>#[dP,λt U=>?_]]
  have s4:ae H3 (af (af H3 u (.tup [.int d3])) t (.tup [.ref r,.str d.f,.ref u])):=(je nu).trans (je U)
  have T:=(c3.tm B2).trans (ae.tm s4)
  exact q t r _ _ _ _ _ jc (T _ _ N) (C.mono T) Ic Ic _ D (b.mono T) #[d,p0,u,[d3],DA,Z,T _ _ R,Z,ao jc U,by rw[S];rfl,(by show 1<=100;decide),λi hi=>by rw[List.mem_singleton.mp hi];omega] (B3.same s4) ((k1.trans k2).trans (c3.trans (ar.of_same s4)))
 clear a
 refine ak λF1 a=>#[nk,λl W=>#[_,Z,p,4,Z,B1.upd_new W,Ib,Ib,λd2 H2 d6 d7 B2 e2=>?_]]
 have k2:ar p H1 H2:=((ar.refl).upd_new W).trans (ar.of_eq e2)
 obtain⟨m,g,m3,m8⟩:=wg d6 d7
 refine#[l,_,_,_,Z,Z,aE.of (by rw[e2 l (B1.ne W)];exact jc),g,a _ _ ?_]
 clear a
 refine ak λF1 a=>#[_,Z,_,Z,_,Z,p,m,Z,B2,Ic,Ic,λd3 H3 d0 d4 B3 e3=>#[_,_,Z,Z,p,1+d3,12,Z,B3,Ic,Ic,Ib,Ib,λr ds xs H4 G C hl ns D b B4 k4=>a _ _ ?_]]
 clear a
 have ln:=C.len
 have K4:ar p H H4:=(k1.trans k2).trans ((ar.of_eq e3).trans k4)
 refine ak λF1 a=>#[_,Z,_,Z,_,Z,r,_,Z,.inr (aA.of G),p,_,Z,B4,Ic,Ic,λd5 H5 d8 d9 B5 e5=>?_]
 have c5:ar p H4 H5:=ar.of_eq e5
 have o:=c5.tm B4
 obtain⟨d,g,hd,bs,e,hp,_⟩:=xu (C.mono o) d8 d9
 refine#[r,_,_,_,Z,Z,aA.of (o _ _ G),g,d.p,_,Z,aA.of hp,Z,_,_,Z,_,_,Z,_,_,Z,Z,a _ _ ?_]
 clear a
 obtain⟨pv,X,h4⟩:=b.v d hd
 have z:=o _ _ X
 refine#[_,Z,_,Z,_,Z,d.pa,Z,#[_,aA.of z],?_]
 refine qj (K:=K) (xs:=pv.map V.str) (by rw[Di];omega) (λi L J=>(∃I:List Int,L=I.map V.int/\I.length=i/\∀j∈I,0<=j/\j < 1000000000000000000)/\am J p/\ar p H5 J) #[#[[],Z,Z,(λ_ h=>nomatch h)],B5,ar.refl] (λi L J k=>?_) (λi x L J hx k=>?_) (λL J k l W=>?_)
 ·exact#[aA.of (k.2.2.tm B5 _ _ z),let #[I,e,l,_]:=k.1;by rw[e,Di,l];exact Dk _]
 ·exact#[_,Z,p,Z,k.2.1,λe H7 e0 e1 B7 e7=>#[let #[I,h1,l,h2]:=k.1;#[I++[e],by rw[h1,DJ];rfl,by rw[Dj,l];rfl,qO h2 #[e0,e1]],B7,k.2.2.trans (ar.of_eq e7)]]
 ·refine#[l,_,Z,.inl #[aE.of jc,λl2 n0=>#[dP,λt U=>?_]]]
  have s7:ae J (af (af (af J l (.lst L)) l2 (.tup L)) t (.tup [.ref r,.str d.f,.ref l2])):=((je W).trans (je n0)).trans (je U)
  have T:=o.trans ((k.2.2.tm B5).trans (ae.tm s7))
  obtain⟨I,hz,Y,h3⟩:=k.1
  rw[Di]at Y
  exact q t r _ _ ds xs _ jc (T _ _ G) (C.mono T) Ic Ic ns D (b.mono T) #[d,pv,l2,I,hd,Z,T _ _ X,Z,by rw[<- hz];exact ao jc U,Y,Ic,h3] (k.2.1.same s7) (K4.trans (c5.trans (k.2.2.trans (ar.of_same s7))))
noncomputable abbrev ip:Stmt:=bn 13
noncomputable abbrev iF:Stmt:=bn 14
abbrev b8:=List (aY×V)
def ff(x:Int):Prop:=0<=x/\x < 1000000000000000000
def GT(k:b8):Prop:=∀p∈k,∃i,p.2= .int i/\ff i
theorem GT.nil:GT []:=λ_ h=>absurd h DO
theorem GT.put(h:GT a)(k:aY)(H:ff i):GT (aV a k (.int i)):=by
 intro p hp
 unfold aV at hp
 split at hp
 ·obtain⟨q,b,rfl⟩:=List.mem_map.mp hp
  by_cases e:q.1=k
  ·rw[DB e];exact#[i,Z,H]
  ·rw[DC e];exact h q b
 ·rcases List.mem_append.mp hp with hp |hp
  ·exact h p hp
  ·rw[List.mem_singleton.mp hp];exact#[i,Z,H]
theorem GT.val(h:GT a)(e:bQ a k=some v):∃i,v= .int i/\ff i:=by
 unfold bQ at e
 obtain⟨p,H,rfl⟩:=Option.map_eq_some_iff.mp e
 exact h p (List.mem_of_find?_eq_some H)
noncomputable def look(a:b8)(k:aY)(z:Int):Int:=match bQ a k with
 |some (.int i)=>i
 |_=>z
theorem J8(h:GT a)(k:aY)(z:Int):(bQ a k).getD (.int z)= .int (look a k z):=by
 unfold look
 cases e:bQ a k with
 |none=>rfl
 |some v=>obtain⟨i,rfl,_⟩:=h.val e;rfl
theorem Zc(h:GT a)(e:bQ a k=some v)(z:Int):v= .int (look a k z):=by
 unfold look
 obtain⟨i,rfl,_⟩:=h.val e
 rw[e]
theorem Zd(e:bQ a k=none)(z:Int):look a k z=z:=by
 unfold look
 rw[e]
theorem JJ(h:GT a)(H:ff z):ff (look a k z):=by
 unfold look
 cases e:bQ a k with
 |none=>exact H
 |some v=>obtain⟨i,rfl,b⟩:=h.val e;exact b
theorem JK:ff 0:=#[Ib,Ib]
noncomputable def jn(i:Nat)(x y:Int):Int:=match i with
 |0=>(x+y) % 1000000000000000000
 |1=>(x - y) % 1000000000000000000
 |2=>x*y % 1000000000000000000
 |3=>if y=0 then 0 else x / y
 |4=>if x < y then 1 else 0
 |_=>if x=y then 1 else 0
noncomputable def Tm.ev(k:b8):Tm->Int
 | .num n=>n
 | .var x=>look k (.inr x) 0
 | .op i a b=>jn i (a.ev k) (b.ev k)
theorem As(H:ff x)(c:ff y):ff (jn i x y):=by
 have a:(1000000000000000000:Int)≠0:=by decide
 have b:(0:Int) < 1000000000000000000:=by decide
 match i with
 |0=>exact#[Eb _ a,D1 _ b]
 |1=>exact#[Eb _ a,D1 _ b]
 |2=>exact#[Eb _ a,D1 _ b]
 |3=>
  show ff (if y=0 then 0 else x / y)
  by_cases h:y=0
  ·rw[DB h];exact#[Ib,Ib]
  ·rw[DC h]
   have e:=c.1
   have d:0 < y:=by omega
   refine#[Int.ediv_nonneg H.1 Ic,Int.lt_of_le_of_lt ?_ H.2]
   exact Int.ediv_le_self _ H.1
 |4=>
  show ff (if x < y then 1 else 0)
  split<;>exact#[Ib,Ib]
 |n+5=>
  show ff (if x=y then 1 else 0)
  split<;>exact#[Ib,Ib]
theorem Jo(g:GT k):∀{t:Tm},t.Good y->ff (t.ev k)
 | .num _,h=>h
 | .var x,_=>JJ g JK
 | .op _ _ _,h=>As (Jo g h.2.1) (Jo g h.2.2)
def iO:Sp:=λv H Q _=>∃(i:Nat) (x y:Int),v=[.str (Bw i),.int x,.int y]/\i < 6/\ff x/\ff y/\Q (.int (jn i x y)) H
def CM(K:Frag)(H:Hp)(T:Tm)(a:Addr):Prop:=a6 H T a∨(T= .num 0/\aA K H a [.str "num",.int 0])
def ci(K:Frag)(n:Nat):Sp:=λv H Q _=>∃(a d:Addr) (T:Tm) (y:List Str) (k:b8),v=[.ref a,.ref d]/\CM K H T a/\T.depth < n/\T.Good y/\H d=some (.dK k)/\GT k/\Q (.int (T.ev k)) H
theorem pI:aj ["sign","left","right"] ["sign","left","right"] (aa ip):=bo
theorem Ze(F:aJ K "joined" "joined" ip f b)(m:mg "TOP"=some (.int 1000000000000000000 t)):ai P w K mg base ax 1 f b ["sign","left","right"] iO:=by
 refine F.ok pI (λd H Q E h=>?_) (λe A o s H d Q E r h=>?_)
 ·obtain⟨i,x,y,rfl,_⟩:=h
  rfl
 obtain⟨i,x,y,rfl,u,g,j,q⟩:=h
 refine#[_,(jd (jv (j5 (pv 0)) (jg (jl (jr kM (jr jV (pv 1) (pv 2)) (qD (v:=.int 1000000000000000000) Z m #[_,Z])))) jm) (jd (jv (j5 (pv 0)) (jg (jl (jr kM (jr kB (pv 1) (pv 2)) (qD (v:=.int 1000000000000000000) Z m #[_,Z])))) jm) (jd (jv (j5 (pv 0)) (jg (jl (jr kM (jr zd (pv 1) (pv 2)) (qD (v:=.int 1000000000000000000) Z m #[_,Z])))) jm) (jd (jv (j5 (pv 0)) (jg (jl (kP (kE (pv 2)) jf (jr J4 (pv 1) (pv 2))))) jm) (jd (jv (j5 (pv 0)) (jg (jl (kP (jz Jm (pv 1) (pv 2) (aF _)) jf jf))) jm) (jg (jl (kP (jz Jl (pv 1) (pv 2) (aF _)) jf jf)))))))),?_]
 obtain⟨k,l⟩:=g
 obtain⟨n,p⟩:=j
 rcases(by omega:i=0∨i=1∨i=2∨i=3∨i=4∨i=5) with rfl |rfl |rfl |rfl |rfl |rfl
 ·refine#[_,Z,Z,_,Z,bV Ig ?_]
  exact#[_,Z,_,Z,_,_,Z,Z,_,_,Z,Z,(by show(0:Int) < 1000000000000000000;decide),q]
 ·refine#[_,Z,Z,_,Z,aO Ig ?_]
  refine#[_,Z,Z,_,Z,bV Ig ?_]
  exact#[_,Z,_,Z,_,_,Z,Z,_,_,Z,Z,(by show(0:Int) < 1000000000000000000;decide),q]
 ·refine#[_,Z,Z,_,Z,aO Ig ?_]
  refine#[_,Z,Z,_,Z,aO Ig ?_]
  refine#[_,Z,Z,_,Z,bV Ig ?_]
  exact#[_,Z,_,Z,_,_,Z,Z,.inl #[Ic,Ic],_,_,Z,Z,(by show(0:Int) < 1000000000000000000;decide),q]
 ·refine#[_,Z,Z,_,Z,aO Ig ?_]
  refine#[_,Z,Z,_,Z,aO Ig ?_]
  refine#[_,Z,Z,_,Z,aO Ig ?_]
  refine#[_,Z,Z,_,Z,bV Ig ?_]
  have a:Q (.int (if y=0 then 0 else x / y)) H:=q
  refine#[_,Z,Z,_,Z,?_]
  refine bp (λc=>?_) (λc=>?_)
  ·have C:V.int y=V.int 0:=Em c
   injection C with C
   rw[DB C]at a
   exact a
  ·have C:y≠0:=λz=>c (by rw[z];rfl)
   rw[DC C]at a
   exact#[_,Z,_,Z,_,_,Z,Z,#[Ic,Ic],a]
 ·refine#[_,Z,Z,_,Z,aO Ig ?_]
  refine#[_,Z,Z,_,Z,aO Ig ?_]
  refine#[_,Z,Z,_,Z,aO Ig ?_]
  refine#[_,Z,Z,_,Z,aO Ig ?_]
  refine#[_,Z,Z,_,Z,bV Ig ?_]
  have a:Q (.int (if x < y then 1 else 0)) H:=q
  refine#[_,Z,_,Z,_,_,Z,Z,_,Z,?_]
  refine bp (λc=>?_) (λc=>?_)
  ·rw[DB (Em c)]at a
   exact a
  ·rw[DC (Ga (Bool.eq_false_iff.mpr c))]at a
   exact a
 ·refine#[_,Z,Z,_,Z,aO Ig ?_]
  refine#[_,Z,Z,_,Z,aO Ig ?_]
  refine#[_,Z,Z,_,Z,aO Ig ?_]
  refine#[_,Z,Z,_,Z,aO Ig ?_]
  refine#[_,Z,Z,_,Z,aO Ig ?_]
  have a:Q (.int (if x=y then 1 else 0)) H:=q
  refine#[_,Z,_,Z,Z,_,Z,?_]
  refine bp (λc=>?_) (λc=>?_)
  ·have C:V.int x=V.int y:=Em c
   injection C with C
   rw[DB C]at a
   exact a
  ·have C:x≠y:=λz=>c (by rw[z];exact DP Z)
   rw[DC C]at a
   exact a
theorem sQ:aj ["term","held"] ["term","held"] (aa iF):=bo
theorem pC(F:aJ K "worth" "worth" iF f p)(C:Cl P w K mg base (n+1) f p ["term","held"] (ci K n) "worth")(v:Cl P w K mg base 1 R B ["sign","left","right"] iO "joined"):ai P w K mg base ax (n+2) f p ["term","held"] (ci K (n+1)):=by
 refine F.ok sQ (λV H Q E h=>?_) (λD A o s H V Q E j h=>?_)
 ·obtain⟨a,d,T,y,c,rfl,_⟩:=h
  rfl
 obtain⟨a,d,T,y,c,rfl,t,I,g,l,G,q⟩:=h
 refine#[_,(jd (jv (j5 (jy (pv 0))) (jg (jl (jy (pv 0)))) jm) (jd (jv (j5 (jy (pv 0))) (jg (jl (@J5 _ _ _ _ _ _ _ _ _ (kG j) (pv 1) (jy (pv 0)) jf #[Ih,Ih,Ih,Ih]))) jm) (jg (jl (v.e j.m (ja (jy (pv 0)) (ja (C.e j (ja (jy (pv 0)) (ja (pv 1) jb))) (ja (C.e j (ja (jy (pv 0)) (ja (pv 1) jb))) jb)))))))),?_]
 cases T with
 |num m=>
  have b:aA K H a [.str "num",.int m]:=t.elim (λh=>aA.of h) λz=>by cases z.1;exact z.2
  refine#[_,Z,a,_,_,_,Z,Z,b,Z,Z,_,Z,bV Ig ?_]
  exact#[_,Z,a,_,_,_,Z,Z,b,Z,q]
 |var x=>
  have b:H a=some (.tup [.str "var",.str x]):=t.resolve_right λz=>by cases z.1
  refine(js b Z #[Z,_,Z,aO Ig ?_])
  refine(js b Z #[Z,_,Z,bV Ig ?_])
  refine#[_,Z,d,Z,.inl #[c,.inl l],js b Z #[_,en.k (k:=Sum.inr x) l,?_]]
  rw[J8 G]
  exact q
 |op i r u=>
  obtain⟨J,L,b,M,N⟩:=t.resolve_right λz=>by cases z.1
  have O:max r.depth u.depth+1 < n+1:=I
  refine(js b Z #[Z,_,Z,aO Ig ?_])
  refine(js b Z #[Z,_,Z,aO Ig ?_])
  refine(js b Z ?_)
  refine(js b Z #[_,Z,J,d,r,y,c,Z,.inl M,Ic,g.2.1,l,G,?_])
  refine(js b Z #[_,Z,L,d,u,y,c,Z,.inl N,Ic,g.2.2,l,G,?_])
  exact#[i,_,_,Z,g.1,Jo G g.2.1,Jo G g.2.2,q]
theorem pJ:ai P w K mg base ax 1 f e ["term","held"] (ci K 0):=by
 have n:∀v H Q E,¬ci K 0 v H Q E:=λv H Q E h=>by
  obtain⟨a,d,T,y,k,_,_,c,_⟩:=h
  exact absurd c (F8 _)
 exact#[λv H Q E h=>absurd h (n v H Q E),λA o s H b u v Q E _ _ _ _ h=>absurd h (n v H Q E)]
theorem ph(F:aJ K "worth" "worth" iF f a)(b:aw K a ["term","held"] [])(m:mg "worth"=some (.ref f))(c:Cl P w K mg base 1 e d ["sign","left","right"] iO "joined"):
  ∀n:Nat,ai P w K mg base ax (n+1) f a ["term","held"] (ci K n)
 |0=>pJ
 |n+1=>pC F #[(ph F b m c n),b,F.kp,m] c
def TV(H:Hp)(y:List Str)(t:Addr)(T:Tm):Prop:=a6 H T t/\cw y T
theorem TV.mono(k:ah H a)(h:TV H y t T):TV a y t T:=#[h.1.mono k,h.2]
inductive Gl where
 |give (t:Addr) (T:Tm) |nought |go (n:Nat)
structure WD where
 sets:List (Str×Addr×Tm)
 goal:Gl
noncomputable def Gl.gol(N:Addr):Gl->Bh
 | .give t _=>.give t
 | .nought=>.give N
 | .go n=>.go (n:Int)
noncomputable def WD.wy(n:Addr)(w:WD):Wy:=#[w.sets.map λs=>(s.1,s.2.1),w.goal.gol n]
def Aw(H:Hp)(y:List Str)(m:Nat):Gl->Prop
 | .give t T=>TV H y t T
 | .nought=>True
 | .go n=>n < m
structure xT(H:Hp)(ys:List Str)(m N:Nat)(w:WD):Prop where
 sets:∀s∈w.sets,TV H ys s.2.1 s.2.2
 len:w.sets.length<=N
 goal:Aw H ys m w.goal
def i8(H:Hp)(y:List Str)(n:Addr)(m N:Nat)(w:Wy):Prop:=∃d:WD,d.wy n=w/\xT H y m N d
def CB(F:gj)(H:Hp)(y:List Str):Dd->Prop
 | .st p=>∃(l:Lf) (v:List V),H p=some (.tup v)/\um H l v/\l.Ok y/\l.isCut=true/\l.Cs F
 | .ask t=>∃T,TV H y t T
noncomputable def Dd.ways:Dd->Nat
 | .st _=>1
 | .ask _=>2
structure uB(F:gj)(H:Hp)(ys:List Str)(nA:Addr)(m N:Nat)(c:Ct):Prop where
 mem:∀x,c.M x->x∈ys
 deed:CB F H ys c.d
 ways:∀w∈c.ws,i8 H ys nA m N w
 len:c.ws.length=c.d.ways
structure rL(H:Hp)(ys:List Str)(nA:Addr)(m N:Nat)(pc:Pc):Prop where
 mem:∀x,pc.M x->x∈ys
 way:i8 H ys nA m N pc.w
section
variable {F:gj}{H H':Hp}{ys:List Str}{nA:Addr}{m N N':Nat}
theorem Aw.mono(k:ah H H')(h:Aw H ys m g):Aw H' ys m g:=by
 cases g with
 |give t T=>exact TV.mono k h
 |nought=>trivial
 |go n=>exact h
theorem xT.mono(k:ah H H'){w:WD}(h:xT H ys m N w):xT H' ys m N w:=#[λs a=>(h.sets s a).mono k,h.len,h.goal.mono k]
theorem i8.up(a:N<=N'){w:Wy}(h:i8 H ys nA m N w):i8 H ys nA m N' w:=let #[d,e,v]:=h;#[d,e,v.sets,Ds v.len a,v.goal]
theorem uB.up(a:N<=N')(h:uB F H ys nA m N c):uB F H ys nA m N' c:=#[h.mem,h.deed,λw b=>(h.ways w b).up a,h.len]
theorem rL.up(a:N<=N')(h:rL H ys nA m N p):rL H ys nA m N' p:=#[h.mem,h.way.up a]
theorem Xo{n:Nat}(a:k=(n:Int))(b:n < m):i8 H ys nA m N #[[],.go k]:=#[#[[],.go n],by rw[a];rfl,(λ_ h=>absurd h DO),Dt _,b]
theorem JT:∀(b:Bd) {X:List V} {g:Pc} {fs:List Ct} {N:Nat},c8 H b X->b.Ok ys->b.Cs F->rL H ys nA m N g->(∀c∈fs,uB F H ys nA m N c)->fs.length+b.cuts<=m->
  rL H ys nA m (N+b.size) (pB (m:Int) b g fs).1/\∀c∈(pB (m:Int) b g fs).2,uB F H ys nA m (N+b.size) c
 | .nil,_,_,_,_,_,_,_,o,y,_=>#[o,y]
 | .lf p l r,X,g,fs,N,C,i,k,o,y,D=>by
  obtain⟨vs,zs,_,h1,I,h3⟩:=C
  have E:fs.length+(l.cut+r.cuts)<=m:=D
  obtain⟨R,A⟩:=JT r h3 i.2 k.2 o y Ic
  have hl:=j6 (m:Int) r g fs
  have S:N+r.size<=N+(r.size+1):=by omega
  have j:=Lf.use_in i.1 R.mem
  have J:l.isCut=true->l.cut=1->rL H ys nA m (N+(r.size+1)) #[l.use (pB (m:Int) r g fs).1.M,#[[],.go ((m:Int) - ((pB (m:Int) r g fs).2.length:Int) - 1)]]/\∀c∈(pB (m:Int) r g fs).2++[#[l.use (pB (m:Int) r g fs).1.M,.st p,[(pB (m:Int) r g fs).1.w]]],uB F H ys nA m (N+(r.size+1)) c:=λG h0=>
   #[#[j,Xo (n:=m - (fs.length+r.cuts) - 1) (by rw[hl];omega) Ic],λc L=>by
    rcases List.mem_append.mp L with z |z
    ·exact(A c z).up S
    ·rw[List.mem_singleton.mp z]
     exact#[j,#[l,vs,h1,I,i.1,G,k.1],λw hw=>by rw[List.mem_singleton.mp hw];exact R.way.up S,Z]]
  show rL H ys nA m (N+(r.size+1)) (pL (m:Int) p l (pB (m:Int) r g fs)).1/\∀c∈(pL (m:Int) p l (pB (m:Int) r g fs)).2,uB F H ys nA m (N+(r.size+1)) c
  cases l with
  |gv t T=>exact#[#[j,#[#[[],.give t T],Z,(λ_ h=>absurd h DO),Dt _,I.2,i.1]],λc G=>(A c G).up S]
  |st x t T=>
   refine#[#[j,?_],λc G=>(A c G).up S]
   show i8 H ys nA m _ (gp x t (pB (m:Int) r g fs).1)
   unfold gp
   split
   ·obtain⟨d,e,v⟩:=R.way
    refine#[#[(x,t,T)::d.sets,d.goal],by rw[<- e];rfl,λs hs=>?_,Ey v.len,v.goal]
    rcases List.mem_cons.mp hs with rfl |hs
    ·exact#[I.2,i.1.2]
    ·exact v.sets s hs
   ·exact R.way.up S
  |rd x t T |wr t u T U |cl x f q ts=>exact J Z Z
 | .ite p t T a c r,X,g,fs,N,C,i,k,o,y,D=>by
  obtain⟨qa,qb,as,bs,zs,_,g1,O,g2,g3,Q,g5,W⟩:=C
  have E:fs.length+(1+a.cuts+c.cuts+r.cuts)<=m:=D
  obtain⟨R,A⟩:=JT r W i.2.2.2 k.2.2 o y Ic
  have B:=j6 (m:Int) r g fs
  obtain⟨c1,c2⟩:=JT c g5 i.2.2.1 k.2.1 R A Ic
  have h4:=j6 (m:Int) c (pB (m:Int) r g fs).1 (pB (m:Int) r g fs).2
  obtain⟨Y,a2⟩:=JT a Q i.2.1 k.1 (R.up (Fs _ _)) c2 Ic
  have S:N+r.size+c.size+a.size<=N+(a.size+c.size+r.size+1):=by omega
  have j:∀x,(Bd.ite p t T a c .nil).use (pB (m:Int) r g fs).1.M x->x∈ys:=Bd.use_in #[i.1,i.2.1,i.2.2.1,DR] R.mem
  have hk:(m:Int) - ((pB (m:Int) r g fs).2.length:Int) - ((Bd.ite p t T a c .nil).cuts:Int)=((m - (fs.length+r.cuts) - (1+a.cuts+c.cuts):Nat):Int):=by
   show(m:Int) - _ - ((1+a.cuts+c.cuts+0:Nat):Int)=_
   rw[B]
   omega
  unfold pB
  dsimp only
  refine#[#[j,Xo hk Ic],λe he=>?_]
  rcases List.mem_append.mp he with z |z
  ·exact(a2 e z).up S
  ·rw[List.mem_singleton.mp z]
   refine#[j,#[T,O,i.1],λw hw=>?_,Z]
   rcases List.mem_cons.mp hw with rfl |hw
   ·exact Y.way.up S
   ·rw[List.mem_singleton.mp hw]
    exact c1.way.up (by show _<=N+(a.size+c.size+r.size+1);omega)
 | .loop p t T a r,X,g,fs,N,C,i,k,o,y,D=>by
  obtain⟨qa,as,zs,_,g1,O,g2,Q,W⟩:=C
  have E:fs.length+(1+a.cuts+r.cuts)<=m:=D
  obtain⟨R,A⟩:=JT r W i.2.2 k.2 o y Ic
  have B:=j6 (m:Int) r g fs
  have j:∀x,(Bd.loop p t T a .nil).use (pB (m:Int) r g fs).1.M x->x∈ys:=Bd.use_in #[i.1,i.2.1,DR] R.mem
  have hk:(m:Int) - ((pB (m:Int) r g fs).2.length:Int) - ((Bd.loop p t T a .nil).cuts:Int)=((m - (fs.length+r.cuts) - (1+a.cuts):Nat):Int):=by
   show(m:Int) - _ - ((1+a.cuts+0:Nat):Int)=_
   rw[B]
   omega
  have pl:rL H ys nA m (N+r.size) #[(Bd.loop p t T a .nil).use (pB (m:Int) r g fs).1.M,#[[],.go ((m:Int) - ((pB (m:Int) r g fs).2.length:Int) - ((Bd.loop p t T a .nil).cuts:Int))]]:=#[j,Xo hk Ic]
  obtain⟨Y,a2⟩:=JT a Q i.2.1 k.1 pl A Ic
  have S:N+r.size+a.size<=N+(a.size+r.size+1):=by omega
  unfold pB
  dsimp only
  refine#[pl.up (by show _<=N+(a.size+r.size+1);omega),λe he=>?_]
  rcases List.mem_append.mp he with z |z
  ·exact(a2 e z).up S
  ·rw[List.mem_singleton.mp z]
   refine#[j,#[T,O,i.1],λw hw=>?_,Z]
   rcases List.mem_cons.mp hw with rfl |hw
   ·exact Y.way.up S
   ·rw[List.mem_singleton.mp hw]
    exact R.way.up (by show _<=N+(a.size+r.size+1);omega)
end
noncomputable def bN(n:Addr)(d:Df):List Ct:=(gF n d).2.reverse
theorem Yt(n:Addr)(d:Df):(bN n d).length=d.b.cuts:=by
 unfold bN
 rw[List.length_reverse]
 exact(j6 _ _ _ _).trans (Nat.zero_add _)
theorem vh{nA:Addr}{d:Df}(f:c8 H d.b B)(g:d.b.Ok y):rL H y nA d.b.cuts d.b.size (gF nA d).1/\∀c∈bN nA d,uB d.b.calls H y nA d.b.cuts d.b.size c:=by
 have p:rL H y nA d.b.cuts 0 (Ce nA):=#[λx i=>absurd i DO,#[[],.nought],Z,(λ_ h=>absurd h DO),Dk _,DR]
 obtain⟨a,e⟩:=JT (m:=d.b.cuts) d.b f g (zk d.b) p (fs:=[]) (λ_ h=>absurd h DO) (by show 0+_<=_;omega)
 rw[Nat.zero_add]at a e
 exact#[a,λc j=>e c (List.mem_reverse.mp j)]
theorem Qh{M:Str->Prop}{y:List Str}(h:∀x,M x->x∈y):(canon M).length<=y.length:=by
 by_cases e:∃s,Nm s M
 ·obtain⟨s,H⟩:=e
  rw[<- H.canon]
  exact H.len h
 ·unfold canon
  rw[dif_neg e]
  exact Dt _
noncomputable def dS:List (Str×Addr×Tm)->b8->b8
 | [],k=>k
 |s::r,k=>dS r (aV k (.inr s.1) (.int (s.2.2.ev k)))
noncomputable def eu(N:Addr)(d:Df)(n:Nat):List Str:=match (bN N d)[n]? with
 |some c=>canon c.M
 |none=>[]
noncomputable def pO(N:Nat->List Str)(k:b8):Gl->Tr
 | .give _ T=>bJ [cp "give",cX (T.ev k)]
 | .nought=>bJ [cp "give",cX 0]
 | .go n=>bJ [cp "go",cX (n:Int),bJ ((N n).map λx=>cX (look k (.inr x) 0))]
theorem qJ{H:Hp}{ys:List Str}:∀{ss:List (Str×Addr×Tm)} {k:b8},(∀s∈ss,TV H ys s.2.1 s.2.2)->GT k->GT (dS ss k)
 | [],_,_,g=>g
 |s::r,k,h,g=>qJ (H:=H) (ys:=ys) (ss:=r) (λS a=>h S (DK _ a)) (g.put _ (Jo g (h s DA).2.1))
theorem Zf{S:List (Str×Addr×Tm)}:∀{i:Nat} {s:Str×Addr×Tm} {k:b8},S[i]?=some s->dS (S.take (i+1)) k=aV (dS (S.take i) k) (.inr s.1) (.int (s.2.2.ev (dS (S.take i) k))):=by
 induction S with
 |nil=>intro i s k h;simp at h
 |cons a r I=>
  intro i s k h
  cases i with
  |zero=>
   cases h
   rfl
  |succ i=>exact I (by simpa using h)
theorem zZ{kvs:b8}{k:aY}{v:V}:(aV kvs k v).length<=kvs.length+1:=by
 unfold aV
 split
 ·rw[Di];exact EA _
 ·rw[Dj];exact Dk _
theorem Q1:∀{ss:List (Str×Addr×Tm)} {k:b8},(dS ss k).length<=k.length+ss.length
 | [],_=>Dk _
 |s::r,k=>by
  have h:=Q1 (ss:=r) (k:=aV k (.inr s.1) (.int (s.2.2.ev k)))
  have H:=zZ (kvs:=k) (k:=.inr s.1) (v:=.int (s.2.2.ev k))
  show(dS r _).length<=k.length+(r.length+1)
  omega
noncomputable def cj(n:List Str)(i:List Int):b8:=cr [] ((n.map Sum.inr).zip (i.map V.int))
theorem Q2:∀{m:b8} {k:b8},GT k->GT m->GT (cr k m)
 | [],_,g,_=>g
 |p::r,k,g,h=>by
  obtain⟨i,e,H⟩:=h p DA
  have E:aV k p.1 p.2=aV k p.1 (.int i):=by rw[e]
  show GT (cr (aV k p.1 p.2) r)
  rw[E]
  exact Q2 (g.put _ H) λq a=>h q (DK _ a)
theorem J3(h:∀i∈I,ff i):GT (cj n I):=by
 refine Q2 GT.nil λp H=>?_
 obtain⟨i,a,e⟩:=List.mem_map.mp (Gx H).2
 exact#[i,e.symm,h i a]
theorem Yu{ns:List Str}{is:List Int}:(cj ns is).length<=ns.length:=by
 have h:=ql ((ns.map Sum.inr).zip (is.map V.int)) []
 rw[HC,Di]at h
 show(cr [] _).length<=_
 have H:(cr [] ((ns.map Sum.inr).zip (is.map V.int))).length<=0+min ns.length (is.map V.int).length:=h
 omega
noncomputable abbrev ma:Stmt:=bn 40
noncomputable abbrev iB:Stmt:=bn 41
noncomputable abbrev gw:Stmt:=bn 44
noncomputable abbrev iJ:Stmt:=bn 45
noncomputable abbrev gE:Stmt:=bn 46
noncomputable abbrev iH:Stmt:=bn 47
structure lu(H:Hp)(nA:Addr)(d:Df)(ys:List Str)(v:V):Prop where
 tr:a9 H (eA nA d) v []
 bd:∃bs,c8 H d.b bs
 ok:d.b.Ok ys
 y20:ys.length<=20
 sz:d.b.size<=3000
structure A2(H:Hp)(nA:Addr)(d:Df)(ys:List Str)(c:Ct)(ka na wa:Addr)(dv:V)(wvs:List V):Prop where
 at':H ka=some (.tup [.ref na,dv,.ref wa])
 nms:H na=some (.tup ((canon c.M).map V.str))
 deed:a9 H (Bj c.d) dv []
 wat:H wa=some (.tup wvs)
 ways:a9 H (aR (c.ws.map fq)) .non wvs
 v:uB d.b.calls H ys nA d.b.cuts d.b.size c
theorem Yv:∀{S:List Str} {v:List V},a9 H (aR (S.map cp)) .non v->v=S.map V.str
 | [],v,h=>h
 |s::S,v,h=>by
  obtain⟨_,_,y,Y,rfl,⟨rfl,_⟩,a⟩:=h
  rw[Yv a]
  rfl
section
variable {H H':Hp}{nA:Addr}{d:Df}{ys:List Str}{v:V}
theorem lu.mono(k:ah H H')(h:lu H nA d ys v):lu H' nA d ys v:=#[h.tr.mono k,let #[b,a]:=h.bd;#[b,a.mono k],h.ok,h.y20,h.sz]
theorem lu.parts(h:lu H nA d ys v):∃(a c:Addr) (W:V) (C:List V),v= .ref a/\H a=some (.tup [.str d.f,.ref d.pa,W,.ref c])/\a9 H (fq (gF nA d).1.w) W []/\H c=some (.tup C)/\a9 H (aR ((bN nA d).map AX)) .non C:=by
 obtain⟨_,a,x,rfl,i,_,_,n,Y,rfl,⟨rfl,_⟩,_,_,o,j,rfl,⟨rfl,_⟩,_,_,W,k,rfl,l,_,_,p,y,rfl,m,e⟩:=h.tr
 have e:y=[]:=e
 subst e
 obtain⟨_,c,C,rfl,b,g⟩:=m
 exact#[a,c,W,C,Z,i,l,b,g]
theorem lu.cut{C:List V}(h:lu H nA d ys v)(a:a9 H (aR ((bN nA d).map AX)) .non C){n:Nat}{c:Ct}(g:(bN nA d)[n]?=some c):∃k N i D W,C[n]?=some (.ref k)/\A2 H nA d ys c k N i D W:=by
 have L:=zq a
 rw[Di]at L
 have u:n < C.length:=by rw[L];exact(List.getElem?_eq_some_iff.mp g).1
 have j:C[n]?=some C[n]:=Dh u
 obtain⟨T,b,t⟩:=Jb a n _ j
 rw[DE,g]at b
 cases b
 obtain⟨B,y⟩:=h.bd
 have z:=(vh (nA:=nA) y h.ok).2 c (Dx g)
 generalize C[n]=x at j t
 obtain⟨_,k,E,rfl,l,_,_,F,G,rfl,m,_,_,D,I,rfl,o,_,_,J,A,rfl,p,e⟩:=t
 have e:A=[]:=e
 subst e
 obtain⟨_,N,M,rfl,f,q⟩:=m
 obtain⟨_,i,W,rfl,r,s⟩:=p
 rw[Yv q]at f
 exact#[k,N,i,D,W,j,l,f,o,r,s,z]
theorem lu.way(h:lu H nA d ys v):i8 H ys nA d.b.cuts d.b.size (gF nA d).1.w:=let #[B,a]:=h.bd;(vh (nA:=nA) a h.ok).1.way
theorem ZW(h:(bN nA d)[n]?=some c):eu nA d n=canon c.M:=by
 unfold eu
 rw[h]
end
structure BX(H:Hp)(nA:Addr)(w:WD)(wa sa ga:Addr)(ss:List V)(wd:Str)(u:V):Prop where
 at':H wa=some (.tup [.ref sa,.ref ga])
 sat:H sa=some (.tup ss)
 sets:∀(i:Nat) (x:V),ss[i]?=some x->∃(s:Str×Addr×Tm) (p:Addr),w.sets[i]?=some s/\x= .ref p/\H p=some (.tup [.str s.1,.ref s.2.1])
 len:ss.length=w.sets.length
 gat:H ga=some (.tup [.str wd,u])
 goal:match w.goal with
  | .give t _=>wd="give"/\u= .ref t
  | .nought=>wd="give"/\u= .ref nA
  | .go n=>wd="go"/\u= .int (n:Int)
theorem uu{w:WD}(h:a9 H (fq (w.wy N)) v []):∃(l S G:Addr) (A:List V) (W:Str) (u:V),v= .ref l/\BX H N w l S G A W u:=by
 obtain⟨_,r,X,rfl,C,_,_,y0,D,rfl,⟨_,s,c,rfl,E,m⟩,_,_,Y,y,rfl,b,e⟩:=h
 have e:y=[]:=e
 subst e
 have L:=zq m
 have st:∀(i:Nat) (x:V),c[i]?=some x->∃(s:Str×Addr×Tm) (p:Addr),w.sets[i]?=some s/\x= .ref p/\H p=some (.tup [.str s.1,.ref s.2.1]):=λi x F=>by
  obtain⟨tr,o,I⟩:=Jb m i x F
  rw[DE]at o
  obtain⟨q,J,rfl⟩:=Option.map_eq_some_iff.mp o
  have a:(w.sets.map λs=>(s.1,s.2.1))[i]?=some q:=J
  rw[DE]at a
  obtain⟨z,M,rfl⟩:=Option.map_eq_some_iff.mp a
  obtain⟨_,p,X,rfl,O,_,_,Q,R,rfl,⟨rfl,_⟩,_,_,U,B,rfl,⟨rfl,_⟩,e⟩:=I
  have e:B=[]:=e
  subst e
  exact#[z,p,M,Z,O]
 have ln:c.length=w.sets.length:=by
  rw[L,Di]
  exact Di ..
 have f:∀g:Gl,w.goal=g->a9 H (sF (g.gol N)) Y []->∃(G:Addr) (W:Str) (u:V),Y= .ref G/\H G=some (.tup [.str W,u])/\match g with
  | .give t _=>W="give"/\u= .ref t
  | .nought=>W="give"/\u= .ref N
  | .go n=>W="go"/\u= .int (n:Int):=λg _ b=>by
  cases g with
  |give t T |nought |go n=>
   obtain⟨_,gl,X,rfl,d,_,_,Q,R,rfl,⟨rfl,_⟩,_,_,U,B,rfl,⟨rfl,_⟩,e⟩:=b
   have e:B=[]:=e
   subst e
   exact#[gl,_,_,Z,d,Z,Z]
 obtain⟨G,W,u,rfl,j,k⟩:=f w.goal Z b
 exact#[r,s,G,c,W,u,Z,C,E,st,ln,j,k]
def gV(N:Addr):Sp:=λa H Q _=>∃(v:V) (n:Nat) (d:Df) (y:List Str) (c:Ct),a=[v,.int (n:Int)]/\lu H N d y v/\(bN N d)[n]?=some c/\∀(k b e:Addr) (D:V) (W:List V),A2 H N d y c k b e D W->Q (.ref k) H
def g9(N:Addr):Sp:=λa H Q _=>∃(v:V) (n:Nat) (h:Addr) (d:Df) (y:List Str) (c:Ct) (i:List Int),a=[v,.int (n:Int),.ref h]/\lu H N d y v/\(bN N d)[n]?=some c/\H h=some (.tup (i.map V.int))/\i.length=(canon c.M).length/\
 ∀D:Addr,H D=none->Q (.ref D) (af H D (.dK (cj (canon c.M) i)))
theorem Yw:∀(s:List Str),(s.map (Sum.inr:Str->aY)).map kV=s.map V.str:=λs=>by rw[Fe];rfl
theorem sy:aj ["part","n"] ["part","n"] (aa ma):=bo
theorem pE{f:Addr}{g:FuncData}{N:Addr}(F:aJ K "cut_at" "cut_at" ma f g):ai P w K mg base ax 1 f g ["part","n"] (gV N):=by
 refine F.ok sy ?_ λl A o s H V Q E B h=>?_
 ·rintro _ _ _ _ ⟨v,n,d,y,c,rfl,_⟩
  rfl
 refine aP λG k=>?_
 obtain⟨v,n,d,y,c,rfl,i,m,q⟩:=h
 refine k ?_
 clear k
 refine#[_,(jg (jl (jq jW (jy (pv 0)) (pv 1) (λ_ _=>Z)))),?_]
 obtain⟨a,p,I,J,rfl,r,L,b,e⟩:=i.parts
 obtain⟨t,u,x,D,W,z,C⟩:=i.cut e m
 exact#[_,Z,a,_,_,_,Z,Z,aA.of r,jO (j:=3) Z,_,Z,p,_,_,_,Z,Z,aA.of b,jO z,q t u x D W C]
theorem pF:aj ["part","n","held"] ["part","n","held"] (aa iB):=bo
theorem Zg(F:aJ K "held_at" "held_at" iB f g)(i:Cl P w K mg base 1 J j ["part","n"] (gV N) "cut_at")(m:mg "dict"=none)(a:mg "zip"=none):ai P w K mg base ax 2 f g ["part","n","held"] (g9 N):=by
 refine F.ok pF ?_ λp A o s H V Q E r h=>?_
 ·rintro _ _ _ _ ⟨v,n,b,d,y,c,I,rfl,_⟩
  rfl
 refine aP λL k=>?_
 obtain⟨v,n,b,d,y,c,I,rfl,t,u,x,z,q⟩:=h
 refine k ?_
 clear k
 refine#[_,(jg (jl (@Yl _ _ _ _ _ _ _ _ Z m Z a Z (ja (jq jW (i.e r (ja (pv 0) (ja (pv 1) jb))) jf (λ_ _=>Z)) (ja (pv 2) jb)) Ih Ih Ih Ih))),?_]
 refine#[_,Z,_,Z,v,n,d,y,c,Z,t,u,λB D O R W C=>#[B,_,_,_,Z,Z,aA.of C.at',gZ,_,Z,D,b,(canon c.M).map Sum.inr,_,Z,by rw[Yw];exact aA.of C.nms,aA.of x,by rw[Di,Di,z],λl G=>q l G]]
inductive Wh where
 |rd (a i:Int) |wr (a b:Int) |ask (b:Int) |cl (f:Str) (is:List Int) (i:Int)
def yz(H:Hp)(u:V):Wh->Prop
 | .rd a i=>∃p,u= .ref p/\H p=some (.tup [.str "read",.int a,.int i])
 | .wr a b=>∃p,u= .ref p/\H p=some (.tup [.str "write",.int a,.int b])
 | .ask b=>∃p,u= .ref p/\H p=some (.tup [.str "ask",.int b])
 | .cl f I i=>∃p c g e,u= .ref p/\H p=some (.tup [.str "call",.ref c])/\H c=some (.tup [.str f,.ref g,e,.int i])/\H g=some (.tup (I.map V.int))
theorem yz.mono{H d:Hp}(k:ah H d){u:V}{w:Wh}(h:yz H u w):yz d u w:=by
 cases w with
 |rd a i |wr a b |ask b=>obtain⟨p,e,h⟩:=h;exact#[p,e,k _ _ h]
 |cl f I i=>obtain⟨p,c,g,e,E,j,l,m⟩:=h;exact#[p,c,g,e,E,k _ _ j,k _ _ l,k _ _ m]
inductive DD where
 |st (p:Addr) (l:Lf) |ask (t:Addr) (T:Tm)
noncomputable def DD.dd:DD->Dd
 | .st p _=>.st p
 | .ask t _=>.ask t
def xR(H:Hp)(y:List Str):DD->Prop
 | .st p l=>∃v,H p=some (.tup v)/\um H l v/\l.Ok y/\l.isCut=true
 | .ask t T=>TV H y t T
theorem xR.mono(k:ah H a)(h:xR H y d):xR a y d:=by
 cases d with
 |st p l=>obtain⟨v,b,c,e⟩:=h;exact#[v,k _ _ b,c.mono k,e]
 |ask t T=>exact TV.mono k h
def DD.Cs(F:gj):DD->Prop
 | .st _ l=>l.Cs F
 | .ask _ _=>True
theorem Ao{F:gj}(h:CB F H y d):∃e:DD,e.dd=d/\xR H y e/\e.Cs F:=by
 cases d with
 |st p=>obtain⟨l,v,a,b,c,f,g⟩:=h;exact#[.st p l,Z,#[v,a,b,c,f],g]
 |ask t=>obtain⟨T,h⟩:=h;exact#[.ask t T,Z,h,DR]
def Bl:DD->Wh->Prop
 | .st _ (.rd _ _ _),.rd _ i=>ff i
 | .st _ (.wr _ _ _ _),.wr _ _=>True
 | .st _ (.cl _ _ _ _),.cl _ _ i=>ff i
 | .ask _ _,.ask b=>b=0∨b=1
 |_,_=>False
noncomputable def sN(d:DD)(w:Wh)(k:b8):b8:=match d,w with
 | .st _ (.rd x _ _),.rd _ i=>aV k (.inr x) (.int i)
 | .st _ (.cl x _ _ _),.cl _ _ i=>aV k (.inr x) (.int i)
 |_,_=>k
noncomputable def Wh.side:Wh->Nat
 | .ask b=>if b=0 then 1 else 0
 |_=>0
def rG(Q:VK)(H:Hp):Wh->Prop
 | .rd _ i=>Q (.int i) H
 | .cl _ _ i=>Q (.int i) H
 |_=>False
def eM:Sp:=λv H Q _=>∃(u:V) (w:Wh),v=[u]/\yz H u w/\rG Q H w
def mn(n:Addr):Sp:=λa H Q _=>∃(v W:V) (D:Addr) (d:Df) (y:List Str) (w:WD) (k:b8),a=[v,W,.ref D]/\lu H n d y v/\a9 H (fq (w.wy n)) W []/\xT H y d.b.cuts d.b.size w/\H D=some (.dK k)/\GT k/\k.length<=200/\
 ∀(u:V) (h:Hp),a9 h (pO (eu n d) (dS w.sets k) w.goal) u []->ar D H h->Q u h
inductive EI(dd:Addr)(σ0:L2.St)(ss:List (Str×Addr×Tm))(k:b8)(H:Hp)(i:Nat)(σ:L2.St)(H':Hp):Prop
 |mk (o3 o4:Option V) (e0:σ=σ0++[o3,o4,none,none]) (e1:H' dd=some (.dK (dS (ss.take i) k))) (e2:ar dd H H'):EI dd σ0 ss k H i σ H'
theorem Qw{H:Hp}:∀{is:List Int},a9 H (aR (is.map cX)) .non (is.map V.int)
 | []=>rfl
 |i::is=>jp Z qt (Qw (is:=is))
theorem mP:aj ["what"] ["what"] (aa gw):=bo
theorem pU(F:aJ K "found_in" "found_in" gw f n):ai P w K mg base ax 1 f n ["what"] eM:=by
 refine F.ok mP ?_ λC A o s H v Q E t h=>?_
 ·rintro _ _ _ _ ⟨u,W,rfl,_⟩
  rfl
 refine aP λG k=>?_
 obtain⟨u,W,rfl,d,q⟩:=h
 refine k ?_
 clear k
 refine#[_,(jg (jl (kP (j5 (jy (pv 0))) (jy (jq jW (pv 0) jf (λ_ _=>Z))) (jq jW (pv 0) (uP ZE jf) (λ_ _=>Z))))),?_]
 cases W with
 |rd a i=>
  obtain⟨p,rfl,l⟩:=d
  exact(js l gZ #[Z,_,Z,aO Ig #[_,Z,_,Z,p,_,_,_,Z,Z,aA.of l,Z,q]])
 |cl f I i=>
  obtain⟨p,c,g,e,rfl,m,r,_⟩:=d
  exact(js m gZ #[Z,_,Z,bV Ig (js m ni #[c,_,_,_,Z,Z,aA.of r,jO (j:=3) Z,q])])
 |wr a b |ask b=>exact q.elim
theorem eU:aj ["part","way","numbers","name","term","goal","held"] ["part","way","numbers"] (aa iJ):=bo
noncomputable def X2:Scope:=#[.function,[(".0",.local),("name",.local),("numbers",.free)],false,false,[]]
theorem uh:(["name","numbers"]:List Str).Nodup:=by decide+kernel
theorem tF:aX ["part","way","numbers","name","term","goal","held"] (aa iJ) X2 ["name","numbers"] 1 [2]:=nh
theorem nP(F:aJ K "end_of" "end_of" iJ f fd)(cC:Cl P w K mg base 1 fC f2 ["part","n"] (gV U) "cut_at")(cW:Cl P w K mg base 7 fW f3 ["term","held"] (ci K 6) "worth")(m0:mg "tuple"=none)(no:md K U):ai P w K mg base ax 8 f fd ["part","way","numbers"] (mn U):=by
 refine F.ok eU ?_ λc0 A o1 s H vs Q E Y h=>?_
 ·rintro _ _ _ _ ⟨v,w1,D,d,ys,O,k,rfl,_⟩
  rfl
 refine aP λGq kq=>?_
 obtain⟨v,w1,D,d,ys,O,k,rfl,hp,hw,wv,hd,gk,hk,q⟩:=h
 refine kq ?_
 clear kq
 refine#[_,(jd (ke D0 Z (zS (jy (pv 1))) (zc (n:=2) Z (jx (ju (i:=3) eU.nd Z (Or.inl Z)) (jx (ju (i:=4) eU.nd Z (Or.inl Z)) j8))) (jg (zH (kG Y) (pv 2) (pv 3) (cW.e Y.m (ja (pv 4) (ja (pv 2) jb))) Z))) (jd (jw 5 eU.nd (jy (pv 1))) (jd (jv (j5 (jy (pv 5))) (jg (jl (jh (ja jk (ja (cW.e Y.m (ja (jy (pv 5)) (ja (pv 2) jb))) jb))))) jm) (jd (@Yf _ _ _ _ _ _ _ _ _ _ (6) (["name","numbers"]) (1) ([2]) _ _ _ _ eU.nd Z (Or.inl Z) Z (zS (jq jW (cC.e Y.m (ja (pv 0) (ja (jy (pv 5)) jb))) jf (λ_ _=>Z))) tF (λ_ _ _ _ _=>(ju (i:=0) uh Z (Or.inl Z))) (λ_ _ _ _ _=>(@kW _)) (λ_ _ _ _ _=>(@J5 _ _ _ _ _ _ _ _ _ (kG Y) (pv 1) (pv 0) jf #[Ih,Ih,Ih,Ih])) Ih (by first |exact .inl Z |exact .inr Z) (by intro _;rfl)) (jg (jl (jh (ja jk (ja (jy (pv 5)) (ja (jB jA Z m0 EB (ja (pv 6) jb)) jb)))))))))),?_]
 have b0:=aB
 obtain⟨wa,sa,ga,ss,wd,u,rfl,W⟩:=uu hw
 have R:∀g,ar D H g->ah H g:=λg k b xs e=>k b _ (jI e hd (by intro z;cases z)) e
 have h2:=hp.sz
 have h3:=wv.len
 refine ak λF1 C=>dU λJ j=>(js W.at' gZ #[sa,Z,#[_,aA.of W.sat],j _ _ ?_])
 clear j
 refine J7 (K:=K) (xs:=ss) (EI D [some v,some (.ref wa),some (.ref D)] O.sets k H) #[_,_,Z,hd,ar.refl] (λi σ g _ h=>?_) ?_ (λσ g h=>C _ _ ?_)
 ·obtain⟨_,_,_,_,I⟩:=h
  exact aA.of (R _ I _ _ W.sat)
 ·intro E _ i x σ H1 hx f0 Gq kq h
  obtain⟨o3,o4,rfl,L,I⟩:=h
  clear C
  obtain⟨s,p,hs,rfl,h0⟩:=W.sets i x hx
  have S:=R _ I
  have tv:=(wv.sets s (Dx hs)).mono S
  have g1:GT (dS (O.sets.take i) k):=qJ (H:=H) (ys:=ys) (λs hs=>wv.sets s (Ea hs)) gk
  have l1:=Q1 (ss:=O.sets.take i) (k:=k)
  rw[DG]at l1
  refine kq ?_
  clear kq
  refine#[p,_,Z,aA.of (S _ _ h0),Z,_,_,Z,_,_,Z,Z,?_]
  refine#[_,Z,_,Z,s.2.1,D,s.2.2,ys,_,Z,.inl tv.1,tv.2.2,tv.2.1,L,g1,_,Z,_,Z,D,_,Z,.inl #[_,.inr s.1,L,Z,Ic,Z],f0 _ _ #[_,_,Z,?_,λc o X e=>by rw[ji X];exact I c o X e]]
  rw[Zf hs]
  exact jc
 ·obtain⟨o3,o4,rfl,L,I⟩:=h
  rw[W.len,DY]at L
  have S:=R _ I
  have g1:GT (dS O.sets k):=qJ (H:=H) (ys:=ys) wv.sets gk
  have B:=wv.goal
  have a:=W.goal
  generalize dS O.sets k=N at L g1 q
  refine ak λF1 C=>(js (S _ _ W.at') ni (C _ _ ?_))
  clear C
  have G:=S _ _ W.gat
  refine ak λF1 C=>vE λG1 k3 k0=>(js G gZ #[Z,_,Z,?_])
  have give:∀(t:Addr) (T:Tm),wd="give"->u= .ref t->CM K g T t->cw ys T->(∀(u':V) (H9:Hp),a9 H9 (bJ [cp "give",cX (T.ev N)]) u' []->ar D H H9->Q u' H9)->G1 (decide (V.str wd=V.str "give")) g:=by
   intro t T e1 e2 x1 x2 x3
   subst e1
   subst e2
   rw[DP Z]
   refine k3 _ (js G ni #[_,Z,t,D,T,ys,N,Z,x1,x2.2,x2.1,L,g1,bG,λr nr=>?_])
   exact x3 _ _ (jH jc (jp Z kC (jp Z qt jE))) λc o X e=>je nr _ _ (I c o X e)
  cases hg:O.goal with
  |give t T=>
   rw[hg]at B a q
   exact give t T a.1 a.2 (.inl (B.1.mono S)) B.2 q
  |nought=>
   rw[hg]at a q
   exact give U (.num 0) a.1 a.2 (.inr #[Z,no _]) #[#[Ib,Ib],Ib] q
  |go n=>
   rw[hg]at B a q
   clear give k3
   obtain⟨e1,e2⟩:=a
   subst e1
   subst e2
   have hn:n < (bN U d).length:=by rw[Yt];exact B
   obtain⟨c,hc⟩:∃c,(bN U d)[n]?=some c:=#[_,Dh hn]
   have e0:decide (V.str "go"=V.str "give")=false:=by decide+kernel
   rw[e0]
   refine k0 _ (C _ _ ?_)
   clear k0 C
   refine ak λF1 C=>#[_,Z,js G ni #[v,n,d,ys,c,Z,hp.mono S,hc,λka na w2 dv w3 ca=>#[ka,_,_,_,Z,Z,aA.of ca.at',gZ,na,Z,#[_,aA.of ca.nms],?_]]]
   have cl:=Ds (Qh ca.v.mem) hp.y20
   have q:∀(u:V) (g:Hp),a9 g (bJ [cp "go",cX (n:Int),bJ ((eu U d n).map λx=>cX (look N (.inr x) 0))]) u []->ar D H g->Q u g:=q
   rw[ZW hc]at q
   refine qj (K:=K) (xs:=(canon c.M).map V.str) (by rw[Di];omega) (λi zs Hx=>zs=((canon c.M).take i).map (λx=>V.int (look N (.inr x) 0))/\Hx=g) #[Z,Z] (λi zs Hx h=>?_) (λi x zs Hx hx h=>?_) (λzs Hx h l nl=>C _ _ ?_)
   ·obtain⟨rfl,rfl⟩:=h
    exact#[aA.of ca.nms,by rw[Di,DG];omega]
   ·obtain⟨rfl,rfl⟩:=h
    rw[DE]at hx
    obtain⟨y,hy,rfl⟩:=Option.map_eq_some_iff.mp hx
    refine#[_,Z,D,Z,.inl #[N,.inl L],_,Z,_,en.k (k:=Sum.inr y) L,?_,Z]
    rw[J8 g1,D7,hy,DJ]
    rfl
   ·obtain⟨rfl,rfl⟩:=h
    rw[Di,DY]
    refine(js (je nl _ _ G) ni #[_,Z,l,_,Z,.inl #[aE.of jc,λtl n0=>#[dP,λr nr=>?_]]])
    refine q _ _ (jH jc (jp Z kC (jp Z qt (jp Z (jH (ao jc nr) ?_) jE)))) λc' o X e=>je nr _ _ (je n0 _ _ (je nl _ _ (I c' o X e)))
    have:=Qw (H:=af (af (af Hx l (.lst ((canon c.M).map (λx=>V.int (look N (.inr x) 0))))) tl (.tup ((canon c.M).map (λx=>V.int (look N (.inr x) 0))))) r (.tup [.str "go",.int (n:Int),.ref tl])) (is:=(canon c.M).map λx=>look N (.inr x) 0)
    rw[Fe,Fe]at this
    exact this
structure iU(H:Hp)(nA:Addr)(d:Df)(ys:List Str)(v:V)(sa:Addr)(n:Nat)(hv:Addr)(uw:V)(c:Ct)(is:List Int)(wh:Wh)(e:DD)(wd:WD):Prop where
 prt:lu H nA d ys v
 at':H sa=some (.tup [.int (n:Int),.ref hv,uw])
 cut:(bN nA d)[n]?=some c
 hat:H hv=some (.tup (is.map V.int))
 hl:is.length=(canon c.M).length
 hin:∀i∈is,ff i
 whv:yz H uw wh
 ed:e.dd=c.d
 dv:xR H ys e
 fit:Bl e wh
 way:c.ws[wh.side]?=some (wd.wy nA)
 wdv:xT H ys d.b.cuts d.b.size wd
theorem iU.mono(k:ah H a)(h:iU H N d y v s n b u c i f e g):iU a N d y v s n b u c i f e g:=
 #[h.prt.mono k,k _ _ h.at',h.cut,k _ _ h.hat,h.hl,h.hin,h.whv.mono k,h.ed,h.dv.mono k,h.fit,h.way,h.wdv.mono k]
noncomputable def BN(n:Addr)(d:Df)(c:Ct)(i:List Int)(a:Wh)(e:DD)(W:WD):Tr:=pO (eu n d) (dS W.sets (sN e a (cj (canon c.M) i))) W.goal
def fX(n:Addr):Sp:=λc H Q _=>∃(v:V) (a:Addr) (d:Df) (y p:List Str) (I:List Int) (w:WD),c=[v,.ref a]/\lu H n d y v/\H d.pa=some (.tup (p.map V.str))/\p.length<=100/\H a=some (.tup (I.map V.int))/\I.length=p.length/\(∀i∈I,ff i)/\w.wy n=(gF n d).1.w/\xT H y d.b.cuts d.b.size w/\
 ∀(u:V) (h:Hp),a9 h (pO (eu n d) (dS w.sets (cj p I)) w.goal) u []->ae H h->Q u h
def t6(N:Addr):Sp:=λb H Q _=>∃(v U:V) (s f:Addr) (n:Nat) (d:Df) (y:List Str) (c:Ct) (i:List Int) (W:Wh) (e:DD) (a:WD),b=[v,.ref s]/\iU H N d y v s n f U c i W e a/\∀(u:V) (h:Hp),a9 h (BN N d c i W e a) u []->ae H h->Q u h
theorem ZX(h:Bl e a)(g:GT k):GT (sN e a k):=by
 unfold sN
 split
 ·exact g.put _ h
 ·exact g.put _ h
 ·exact g
theorem rQ{e:DD}{wh:Wh}{k:b8}:(sN e wh k).length<=k.length+1:=by
 unfold sN
 split
 ·exact zZ
 ·exact zZ
 ·exact EA _
theorem mQ:aj ["part","args"] ["part","args"] (aa gE):=bo
theorem X3(F:aJ K "first_of" "first_of" gE f I)(J:Cl P w K mg base 8 fE L ["part","way","numbers"] (mn T) "end_of")(M:mg "dict"=none)(b:mg "zip"=none):ai P w K mg base ax 9 f I ["part","args"] (fX T):=by
 refine F.ok mQ ?_ λR A O s H vs Q E U h=>?_
 ·rintro _ _ _ _ ⟨v,x,d,y,p,is,z,rfl,_⟩
  rfl
 refine aP λGq B=>?_
 obtain⟨v,x,d,y,p,is,z,rfl,C,g,V,i,n,r,t,W,q⟩:=h
 refine B ?_
 clear B
 refine#[_,(jg (jl (J.e U.m (ja (pv 0) (ja (jy (pv 0)) (ja (@Yl _ _ _ _ _ _ _ _ Z M Z b Z (ja (jy (pv 0)) (ja (pv 1) jb)) Ih Ih Ih Ih) jb)))))),?_]
 obtain⟨a,ca,X,cs,rfl,D,G,Y,h0⟩:=C.parts
 rw[<- t]at G
 refine#[_,Z,_,Z,a,_,_,_,Z,Z,aA.of D,jO (j:=2) Z,js D ni #[_,Z,d.pa,x,p.map Sum.inr,_,Z,by rw[Yw];exact aA.of g,aA.of i,by rw[Di,Di,n],λl N=>?_]]
 have S:ae H (af H l (.dK (cj p is))):=je N
 have zl:=Yu (ns:=p) (is:=is)
 exact#[.ref a,X,l,d,y,z,cj p is,Z,C.mono (ae.tm S),G.mono (ae.tm S),W.mono (ae.tm S),jc,J3 r,Ic,λu H' tu k=>q u H' tu λc o e=>k c o (jj e N) (S _ _ e)]
theorem dJ:aj ["part","step","cut","numbers","what","way"] ["part","step"] (aa iH):=bo
theorem Zh{f:Addr}{fd:FuncData}{nA fC fD fF fE:Addr}{f0 f3 f4 f5:FuncData}(F:aJ K "onward" "onward" iH f fd)(cC:Cl P w K mg base 1 fC f0 ["part","n"] (gV nA) "cut_at")(cD:Cl P w K mg base 2 fD f3 ["part","n","held"] (g9 nA) "held_at")(cF:Cl P w K mg base 1 fF f4 ["what"] eM "found_in")(cE:Cl P w K mg base 8 fE f5 ["part","way","numbers"] (mn nA) "end_of"):ai P w K mg base ax 9 f fd ["part","step"] (t6 nA):=by
 refine F.ok dJ ?_ λc0 A o2 s H vs Q E hr h=>?_
 ·rintro _ _ _ _ ⟨v,O,sa,hv,n,d,ys,c,is,wh,e,wd,rfl,_⟩
  rfl
 refine aP λGq kq=>?_
 obtain⟨v,O,sa,hv,n,d,ys,c,is,wh,e,wd,rfl,C,q⟩:=h
 refine kq ?_
 clear kq
 refine#[_,(jd (jw 2 dJ.nd (cC.e hr.m (ja (pv 0) (ja (jy (pv 1)) jb)))) (jd (jw 3 dJ.nd (cD.e hr.m (ja (pv 0) (ja (jy (pv 1)) (ja (jy (pv 1)) jb))))) (jd (jw 4 dJ.nd (jy (pv 1))) (jd (jv (jz zb (jy (pv 4)) (jh (ja jk (ja jk jb))) Z) (jg (zH (kG hr) (pv 3) (jy (jq jW (pv 2) jf (λ_ _=>Z))) (cF.e hr.m (ja (pv 4) jb)) Z)) jm) (jd (jw 5 dJ.nd (kP (jz (xZ (kG hr)) (pv 4) (jh (ja jk (ja jf jb))) (aF _)) (jy (jq jW (pv 2) jf (λ_ _=>Z))) (jy (jq jW (pv 2) jf (λ_ _=>Z))))) (jg (jl (cE.e hr.m (ja (pv 0) (ja (pv 5) (ja (pv 3) jb))))))))))),?_]
 have b0:=aB
 obtain⟨a,ca,wv,cs,rfl,ha,hw,a0,a1⟩:=C.prt.parts
 have h0:=C.at'
 refine ak λF1 L=>#[_,Z,js h0 gZ #[_,n,d,ys,c,Z,C.prt,C.cut,λka na wa dv w0 cu=>L _ _ ?_]]
 clear L
 refine ak λF1 L=>#[_,Z,js h0 gZ (js h0 ni #[_,n,hv,d,ys,c,is,Z,C.prt,C.cut,C.hat,C.hl,λD n0=>L _ _ ?_])]
 clear L
 have s1:ae H (af H D (.dK (cj (canon c.M) is))):=je n0
 have d1:af H D (.dK (cj (canon c.M) is)) D=some (.dK (cj (canon c.M) is)):=jc
 generalize af H D (.dK (cj (canon c.M) is))=H1 at s1 d1
 have R:=C.mono (ae.tm s1)
 have g0:GT (cj (canon c.M) is):=J3 C.hin
 have z0:=Yu (ns:=canon c.M) (is:=is)
 have z1:=Qh cu.v.mem
 have z2:=C.prt.y20
 generalize h7:cj (canon c.M) is=k0 at d1 g0 z0
 refine ak λF1 L=>#[_,Z,sa,_,_,_,Z,Z,aA.of R.at',jO (j:=2) Z,L _ _ ?_]
 clear L
 have o1:BN nA d c is wh e wd=pO (eu nA d) (dS wd.sets (sN e wh k0)) wd.goal:=by unfold BN;rw[h7]
 rw[o1]at q
 have h1:=zq cu.ways
 rw[Di]at h1
 have I:∃x,w0[wh.side]?=some x/\a9 H (fq (wd.wy nA)) x []:=by
  have hj:wh.side < w0.length:=by rw[h1];exact(List.getElem?_eq_some_iff.mp C.way).1
  obtain⟨tr,ht,tx⟩:=Jb cu.ways wh.side _ (Dh hj)
  rw[DE,C.way]at ht
  cases ht
  exact#[_,Dh hj,tx]
 obtain⟨wx,I,t0⟩:=I
 have h4:=cu.at'
 have h8:=cu.wat
 refine ak λF1 L=>?_
 have r0:∀(H3:Hp),H3 D=some (.dK (sN e wh k0))->ar D H1 H3->F1 [some (.ref a),some (.ref sa),some (.ref ka),some (.ref D),some O,none] H3:=by
  intro H3 h3 k3
  refine L _ _ ?_
  clear L
  have s3:ae H H3:=λc o x=>k3 c o (jj x n0) (s1 _ _ x)
  have l3:=rQ (e:=e) (wh:=wh) (k:=k0)
  refine ak λF2 f2=>?_
  have f6:∀H4,ae H3 H4->F2 [some (.ref a),some (.ref sa),some (.ref ka),some (.ref D),some O,some wx] H4:=λH4 s4=>f2 _ _ (by
   have S:=s3.trans s4
   exact#[_,Z,_,Z,_,Z,.ref a,wx,D,d,ys,wd,_,Z,C.prt.mono (ae.tm S),t0.mono (ae.tm S),C.wdv.mono (ae.tm S),s4 _ _ h3,ZX C.fit g0,Ic,λu X tu k=>q u X tu λc o x=>k c o (jj x n0) (S _ _ x)])
  clear f2
  have wk:=C.whv.mono (ae.tm s3)
  have G:∀(H4:Hp) (j:Nat),ae H3 H4->w0[j]?=some wx->dw (eX K) (dw (eX K) (aU 2) (tC (.int 2))) (tC (.int (j:Int))) [some (.ref a),some (.ref sa),some (.ref ka),some (.ref D),some O,none] H4 λx H5=>F2 ([some (.ref a),some (.ref sa),some (.ref ka),some (.ref D),some O,none].set 5 (some x)) H5:=λH4 j s4 hj=>
   #[_,Z,ka,_,_,_,Z,Z,aA.of ((s3.trans s4) _ _ h4),jO (j:=2) Z,wa,_,_,_,Z,Z,aA.of ((s3.trans s4) _ _ h8),jO hj,f6 H4 s4]
  cases wh with
  |rd a' i |wr a' b=>
   obtain⟨p,rfl,B⟩:=wk
   exact#[_,Z,bG,λt N=>#[p,t,_,_,Z,Z,aA.of (je N _ _ B),aA.of jc,.inl #[Z,Z,_,Z,aO (by unfold oC;exact HM _) (G _ 0 (je N) I)]]]
  |ask b=>
   obtain⟨p,rfl,B⟩:=wk
   have hb:b=0∨b=1:=by
    have:=C.fit
    cases e with
    |st p l=>cases l<;>exact this.elim
    |ask t T=>exact this
   rcases hb with rfl |rfl
   ·exact#[_,Z,bG,λt N=>#[p,t,_,_,Z,Z,aA.of (je N _ _ B),aA.of jc,.inl #[Z,Z,_,Z,bV Ig (G _ 1 (je N) I)]]]
   ·exact#[_,Z,bG,λt N=>#[p,t,_,_,Z,Z,aA.of (je N _ _ B),aA.of jc,.inl #[Z,Z,_,Z,aO Ig (G _ 0 (je N) I)]]]
  |cl f' i0 i=>
   obtain⟨p,c',g,e',rfl,B,h',_⟩:=wk
   exact#[_,Z,bG,λt N=>#[p,t,_,_,Z,Z,aA.of (je N _ _ B),aA.of jc,.inr #[_,c',_,_,_,Z,aA.of (je N _ _ h'),Z,_,Z,aO Z (G _ 0 (je N) I)]]]
 have wk:=R.whv
 have dk:=R.dv
 have fk:=R.fit
 have h5:=s1 _ _ h4
 have d0:=cu.deed
 rw[<- C.ed]at d0
 have skip:∀(p:Addr) (W:Str) (r:List V),O= .ref p->H1 p=some (.tup (.str W::r))->mH (.str W) [.str "read",.str "call"]=false->sN e wh k0=k0->gu (gU (dw (Bi K false) (dw (eX K) (aU 4) (tC (.int 0))) (bE (al (tC (.str "read")) (al (tC (.str "call")) aI))))) (o0 (aU 3) (dw (eX K) (dw (eX K) (aU 2) (tC (.int 1))) (tC (.int 1))) (dq eM [] E0 (al (aU 4) aI))) re { nx:=F1,rt:=Q } [some (.ref a),some (.ref sa),some (.ref ka),some (.ref D),some O,none] H1:=by
  intro p W r J B e2 e3
  subst J
  refine vE λG1 k1 k2=>(js B gZ #[bG,λt N=>#[t,_,Z,.inr (aA.of jc),Z,Z,_,Z,?_]])
  show G1 (mH (.str W) [.str "read",.str "call"]) _
  rw[e2]
  exact k2 _ (r0 _ (by rw[e3];exact ao d1 N) λc o _ x=>je N _ _ x)
 have p0:∀(p p':Addr) (W:Str) (r:List V) (i:Int) (x:Str) (y:V) (r':List V),O= .ref p->H1 p=some (.tup (.str W::r))->mH (.str W) [.str "read",.str "call"]=true->dv= .ref p'->H1 p'=some (.tup (y:: .str x::r'))->(∀X:Hp,ae H1 X->yz X O wh)->(∀(Q':VK) (X:Hp),Q' (.int i) X->rG Q' X wh)->sN e wh k0=aV k0 (.inr x) (.int i)->gu (gU (dw (Bi K false) (dw (eX K) (aU 4) (tC (.int 0))) (bE (al (tC (.str "read")) (al (tC (.str "call")) aI))))) (o0 (aU 3) (dw (eX K) (dw (eX K) (aU 2) (tC (.int 1))) (tC (.int 1))) (dq eM [] E0 (al (aU 4) aI))) re { nx:=F1,rt:=Q } [some (.ref a),some (.ref sa),some (.ref ka),some (.ref D),some O,none] H1:=by
  intro p p' W r i x y r' J B e2 e4 Y e5 e6 e3
  subst J
  subst e4
  refine vE λG1 k1 k2=>(js B gZ #[bG,λt N=>#[t,_,Z,.inr (aA.of jc),Z,Z,_,Z,?_]])
  show G1 (mH (.str W) [.str "read",.str "call"]) _
  rw[e2]
  refine k1 _ #[_,Z,.ref p,wh,Z,e5 _ (je N),e6 _ _ ?_]
  exact#[_,Z,js (je N _ _ h5) ni #[p',_,_,_,Z,Z,aA.of (je N _ _ Y),ni,D,_,Z,.inl #[k0,.inr x,ao d1 N,Z,Ic,Z],r0 _ (by rw[e3];exact jc) λc o nc z=>by rw[ji nc];exact je N _ _ z]]
 cases e with
 |ask t T=>
  cases wh with
  |ask b=>obtain⟨p,J,B⟩:=wk;exact skip p _ _ J B Ig Z
  |_=>exact fk.elim
 |st p' l=>
  obtain⟨vs,Y,h6,_⟩:=dk
  have ed:dv= .ref p':=d0.1
  cases l with
  |rd x t T=>
   cases wh with
   |rd b i=>obtain⟨p,J,B⟩:=wk;obtain⟨rfl,_⟩:=h6;exact p0 p p' _ _ i x _ _ J B Ig ed Y (λX s'=>#[p,J,s' _ _ B]) (λ_ _ h=>h) Z
   |_=>exact fk.elim
  |wr t u T U=>
   cases wh with
   |wr b i=>obtain⟨p,J,B⟩:=wk;exact skip p _ _ J B Ig Z
   |_=>exact fk.elim
  |cl x f' q' ts=>
   cases wh with
   |cl f2 i1 i=>obtain⟨p,c2,g2,e2,J,B,h2,h3⟩:=wk;obtain⟨rfl,_⟩:=h6;exact p0 p p' _ _ i x _ _ J B Ig ed Y (λX s'=>#[p,c2,g2,e2,J,s' _ _ B,s' _ _ h2,s' _ _ h3]) (λ_ _ h=>h) Z
   |_=>exact fk.elim
  |st x t T |gv t T=>cases wh<;>exact fk.elim
noncomputable abbrev fV:Stmt:=bn 42
noncomputable abbrev iG:Stmt:=bn 43
noncomputable def CG(k:b8):DD->Tr
 | .st _ (.rd _ _ T)=>bJ [cp "read",cX (T.ev k)]
 | .st _ (.wr _ _ T U)=>bJ [cp "write",cX (T.ev k),cX (U.ev k)]
 | .st _ (.cl _ f _ t)=>bJ [cp "call",cp f,bJ (t.map λc=>cX (c.2.ev k))]
 | .ask _ T=>bJ [cp "ask",cX (if T.ev k=0 then 0 else 1)]
 |_=>.nil
def f8(N:Addr):Sp:=λb H Q _=>∃(v:V) (n:Nat) (a:Addr) (d:Df) (y:List Str) (c:Ct) (I:List Int) (e:DD),b=[v,.int (n:Int),.ref a]/\lu H N d y v/\(bN N d)[n]?=some c/\H a=some (.tup (I.map V.int))/\I.length=(canon c.M).length/\(∀i∈I,ff i)/\e.dd=c.d/\xR H y e/\
 ∀(u:V) (h:Hp),a9 h (CG (cj (canon c.M) I) e) u []->ae H h->Q u h
def gr:Sp:=λv H Q _=>∃(a d:Addr) (t:List (Addr×Tm)) (y:List Str) (k:b8),v=[.ref a,.ref d]/\H a=some (.tup (t.map λc=>V.ref c.1))/\t.length<=6/\(∀c∈t,a6 H c.2 c.1/\cw y c.2)/\H d=some (.dK k)/\GT k/\
 ∀(r:Addr) (h:Hp),h r=some (.tup (t.map λc=>V.int (c.2.ev k)))->ae H h->Q (.ref r) h
theorem rA:aj ["terms","numbers"] ["terms","numbers"] (aa fV):=bo
noncomputable def X4:Scope:=#[.function,[(".0",.local),("term",.local),("worth",.globalImplicit),("numbers",.free)],false,false,[]]
theorem tP:(["term","numbers"]:List Str).Nodup:=by decide+kernel
theorem sj:aX ["terms","numbers"] (aa fV) X4 ["term","numbers"] 1 [1]:=nh
theorem Zi(F:aJ K "worths" "worths" fV f v)(C:Cl P w K mg base 7 U B ["term","held"] (ci K 6) "worth")(M:mg "tuple"=none):ai P w K mg base ax 8 f v ["terms","numbers"] gr:=by
 refine F.ok rA ?_ λG A o s H R Q E I h=>?_
 ·rintro _ _ _ _ ⟨a,D,t,g,k,rfl,_⟩
  rfl
 refine aP λS j=>?_
 obtain⟨a,D,t,g,k,rfl,p,W,b,J,L,q⟩:=h
 refine j ?_
 clear j
 refine#[_,(jg (jl (jB jA Z M EB (ja (@kO _ _ _ _ _ _ _ (["term","numbers"]) (1) ([1]) _ _ _ _ Z (zS (pv 0)) sj (λ_ _ _ _ _=>(ju (i:=0) tP Z (Or.inl Z))) (λ_ _ _ _ _=>(@kW _)) (λ_ _ _ _ _=>(C.e I.m (ja (pv 0) (ja (pv 1) jb)))) (by intro _;rfl)) jb)))),?_]
 have N:=aB
 refine#[_,Z,a,Z,#[_,aA.of p],?_]
 refine qj (K:=K) (xs:=t.map λc=>V.ref c.1) (by rw[Di];omega) (λi z d=>z=(t.take i).map (λc=>V.int (c.2.ev k))/\d=H) #[Z,Z] (λi z d h=>?_) (λi x z d r h=>?_) (λz d h l O=>?_)
 ·obtain⟨rfl,rfl⟩:=h
  exact#[aA.of p,by rw[Di,DG];omega]
 ·obtain⟨rfl,rfl⟩:=h
  rw[DE]at r
  obtain⟨y,u,rfl⟩:=Option.map_eq_some_iff.mp r
  have Y:=Dx u
  refine#[_,Z,_,Z,y.1,D,y.2,g,k,Z,.inl (b y Y).1,(b y Y).2.2,(b y Y).2.1,J,L,?_,Z]
  rw[D7,u,DJ]
  rfl
 ·obtain⟨rfl,rfl⟩:=h
  rw[Di,DY]
  exact#[l,_,Z,.inl #[aE.of jc,λT n=>q T _ jc ((je O).trans (je n))]]
theorem eL:aj ["part","n","held","numbers","deed","word"] ["part","n","held"] (aa iG):=bo
theorem Zj(F:aJ K "deed_at" "deed_at" iG f fd)(cH:Cl P w K mg base 2 fH f0 ["part","n","held"] (g9 nA) "held_at")(cC:Cl P w K mg base 1 fC f2 ["part","n"] (gV nA) "cut_at")(cW:Cl P w K mg base 7 fW f3 ["term","held"] (ci K 6) "worth")(cS:Cl P w K mg base 8 fS f4 ["terms","numbers"] gr "worths"):ai P w K mg base ax 9 f fd ["part","n","held"] (f8 nA):=by
 refine F.ok eL ?_ λc0 A o1 s H vs Q E L h=>?_
 ·rintro _ _ _ _ ⟨v,n,hv,d,Y,c,is,e,rfl,_⟩
  rfl
 refine aP λGq kq=>?_
 obtain⟨v,n,hv,d,Y,c,is,e,rfl,hp,hc,hh,hl,h0,h1,h2,q⟩:=h
 refine kq ?_
 clear kq
 refine#[_,(jd (jw 3 eL.nd (cH.e L.m (ja (pv 0) (ja (pv 1) (ja (pv 2) jb))))) (jd (jw 4 eL.nd (jq jW (cC.e L.m (ja (pv 0) (ja (pv 1) jb))) jf (λ_ _=>Z))) (jd (jw 5 eL.nd (jy (pv 4))) (jd (jv (j5 (pv 5)) (jg (jl (jh (ja (pv 5) (ja (kP (jz Jl (cW.e L.m (ja (jy (pv 4)) (ja (pv 3) jb))) jf (aF _)) jf jf) jb))))) jm) (jd (jv (j5 (pv 5)) (jg (jl (jh (ja (pv 5) (ja (jy (pv 4)) (ja (cS.e L.m (ja (jy (pv 4)) (ja (pv 3) jb))) jb)))))) jm) (jd (jv (j5 (pv 5)) (jg (jl (jh (ja (pv 5) (ja (cW.e L.m (ja (jy (pv 4)) (ja (pv 3) jb))) jb))))) jm) (jg (jl (jr j4 (jh (ja (pv 5) jb)) (cS.e L.m (ja (jL qh (pv 4) (jF jf) kK) (ja (pv 3) jb)))))))))))),?_]
 have b0:=aB
 obtain⟨a,ca,p0,cs,rfl,ha,_,h7,h8⟩:=hp.parts
 refine ak λi b=>#[_,Z,_,Z,_,Z,.ref a,n,hv,d,Y,c,is,Z,hp,hc,hh,hl,λC n0=>b _ _ ?_]
 clear b
 have S:ae H (af H C (.dK (cj (canon c.M) is))):=je n0
 have O:af H C (.dK (cj (canon c.M) is)) C=some (.dK (cj (canon c.M) is)):=jc
 show eZ _ _ _ _ (af H C (.dK (cj (canon c.M) is)))
 generalize af H C (.dK (cj (canon c.M) is))=H1 at S O
 have V:GT (cj (canon c.M) is):=J3 h0
 generalize cj (canon c.M) is=k at O V q
 have dk:=h2.mono (ae.tm S)
 refine ak λi b=>#[_,Z,_,Z,.ref a,n,d,Y,c,Z,hp.mono (ae.tm S),hc,λka na wa dv w0 cu=>#[ka,_,_,_,Z,Z,aA.of cu.at',ni,b _ _ ?_]]
 clear b
 have D:=cu.deed
 rw[<- h1]at D
 cases e with
 |ask t T=>
  obtain⟨_,p,xs,rfl,g,_,_,y0,z0,rfl,⟨rfl,_⟩,_,_,y1,z1,rfl,⟨rfl,_⟩,e⟩:=D
  have e:z1=[]:=e
  subst e
  refine ak λi b=>(js g gZ (b _ _ ?_))
  clear b
  refine ak λi b=>#[_,Z,Z,_,Z,bV Ig #[_,Z,js g ni #[_,Z,t,C,T,Y,k,Z,.inl dk.1,dk.2.2,dk.2.1,O,V,Z,_,Z,?_]]]
  by_cases z:T.ev k=0
  ·refine bV (by rw[z];decide+kernel) #[bG,λr G=>q _ _ (jH jc (jp Z kC (jp Z #[?_,Z] jE))) (S.trans (je G))]
   rw[DB z]
  ·refine aO (by rw[Dy];intro e;injection e with e;exact z e) #[bG,λr G=>q _ _ (jH jc (jp Z kC (jp Z #[?_,Z] jE))) (S.trans (je G))]
   rw[DC z]
 |st p l=>
  have ed:dv= .ref p:=D.1
  subst ed
  obtain⟨vs,g,I,B,h3⟩:=dk
  cases l with
  |rd x t T=>
   obtain⟨rfl,ht⟩:=I
   refine ak λi b=>(js g gZ (b _ _ ?_))
   clear b
   refine ak λi b=>#[_,Z,Z,_,Z,aO Ig (b _ _ ?_)]
   clear b
   refine ak λi b=>#[_,Z,Z,_,Z,aO Ig (b _ _ ?_)]
   clear b
   refine ak λi b=>#[_,Z,Z,_,Z,bV Ig #[_,Z,_,Z,p,_,_,_,Z,Z,aA.of g,jO (j:=2) Z,_,Z,t,C,T,Y,k,Z,.inl ht,B.2.2,B.2.1,O,V,bG,λr G=>?_]]
   exact q _ _ (jH jc (jp Z kC (jp Z qt jE))) (S.trans (je G))
  |wr t u T U=>
   obtain⟨rfl,ht,hu⟩:=I
   refine ak λi b=>(js g gZ (b _ _ ?_))
   clear b
   refine ak λi b=>#[_,Z,Z,_,Z,aO Ig (b _ _ ?_)]
   clear b
   refine ak λi b=>#[_,Z,Z,_,Z,aO Ig (b _ _ ?_)]
   clear b
   refine ak λi b=>#[_,Z,Z,_,Z,aO Ig (b _ _ ?_)]
   clear b
   refine#[_,Z,iR,λr1 N=>#[_,Z,1,Z,p,_,Z,je N _ _ g,λr2 H2 J R=>#[_,Z,r2,C,[(t,T),(u,U)],Y,k,Z,J,(by show 2<=6;decide),?_,R _ _ (je N _ _ O),V,λr3 H3 h4 s3=>#[r1,r3,_,_,Z,Z,s3 _ _ (R _ _ jc),h4,dP,λr4 H4 h5 s4=>?_]]]]
   ·intro y W
    have X:=(je (o:=.tup [.str "write"]) N).trans R
    simp only[EZ,DO,F']at W
    rcases W with rfl |rfl
    ·exact#[ht.same X,B.1]
    ·exact#[hu.same X,B.2]
   ·exact q _ _ (jH h5 (jp Z kC (jp Z qt (jp Z qt jE)))) (S.trans ((je N).trans (R.trans (s3.trans s4))))
  |cl x f' qa ts=>
   obtain⟨rfl,hq,h6⟩:=I
   refine ak λi b=>(js g gZ (b _ _ ?_))
   clear b
   refine ak λi b=>#[_,Z,Z,_,Z,aO Ig (b _ _ ?_)]
   clear b
   have l6:ts.length<=6:=B.2.1
   refine ak λi b=>#[_,Z,Z,_,Z,bV Ig #[_,Z,_,Z,p,_,_,_,Z,Z,aA.of g,jO (j:=2) Z,_,Z,p,_,_,_,Z,Z,aA.of g,jO (j:=3) Z,_,Z,qa,C,ts,Y,k,Z,hq,l6,λy W=>#[h6 y W,B.2.2 y W],O,V,λr2 H2 J R=>#[dP,λr G=>?_]]]
   refine q _ _ (jH jc (jp Z kC (jp Z kC (jp Z (jH (ao J G) ?_) jE)))) (S.trans (R.trans (je G)))
   have:=Qw (H:=af H2 r (.tup [.str "call",.str f',.ref r2])) (is:=ts.map λc=>c.2.ev k)
   rw[Fe,Fe]at this
   exact this
  |st x t T |gv t T=>cases h3
noncomputable abbrev iy:Stmt:=bn 34
noncomputable abbrev lE:Stmt:=bn 35
noncomputable abbrev iK:Stmt:=bn 36
noncomputable abbrev nZ:Stmt:=bL (bn 37) 0
noncomputable abbrev lY:Stmt:=bL (bn 37) 1
noncomputable abbrev pQ:Stmt:=bL (bn 37) 2
noncomputable abbrev il:Stmt:=bn 39
def yK(H:Hp)(x:V)(g:Str):Prop:=∃p r,x= .ref p/\H p=some (.tup (.str g::r))
def iX:Sp:=λb H Q _=>∃(a:Addr) (f:Str) (X:List V) (i:Nat) (v:V),b=[.ref a,.str f]/\H a=some (.tup X)/\X[i]?=some v/\yK H v f/\(∀j x,j < i->X[j]?=some x->∃g,yK H x g/\g≠f)/\Q v H
def io:Sp:=λd H Q _=>∃(a g:Addr) (f:Str) (X y:List V) (i:Nat) (v:V) (p b:Addr) (r c:List V),d=[.ref a,.str f,.ref g]/\H a=some (.tup X)/\X[i]?=some v/\v= .ref p/\H p=some (.tup (.str f:: .ref b::r))/\H b=some (.tup c)/\H g=some (.tup y)/\y.length=c.length/\(∀j x,j < i->X[j]?=some x->∃g,yK H x g/\g≠f)/\Q v H
noncomputable def gI(c l p:Addr)(m:Int)(t:Nat):List (Str×V):=[("cells",.ref c),("most",.int m),("left",.ref l),("turns",.int (t:Int)),("parts",.ref p)]
structure Rn(H:Hp)(C r dx cA lA pA:Addr)(m:Int)(t:Nat)(L Cs:b8):Prop where
 ins:H r=some (.ins C dx (gI cA lA pA m t))
 lf:H lA=some (.dK L)
 ce:H cA=some (.dK Cs)
 iL:GT L
 iC:GT Cs
 cl:cA≠lA
structure RK(K:Frag)(C:Addr):Prop where
 cl:mY K C
 n1:bj K C "cells"
 n2:bj K C "most"
 n3:bj K C "left"
 n4:bj K C "turns"
 n5:bj K C "parts"
def fQ(C:Addr):Sp:=λv H Q _=>∃(r d b l p:Addr) (m c:Int) (t:Nat) (L a:b8),v=[.ref r,.int c]/\Rn H C r d b l p m t L a/\Q (.int (look L (.inl c) (look a (.inl c) 0))) H
def lQ(C:Addr):Sp:=λv H Q _=>∃(r d c:Addr) (m:Int),v=[.ref r,.ref c,.int m]/\H r=some (.ins C d [])/\∀l,H l=none->Q .non (af (af H l (.dK [])) r (.ins C d [("cells",.ref c),("most",.int m),("left",.ref l),("turns",.int 0)]))
structure XM(K:Frag)(mg:Str->Option Value)(x:Str)(L:Addr):Prop where
 ex:excIn K L ny "ValueError.__new__"=true
 kp:keepIn K (.ref L)=true
 xc:oO K L
 ty:typeIn K (.ref L)=some (.type "type")
 m:mg x=some (.ref L)
def NX(o:HO):Prop:=∀a,o≠ .ext a
def Kp(H h:Hp):Prop:=∀b o,NX o->H b=some o->h b=some o
theorem Kp.of_same(s:ae H h):Kp H h:=λb o _ e=>s _ _ e
theorem Kp.trans(a:Kp H h)(b:Kp h d):Kp H d:=λc o n e=>b c o n (a c o n e)
def mx(E:XK):XK:=λC d H=>∀x T t c,C= .ref c->H x=some (fi c d T x)->H T=some (eN T)->H t=none->E (.ref c) d (af (af H t (eN t)) x (fi c d t x))
theorem zF{P:Program}{K:Frag}:cV (em P w) (eB (em P w) P w K mg base N q s f g A o a H E) (mx E):=
 sD λx C d T t i b c e h=>h x T t C Z b c e
theorem JL{H h:Hp}(e:h b=some o)(n:NX o)(a:h x=some (fi C d T x))(c:h t=none):af (af h t (eN t)) x (fi C d t x) b=some o:=by
 have N:b≠x:=λz=>by
  rw[z,a]at e
  injection e with e
  exact n _ e.symm
 rw[ji N,ji (jj e c)]
 exact e
def Fl(E:XK)(L:Addr)(R:Hp->Prop):Prop:=∀(_:Unit) H,R H->E (.ref L) none H
def hZ(C L:Addr):Sp:=λv H Q E=>∃(r d c l p:Addr) (m:Int) (t:Nat),v=[.ref r]/\H r=some (.ins C d (gI c l p m t))/\((t:Int) < m->Q .non (af H r (.ins C d (gI c l p m (t+1)))))/\(m<=(t:Int)->Fl E L (Kp H))
def eI(D:Addr):Sp:=λv H Q E=>∃d:Int,v=[.int d]/\(d < 15->Q (.int (d+1)) H)/\(15<=d->Fl E D (Kp H))
theorem Q3{H:Hp}(a:H x=none)(N:af H x (u6 L none x) T=none):ae H (af (af (af H x (u6 L none x)) T (eN T)) x (fi L d T x)):=by
 intro b o e
 have n:b≠x:=jj e a
 rw[ji n,ji (λz=>by rw[<- z,ji n,e]at N;cases N),ji n]
 exact e
theorem i6:aj ["ones","f","one"] ["ones","f"] (aa iy):=bo
theorem Zk(F:aJ K "named" "named" iy f D):ai P w K mg base ax 1 f D ["ones","f"] iX:=by
 refine F.ok i6 ?_ λG A o s H W Q E X h=>?_
 ·rintro _ _ _ _ ⟨a,f,xs,i,v,rfl,_⟩
  rfl
 refine aP λI b=>?_
 obtain⟨a,f,xs,i,v,rfl,t,u,L,d,q⟩:=h
 refine b ?_
 clear b
 refine#[_,(jd (ke D0 Z (zS (pv 0)) (ju (i:=2) i6.nd Z (Or.inl Z)) (jg (jv (jz Jl (jy (pv 2)) (pv 1) (aF _)) (jg (jl (pv 2))) jm))) (@ZO _ _)),?_]
 have M:i < xs.length:=(List.getElem?_eq_some_iff.mp u).1
 refine ak λY f1=>dU λJ j=>#[_,Z,a,Z,#[_,aA.of t],j _ _ ?_]
 clear j
 refine J7 (K:=K) (xs:=xs) (λk c e=>(∃O,c=[some (.ref a),some (.str f),O])/\e=H/\k<=i) #[#[_,Z],Z,Dt _] (λk c e _ h=>by rw[h.2.1];exact aA.of t) ?_ (λc e h=>?_)
 ·intro l R k x c H2 m N I b h
  obtain⟨⟨O,rfl⟩,rfl,y⟩:=h
  refine b ?_
  clear b
  by_cases S:k=i
  ·subst S
   rw[u]at m
   cases m
   obtain⟨p,r,rfl,n⟩:=id L
   show gu _ _ _ l _ _
   refine vE λT B C=>(js n gZ #[_,Z,Z,_,Z,?_])
   rw[DP (Z:V.str f=V.str f)]
   refine B _ ?_
   show gM _ l _ _
   unfold gM
   rw[R]
   exact#[_,Z,q]
  ·obtain⟨g,⟨p,r,rfl,n⟩,U⟩:=d k x Ic m
   show gu _ _ _ l _ _
   refine vE λT B C=>(js n gZ #[_,Z,Z,_,Z,?_])
   rw[Dy (λz=>U (by injection z))]
   exact C _ (N _ _ #[#[_,Z],Z,Ic])
 ·obtain⟨_,_,y⟩:=h
  exact absurd y Ic
theorem pN:aj ["parts","f"] ["parts","f"] (aa il):=bo
theorem Zl(F:aJ K "part_of" "part_of" il f c)(C:Cl P w K mg base 1 r d ["ones","f"] iX "named"):ai P w K mg base ax 2 f c ["parts","f"] iX:=by
 refine F.ok pN ?_ λg A o s H V Q E j h=>?_
 ·rintro _ _ _ _ ⟨a,f,x,i,v,rfl,_⟩
  rfl
 refine aP λG k=>?_
 obtain⟨a,f,x,i,v,rfl,l,n,p,b,q⟩:=h
 refine k ?_
 clear k
 refine#[_,(jg (jl (C.e j.m (ja (pv 0) (ja (pv 1) jb))))),?_]
 exact#[_,Z,_,Z,a,f,x,i,v,Z,l,n,p,b,q]
theorem mM:aj ["ones","f","args","one"] ["ones","f","args"] (aa lE):=bo
theorem oJ(F:aJ K "begun" "begun" lE f j)(C:Cl P w K mg base 1 N l ["ones","f"] iX "named")(M:mg "len"=none):ai P w K mg base ax 2 f j ["ones","f","args"] io:=by
 refine F.ok mM ?_ λn A o s H V Q E t h=>?_
 ·rintro _ _ _ _ ⟨a,g,f,x,y,i,v,p,c,r,u,rfl,_⟩
  rfl
 refine aP λO k=>?_
 obtain⟨a,g,f,x,y,i,v,p,c,r,u,rfl,z,B,rfl,d,D,G,I,J,q⟩:=h
 refine k ?_
 clear k
 refine#[_,(jd (jw 3 mM.nd (C.e t.m (ja (pv 0) (ja (pv 1) jb)))) (jd (jv (jz uT (jJ jK Z M Eu (ja (pv 2) jb)) (jJ jK Z M Eu (ja (jy (pv 3)) jb)) (aF _)) (@ZO _ _) jm) (jg (jl (pv 3))))),?_]
 refine ak λL b=>#[_,Z,_,Z,a,f,x,i,.ref p,Z,z,B,#[p,_,Z,d],J,b _ _ ?_]
 clear b
 refine ak λL b=>#[_,Z,g,_,Z,.inr (aA.of G),js d ni #[c,_,Z,.inr (aA.of D),Z,_,Z,aO (by rw[I];simp) (b _ _ #[_,Z,q])]]
theorem oV:aj ["deep"] ["deep"] (aa iK):=bo
theorem Zm(F:aJ K "deeper" "deeper" iK f a)(M:mg "DEEPEST"=some (.int 15 t))(X:XM K mg "TooDeep" D):ai P w K mg base (em P w) 1 f a ["deep"] (eI D):=by
 refine F.ok1 oV ?_ λC A o s H V Q E g h=>?_
 ·rintro _ _ _ _ ⟨d,rfl,_⟩
  rfl
 refine aP λG k=>?_
 obtain⟨d,rfl,q,e⟩:=h
 refine k ?_
 clear k
 refine#[_,(jd (jv (jz Zu (pv 0) (qD (v:=.int 15) Z M #[t,Z]) (aF _)) (jg (@QQ _ _ _ _ _ Z K8 (@K2 _ _ _ _ _ X.ex X.kp Z X.m Ib))) jm) (jg (jl (jr jV (pv 0) jf)))),?_]
 refine ak λi b=>#[_,Z,_,_,Z,Z,_,Z,?_]
 by_cases c:(15:Int)<=d
 ·refine bV (DP c) λx n=>?_
  exact#[x,D,none,Z,jc,X.xc,X.ty,λT N=>e c () _ (Kp.of_same (Q3 n N))]
 ·exact aO (Dy c) (b _ _ #[_,Z,_,_,Z,Z,q Ic])
theorem wf:aj ["self","cells","most"] ["self","cells","most"] (aa nZ):=bo
theorem tM(F:aJ K "__init__" "Turns.__init__" nZ f v)(c:RK K C):ai P w K mg base ax 1 f v ["self","cells","most"] (lQ C):=by
 refine F.ok wf ?_ λx A o s H V Q E B h=>?_
 ·rintro _ _ _ _ ⟨r,D,y,m,rfl,_⟩
  rfl
 refine aP λG k=>?_
 obtain⟨r,D,y,m,rfl,g,q⟩:=h
 refine k ?_
 clear k
 refine#[_,(jd (@qr _ _ _ _ _ _ _ _ (pv 0) (pv 1) Z) (jd (@qr _ _ _ _ _ _ _ _ (pv 0) (pv 2) Z) (jd (@qr _ _ _ _ _ _ _ _ (pv 0) zX Z) (jg (@qr _ _ _ _ _ _ _ _ (pv 0) jf Z))))),?_]
 refine ak λj a=>#[_,Z,_,Z,r,C,D,_,Z,g,c.cl,c.n1,Ib,a _ _ ?_]
 clear a
 refine ak λj a=>#[_,Z,_,Z,r,C,D,_,Z,jc,c.cl,c.n2,(by show 1 < 1000;decide),a _ _ ?_]
 clear a
 refine ak λj a=>λl n=>#[_,Z,r,C,D,_,Z,ao jc n,c.cl,c.n3,(by show 2 < 1000;decide),a _ _ ?_]
 clear a
 refine#[_,Z,r,C,D,_,Z,jc,c.cl,c.n4,(by show 3 < 1000;decide),?_]
 have N:l≠r:=λe=>by rw[e,jc]at n;cases n
 have z:H l=none:=by rw[ji N,ji N]at n;exact n
 have e:∀p t u O:HO,af (af (af (af (af H r p) r t) l (.dK [])) r u) r O=af (af H l (.dK [])) r O:=λp t u O=>by
  funext b
  by_cases d:b=r
  ·rw[d,jc,jc]
  ·rw[ji d,ji d,ji d]
   by_cases i:b=l
   ·rw[i,jc,jc]
   ·rw[ji i,ji d,ji d,ji i]
 rw[e]
 exact q l z
theorem ug:aj ["self"] ["self"] (aa lY):=bo
theorem pW(F:aJ K "take_turn" "Turns.take_turn" lY f g)(b:RK K C)(X:XM K mg "TooLong" L):ai P w K mg base (em P w) 1 f g ["self"] (hZ C L):=by
 refine F.ok1 ug ?_ λi A o s H v Q E y h=>?_
 ·rintro _ _ _ _ ⟨r,d,j,l,p,m,t,rfl,_⟩
  rfl
 refine aP λG k=>?_
 obtain⟨r,d,j,l,p,m,t,rfl,a,q,e⟩:=h
 refine k ?_
 clear k
 refine#[_,(jd (jv (jz Zu (ze (pv 0) Z) (ze (pv 0) Z) (aF _)) (jg (@QQ _ _ _ _ _ Z K8 (@K2 _ _ _ _ _ X.ex X.kp Z X.m Ib))) jm) (jg (@YH _ _ _ _ _ _ _ _ _ _ (pv 0) jf vO))),?_]
 refine ak λz n=>#[_,Z,r,C,d,_,_,Z,a,b.cl,b.n4,Z,_,Z,r,C,d,_,_,Z,a,b.cl,b.n2,Z,_,_,Z,Z,_,Z,?_]
 by_cases c:m<=(t:Int)
 ·refine bV (DP c) λx N=>?_
  exact#[x,L,none,Z,jc,X.xc,X.ty,λT u=>e c () _ (Kp.of_same (Q3 N u))]
 ·exact aO (Dy c) (n _ _ #[_,Z,r,C,d,_,_,Z,a,b.cl,b.n4,Z,_,_,Z,Z,d,_,a,(by show 5 < 1000;decide),q Ic])
theorem wT:aj ["self","cell"] ["self","cell"] (aa pQ):=bo
theorem uI(F:aJ K "number_in" "Turns.number_in" pQ f p)(b:RK K C):ai P w K mg base ax 1 f p ["self","cell"] (fQ C):=by
 refine F.ok wT ?_ λu A o s H V Q E g h=>?_
 ·rintro _ _ _ _ ⟨r,d,i,l,x,m,c,t,L,j,rfl,_⟩
  rfl
 refine aP λG n=>?_
 obtain⟨r,d,i,l,x,m,c,t,L,j,rfl,a,q⟩:=h
 refine n ?_
 clear n
 refine#[_,(jg (jl (kP (ZA (@vS _ _ _ _ _ (kG g) (pv 1) (ze (pv 0) Z))) (Qu (kG g) (ze (pv 0) Z) (pv 1) (λ_ _=>Z)) (@J5 _ _ _ _ _ _ _ _ _ (kG g) (ze (pv 0) Z) (pv 1) jf #[Ih,Ih,Ih,Ih])))),?_]
 refine#[_,Z,_,Z,r,C,d,_,_,Z,a.ins,b.cl,b.n3,Z,l,_,Z,en.k (k:=.inl c) a.lf,_,Z,?_]
 cases e:bQ L (.inl c) with
 |some v=>
  refine bV Z #[_,Z,r,C,d,_,_,Z,a.ins,b.cl,b.n3,Z,_,Z,l,v,Z,by rw[<- e];exact en.k (k:=.inl c) a.lf,?_]
  rw[Zc a.iL e (look j (.inl c) 0)]
  exact q
 |none=>
  refine aO Z #[_,Z,r,C,d,_,_,Z,a.ins,b.cl,b.n1,Z,i,Z,.inl #[_,.inl a.ce],_,Z,_,en.k (k:=.inl c) a.ce,?_]
  rw[J8 a.iC]
  rw[Zd e]at q
  exact q
noncomputable abbrev pK:Stmt:=bL (bn 49) 0
noncomputable abbrev sh:Stmt:=bL (bn 49) 1
noncomputable abbrev tO:Stmt:=bL (bn 49) 2
noncomputable abbrev wX:Stmt:=bn 50
inductive Sk where
 |nil |st (n:Int) (hs:List Int) (w r:Sk) |ask (b:Int) |rd (c i:Int) |wr (c i:Int) |cl (f:Str) (is:List Int) (s:Sk) (a:Int)
noncomputable def Sk.dep:Sk->Nat
 | .st _ _ w r=>max w.dep r.dep
 | .cl _ _ s _=>s.dep+1
 |_=>0
noncomputable def Sk.size:Sk->Nat
 | .st _ _ w r=>w.size+r.size+1
 | .cl _ _ s _=>s.size
 |_=>0
def Sk.ok:Bool->Sk->Prop
 |true,.nil=>True
 |true,.st _ _ w r=>w.ok false/\r.ok true
 |false,.cl _ _ s _=>s.ok true
 |false,.ask _=>True
 |false,.rd _ _=>True
 |false,.wr _ _=>True
 |_,_=>False
def eY(H:Hp):Sk->V->List V->Prop
 | .nil,_,x=>x=[]
 | .st n d w r,_,x=>∃p h u y,x= .ref p::y/\H p=some (.tup [.int n,.ref h,u])/\H h=some (.tup (d.map V.int))/\eY H w u []/\eY H r .non y
 | .ask b,u,_=>∃p,u= .ref p/\H p=some (.tup [.str "ask",.int b])
 | .rd c i,u,_=>∃p,u= .ref p/\H p=some (.tup [.str "read",.int c,.int i])
 | .wr c i,u,_=>∃p,u= .ref p/\H p=some (.tup [.str "write",.int c,.int i])
 | .cl f I s a,u,_=>∃p c g e S,u= .ref p/\H p=some (.tup [.str "call",.ref c])/\H c=some (.tup [.str f,.ref g,.ref e,.int a])/\H g=some (.tup (I.map V.int))/\H e=some (.tup S)/\eY H s .non S
theorem eY.mono(k:ah H i):∀{s:Sk} {u:V} {x:List V},eY H s u x->eY i s u x
 | .nil,_,_,h=>h
 | .st _ _ _ _,_,_,#[p,h,u,y,e,a,b,d,f]=>#[p,h,u,y,e,k _ _ a,k _ _ b,eY.mono k d,eY.mono k f]
 | .ask _,_,_,#[p,e,h]=>#[p,e,k _ _ h]
 | .rd _ _,_,_,#[p,e,h]=>#[p,e,k _ _ h]
 | .wr _ _,_,_,#[p,e,h]=>#[p,e,k _ _ h]
 | .cl _ _ _ _,_,_,#[p,c,g,e,S,E,a,b,d,f,j]=>#[p,c,g,e,S,E,k _ _ a,k _ _ b,k _ _ d,k _ _ f,eY.mono k j]
noncomputable def Sk.put(n:Int)(h:List Int)(W:Sk):Sk->Sk
 | .st a b c r=>.st a b c (Sk.put n h W r)
 |_=>.st n h W .nil
theorem Zy{H:Hp}{n:Int}{a:List Int}{w:Sk}{p h:Addr}{u:V}(b:H p=some (.tup [.int n,.ref h,u]))(c:H h=some (.tup (a.map V.int)))(d:eY H w u []):∀{s:Sk} {x:List V},s.ok true->eY H s .non x->eY H (Sk.put n a w s) .non (x++[.ref p])
 | .nil,_,_,e=>by have e:_=[]:=e;rw[e];exact#[p,h,u,[],Z,b,c,d,Z]
 | .st _ _ _ r,_,o,#[f,g,U,y,e,i,j,k,l]=>by rw[e];exact#[f,g,U,y++[.ref p],Z,i,j,k,Zy b c d o.2 l]
theorem Qx{w:Sk}(h:w.ok false):∀{s:Sk},s.ok true->(Sk.put n H w s).ok true
 | .nil,_=>#[h,DR]
 | .st _ _ _ _,o=>#[o.1,Qx h o.2]
theorem J9{n:Int}{hs:List Int}{w:Sk}:∀{s:Sk},s.ok true->(Sk.put n hs w s).size=s.size+(w.size+1)
 | .nil,_=>by show w.size+0+1=0+(w.size+1);omega
 | .st _ _ c r,o=>by have:=J9 (n:=n) (hs:=hs) (w:=w) (s:=r) o.2;show c.size+(Sk.put n hs w r).size+1=c.size+r.size+1+(w.size+1);omega
theorem Qy{n:Int}{hs:List Int}{w:Sk}{j:Nat}(H:w.dep<=j):∀{s:Sk},s.ok true->s.dep<=j->(Sk.put n hs w s).dep<=j
 | .nil,_,_=>by show max w.dep 0<=j;omega
 | .st _ _ c r,o,h=>by have h:max c.dep r.dep<=j:=h;have:=Qy (n:=n) (hs:=hs) H (s:=r) o.2 Ic;show max c.dep (Sk.put n hs w r).dep<=j;omega
theorem Xp:∀{s:Sk} {x:List V},s.ok true->eY H s .non x->x.length<=s.size
 | .nil,_,_,e=>by have e:_=[]:=e;rw[e];exact Dk 0
 | .st _ _ w r,_,o,#[_,_,_,y,e,_,_,_,h]=>by have:=Xp o.2 h;rw[e];show y.length+1<=w.size+r.size+1;omega
def ll(H:Hp)(f:Str)(i:List Int)(s:Sk)(a:Int)(u:V):Prop:=∃c g e S,u= .ref c/\H c=some (.tup [.str f,.ref g,.ref e,.int a])/\H g=some (.tup (i.map V.int))/\H e=some (.tup S)/\eY H s .non S
noncomputable def Sk.wh:Sk->Wh
 | .ask b=>.ask b
 | .rd c i=>.rd c i
 | .wr c i=>.wr c i
 | .cl f I _ a=>.cl f I a
 |_=>.ask 0
theorem Cj{s:Sk}(o:s.ok false)(h:eY H s u []):yz H u s.wh:=by
 cases s with
 |nil |st=>exact o.elim
 |ask b |rd c i |wr c i=>exact h
 |cl f I s a=>obtain⟨p,c,g,e,S,E,d,j,k,_⟩:=h;exact#[p,c,g,.ref e,E,d,j,k]
structure Ps(H:Hp)(nA pA:Addr)(ds:List Df)(ns:List Nat)(xs:List V):Prop where
 at':H pA=some (.tup xs)
 tr:a9 H (aR (ds.map (eA nA))) .non xs
 dv:∃zs,b6 H ds zs
 ok:tV ds ns
 pa:lh H ds ns
theorem Ps.mono(h:Ps H n p d N x)(k:ah H a):Ps a n p d N x:=#[k _ _ h.at',h.tr.mono k,let #[b,z]:=h.dv;#[b,z.mono k],h.ok,h.pa.mono k]
theorem Yx(h:a9 H (eA n d) v []):yK H v d.f:=by
 obtain⟨_,a,x,rfl,b,_,_,Y,y,rfl,⟨rfl,_⟩,_⟩:=h
 exact#[a,_,Z,b]
theorem vj:∀{D:List Df} {z:List V},b6 H D z->∀{i:Nat} {d:Df},D[i]?=some d->∃B,c8 H d.b B
 |_::_,_,#[u,r,e,#[B,_,_,_,h],c],0,d,a=>by cases a;exact#[B,h]
 |_::_,_,#[u,r,e,_,c],i+1,d,a=>vj c (by simpa using a)
section
variable {H:Hp}{nA pA:Addr}{ds:List Df}{ns:List Nat}{xs:List V}
theorem Ps.part(h:Ps H nA pA ds ns xs){i:Nat}{d:Df}{v:V}(a:ds[i]?=some d)(c:xs[i]?=some v):∃y,lu H nA d y v:=by
 obtain⟨T,b,t⟩:=Jb h.tr i v c
 rw[DE,a]at b
 cases b
 obtain⟨z,e⟩:=h.dv
 obtain⟨⟨y,Y,o⟩,_,s⟩:=(h.ok.1 d (Dx a)).1
 exact#[y,t,vj e a,o,Y,s]
theorem Ps.cs(h:Ps H nA pA ds ns xs){i:Nat}{d:Df}(a:ds[i]?=some d):∀f∈d.b.calls,f∈(ds.map Df.f).zip ns:=zn (h.ok.1 d (Dx a)).2
theorem Ps.at(h:Ps H nA pA ds ns xs){i:Nat}(b:ds[i]?=some d):∃v,xs[i]?=some v/\a9 H (eA nA d) v []/\yK H v d.f/\∀j x,j < i->xs[j]?=some x->∃g,yK H x g/\g≠d.f:=by
 have L:=zq h.tr
 rw[Di]at L
 have r:i < ds.length:=(List.getElem?_eq_some_iff.mp b).1
 have t:∀(j:Nat) (x:V),xs[j]?=some x->∃c,ds[j]?=some c/\a9 H (eA nA c) x []:=λj x k=>by
  obtain⟨s,m,t⟩:=Jb h.tr j x k
  rw[DE]at m
  obtain⟨c,a,rfl⟩:=Option.map_eq_some_iff.mp m
  exact#[c,a,t]
 have n:xs[i]?=some (xs[i]'Ic):=Dh Ic
 obtain⟨c,a,T⟩:=t _ _ n
 rw[b]at a
 cases a
 refine#[_,n,T,Yx T,λj x u k=>?_]
 obtain⟨c,a,q⟩:=t j x k
 refine#[c.f,Yx q,λe=>?_]
 have o:(ds.map Df.f)[j]?=some c.f:=by rw[DE,a];rfl
 have p:(ds.map Df.f)[i]?=some d.f:=by rw[DE,b];rfl
 rw[<- e]at p
 have l:j < (ds.map Df.f).length:=(List.getElem?_eq_some_iff.mp o).1
 have:=(List.getElem?_inj l h.ok.2.1).mp (o.trans p.symm)
 omega
theorem Ps.find(h:Ps H nA pA ds ns xs)(a:(f,n)∈(ds.map Df.f).zip ns):∃(i:Nat) (d:Df),ds[i]?=some d/\ns[i]?=some n/\d.f=f:=by
 obtain⟨i,b,e⟩:=List.mem_iff_getElem.mp a
 have E:((ds.map Df.f).zip ns)[i]?=some (f,n):=by rw[<- e];exact Dh b
 rw[HP]at E
 rw[DE]at E
 obtain⟨d,c,g⟩:=Option.map_eq_some_iff.mp E.1
 exact#[i,d,c,E.2,g]
end
theorem Rn.tm(h:Rn H C r d c l p m t L f)(k:aH r l H a):ah H a:=λb x e=>k b _ (jI e h.ins (by intro z;cases z)) (jI e h.lf (by intro z;cases z)) e
theorem Rn.same(h:Rn H C r d c l p m t L a)(s:ae H b):Rn b C r d c l p m t L a:=#[s _ _ h.ins,s _ _ h.lf,s _ _ h.ce,h.iL,h.iC,h.cl]
theorem Rn.rl(h:Rn H C r d c l p m t L a):r≠l/\r≠c:=#[jI h.ins h.lf (by intro z;cases z),jI h.ins h.ce (by intro z;cases z)]
def yI(r l:Addr)(H h:Hp):Prop:=∀b o,b≠r->b≠l->NX o->H b=some o->h b=some o
theorem Fl.next(h:Fl E L (yI r l H)):Fl (mx E) L (yI r l H):=λd i k x T t c e a j f=>by
 cases e
 exact h d _ λb o N g n e=>JL (H:=H) (k b o N g n e) n a f
theorem Fl.nextK(h:Fl E L (Kp H)):Fl (mx E) L (Kp H):=λd g k x T t c e a i f=>by
 cases e
 exact h d _ λb o n e=>JL (H:=H) (k b o n e) n a f
theorem Fl.mono{R S:Hp->Prop}(h:Fl E L R)(k:∀H,S H->R H):Fl E L S:=λd H s=>h d H (k H s)
def me(C:Addr):Sp:=λv H Q _=>∃(r d p c:Addr) (m:Int),v=[.ref r,.ref p,.ref c,.int m]/\H r=some (.ins C d [])/\∀l,H l=none->Q .non (af (af H l (.dK [])) r (.ins C d (gI c l p m 0)))
def nF(E:XK)(T t:Addr)(R:Hp->Prop):Prop:=Fl E T R/\Fl E t R
theorem nF.mono{R S:Hp->Prop}(h:nF E T t R)(k:∀H,S H->R H):nF E T t S:=#[h.1.mono k,h.2.mono k]
theorem nF.next(h:nF E T t (yI r l H)):nF (mx E) T t (yI r l H):=#[h.1.next,h.2.next]
def dO(C T m N:Addr)(j:Nat):Sp:=λo H Q E=>∃(r b c l p A:Addr) (D t i:Nat) (L e:b8) (v:V) (d:Df) (g:List Df) (n:List Nat) (x:List V) (I:List Int),o=[.ref r,v,.ref A,.int (D:Int)]/\D+j=16/\1<=j/\Rn H C r b c l p 60 t L e/\L.length<=t/\t<=60/\Ps H N p g n x/\g[i]?=some d/\n[i]?=some I.length/\x[i]?=some v/\H A=some (.tup (I.map V.int))/\(∀z∈I,ff z)/\
 (∀(u:V) (s:Sk) (a:Int) (k:b8) (h:Hp),ll h d.f I s a u->s.ok true->s.dep+1<=j->ff a->Rn h C r b c l p 60 (t+s.size) k e->k.length<=t+s.size->t+s.size<=60->aH r l H h->Q u h)/\nF E T m (yI r l H)
def oX(C T i N:Addr)(j:Nat):Sp:=λm H Q E=>∃(r D c l p:Addr) (d t:Nat) (L a k:b8) (u:V) (e:DD) (y:List Str) (b:List Df) (n:List Nat) (x:List V),m=[.ref r,u,.int (d:Int)]/\d+j=15/\Rn H C r D c l p 60 t L a/\L.length<=t/\t<=60/\Ps H N p b n x/\a9 H (CG k e) u []/\xR H y e/\GT k/\e.Cs ((b.map Df.f).zip n)/\
 (∀(w:Sk) (v:V) (g:b8) (h:Hp),eY h w v []->w.ok false->Bl e w.wh->w.dep<=j->Rn h C r D c l p 60 (t+1+w.size) g a->g.length<=t+1+w.size->t+1+w.size<=60->aH r l H h->Q v h)/\nF E T i (yI r l H)
theorem yh:aj ["self","parts","cells","most"] ["self","parts","cells","most"] (aa pK):=bo
theorem uq(F:aJ K "__init__" "BookRun.__init__" pK f t)(j:RK K C)(GT:ai P w K mg base ax 1 u c ["self","cells","most"] (lQ C))(B:aw K c ["self","cells","most"] [])(M:mg "Turns"=some (.ref T))(v:yb K T "__init__" u):ai P w K mg base ax 2 f t ["self","parts","cells","most"] (me C):=by
 refine F.ok yh ?_ λx A o s H V Q E y h=>?_
 ·rintro _ _ _ _ ⟨r,d,z,k,m,rfl,_⟩
  rfl
 refine aP λG l=>?_
 obtain⟨r,d,z,k,m,rfl,g,q⟩:=h
 refine l ?_
 clear l
 refine#[_,(jd (jN (@uJ _ _ _ _ _ _ _ _ _ _ _ _ _ _ _ _ _ _ _ _ Z M v GT y.m B .nil bh (ja (pv 0) (ja (pv 2) (ja (pv 3) jb))) Ib Ih Ih Ih)) (jg (@qr _ _ _ _ _ _ _ _ (pv 0) (pv 1) Z))),?_]
 refine ak λD n=>#[_,Z,_,Z,_,Z,r,d,k,m,Z,g,λL N=>n _ _ ?_]
 clear n
 refine#[_,Z,_,Z,r,C,d,_,Z,jc,j.cl,j.n5,(by show 4 < 1000;decide),?_]
 have e:∀(i:Hp) (p O:HO),af (af i r p) r O=af i r O:=λi p O=>by
  funext b
  by_cases a:b=r
  ·rw[a,jc,jc]
  ·rw[ji a,ji a,ji a]
 rw[e]
 exact q L N
theorem JM(h:a9 H (bJ t) u []):∃a x,u= .ref a/\H a=some (.tup x)/\a9 H (aR t) .non x:=let #[_,a,x,e,b,c]:=h;#[a,x,e,b,c]
theorem zI(h:a9 H (aR (t::T)) .non x):∃y Y,x=y::Y/\a9 H t y []/\a9 H (aR T) .non Y:=let #[_,_,y,Y,e,a,b]:=h;#[y,Y,e,a,b]
theorem Yy(h:a9 H (cp x) y []):y= .str x:=h.1
theorem JN(h:a9 H (cX n) y []):y= .int n:=h.1
theorem Ka:∀{I:List Int} {v:List V},a9 H (aR (I.map cX)) .non v->v=I.map V.int
 | [],v,h=>h
 |i::I,v,h=>by obtain⟨y,Y,rfl,a,b⟩:=zI h;rw[JN a,Ka b];rfl
theorem Qz{H:Hp}{w:Str}{t:List Tr}{u:V}(h:a9 H (bJ (cp w::t)) u []):∃a x,u= .ref a/\H a=some (.tup (.str w::x))/\a9 H (aR t) .non x:=by
 obtain⟨a,x,rfl,b,h⟩:=JM h
 obtain⟨y,Y,rfl,c,d⟩:=zI h
 rw[Yy c]at b
 exact#[a,Y,Z,b,d]
theorem Qp{H:Hp}{w:Str}{i:Int}{u:V}(h:a9 H (bJ [cp w,cX i]) u []):∃a,u= .ref a/\H a=some (.tup [.str w,.int i]):=by
 obtain⟨a,x,rfl,b,h⟩:=Qz h
 obtain⟨y,Y,rfl,c,d⟩:=zI h
 have e:Y=[]:=d
 rw[JN c,e]at b
 exact#[a,Z,b]
theorem ZY{H:Hp}{w:Str}{i:Int}{t:Tr}{u:V}(h:a9 H (bJ [cp w,cX i,t]) u []):∃a y,u= .ref a/\H a=some (.tup [.str w,.int i,y])/\a9 H t y []:=by
 obtain⟨a,x,rfl,b,h⟩:=Qz h
 obtain⟨y,Y,rfl,c,d⟩:=zI h
 obtain⟨z,f,rfl,g,j⟩:=zI d
 have e:f=[]:=j
 rw[JN c,e]at b
 exact#[a,z,Z,b,g]
theorem yP:aj ["self","deed","deep"] ["self","deed","deep"] (aa tO):=bo
theorem wM(F:aJ K "what_of" "BookRun.what_of" tO f fd)(ck:RK K C)(GT:ai P w K mg base (em P w) 1 fT f0 ["self"] (hZ C TL))(bT:aw K f0 ["self"] [])(m0:bK K C "take_turn" fT)(GI:ai P w K mg base ax 1 fI f2 ["self","cell"] (fQ C))(bI:aw K f2 ["self","cell"] [])(m1:bK K C "number_in" fI)(GD:ai P w K mg base (em P w) 1 fD f3 ["deep"] (eI TD))(bD:aw K f3 ["deep"] [])(kD:keepIn K (.ref fD)=true)(mD:mg "deeper"=some (.ref fD))(cP:Cl P w K mg base 2 fP f6 ["parts","f"] iX "part_of")(GC:ai P w K mg base (em P w) (2*j+12) fC f4 ["self","part","args","deep"] (dO C TL TD nA j))(bC:aw K f4 ["self","part","args","deep"] [])(m2:bK K C "chain_of" fC):ai P w K mg base (em P w) (2*j+13) f fd ["self","deed","deep"] (oX C TL TD nA j):=by
 refine F.ok1 yP ?_ λc5 A o2 s H vs Q E hr h=>?_
 ·rintro _ _ _ _ ⟨r,D,W,I,O,M,t,L,Cs,k,u,e,ys,ds,ns,X,rfl,_⟩
  rfl
 refine aP λGq kq=>?_
 obtain⟨r,D,W,I,O,M,t,L,Cs,k,u,e,ys,ds,ns,X,rfl,h4,J,h5,ht,hP,B,h0,hk,h1,q,t0⟩:=h
 refine kq ?_
 clear kq
 refine#[_,(jd (jN (Z7 (pv 0) ck.cl m0 GT hr.m bT .nil zF)) (jd (jv (j5 (jy (pv 1))) (jg (jl (jh (ja jk (ja (jy (pv 1)) (ja (kJ (pv 0) ck.cl m1 GI hr.m bI .nil bh (ja (jy (pv 1)) jb)) jb)))))) jm) (jd (jv (j5 (jy (pv 1))) (jg (jl (jh (ja jk (ja (kJ (pv 0) ck.cl m2 GC hr.m bC .nil zF (ja (cP.e hr.m (ja (ze (pv 0) Z) (ja (jy (pv 1)) jb))) (ja (jy (pv 1)) (ja (kl GD hr.m Z mD kD bD .nil zF (ja (pv 2) jb)) jb)))) jb))))) jm) (jd (jv (j5 (jy (pv 1))) (jg (zH (kG hr) (ze (pv 0) Z) (jy (pv 1)) (jy (pv 1)) Z)) jm) (jg (jl (pv 1))))))),?_]
 have b0:=aB
 refine ak λY n=>#[_,Z,r,D,_,Z,J.ins,Z,r,D,W,I,O,60,t,Z,J.ins,λlt=>n _ _ ?_,λge=>(t0.1.mono λH' kk=>λb o _ _ nx e=>kk b o nx e).nextK]
 clear n
 have t1:ah H (af H r (.ins C D (gI W I O 60 (t+1)))):=λb X e=>by rw[ji (jI e J.ins (by intro z;cases z))];exact e
 have R:Rn (af H r (.ins C D (gI W I O 60 (t+1)))) C r D W I O 60 (t+1) L Cs:=#[jc,by rw[ji J.rl.1.symm];exact J.lf,by rw[ji J.rl.2.symm];exact J.ce,J.iL,J.iC,J.cl]
 have k1:aH r I H (af H r (.ins C D (gI W I O 60 (t+1)))):=λb o n1 n2 e=>by rw[ji n1];exact e
 generalize af H r (.ins C D (gI W I O 60 (t+1)))=H1 at t1 R k1
 have B:=B.mono t1
 have lt':t+1<=60:=by omega
 have f5:∀(w:Sk) (X:List V) (S:Hp) (v:Addr),S v=none->eY (af S v (.tup X)) w (.ref v) []->w.ok false->Bl e w.wh->w.size=0->w.dep<=j->H1=S->Q (.ref v) (af S v (.tup X)):=λw X S v nv hw ok ft sz dp e2=>by
  subst e2
  exact q w _ L _ hw ok ft dp (by rw[sz];exact R.same (je nv)) Ic Ic (k1.trans (aH.of_same (je nv)))
 cases e with
 |ask ta T=>
  obtain⟨p,rfl,G⟩:=Qp B
  refine ak λY n=>(js G Z #[Z,_,Z,aO Ig (n _ _ ?_)])
  clear n
  refine ak λY n=>(js G Z #[Z,_,Z,aO Ig (n _ _ ?_)])
  clear n
  refine ak λY n=>(js G Z #[Z,_,Z,aO Ig (n _ _ ?_)])
  clear n
  refine#[_,Z,q (.ask (if T.ev k=0 then 0 else 1)) _ L _ #[p,Z,G] DR ?_ (Dt _) R (by show L.length<=t+1+0;omega) lt' k1]
  show(if T.ev k=0 then (0:Int) else 1)=0∨(if T.ev k=0 then (0:Int) else 1)=1
  split
  ·exact .inl Z
  ·exact .inr Z
 |st p0 l=>
  obtain⟨vs,_,h6,o1,c0⟩:=h0
  cases l with
  |gv ta T |st x ta T=>cases c0
  |rd x ta T=>
   obtain⟨p,rfl,G⟩:=Qp B
   refine ak λY n=>(js G Z #[Z,_,Z,bV Ig (js G Z #[_,Z,r,D,_,Z,R.ins,Z,js G Z #[r,D,W,I,O,60,_,_,_,_,Z,R,dP,λv nv=>?_]])])
   exact f5 (.rd (T.ev k) (look L (.inl (T.ev k)) (look Cs (.inl (T.ev k)) 0))) _ _ v nv #[v,Z,jc] DR (JJ R.iL (JJ R.iC JK)) Z (Dt _) Z
  |wr ta ub T U=>
   obtain⟨p,y,rfl,G,hy⟩:=ZY B
   rw[JN hy]at G
   refine ak λY n=>(js G Z #[Z,_,Z,aO Ig (n _ _ ?_)])
   clear n
   refine ak λY n=>(js G Z #[Z,_,Z,aO Ig (n _ _ ?_)])
   clear n
   refine ak λY n=>(js G Z #[Z,_,Z,bV Ig (js G Z #[_,Z,r,C,D,_,_,Z,R.ins,ck.cl,ck.n3,Z,js G Z #[I,_,Z,iI.k (k:=.inl (T.ev k)) R.lf Ic,n _ _ ?_]])])
   clear n
   have pl:=zZ (kvs:=L) (k:=.inl (T.ev k)) (v:=.int (U.ev k))
   have t3:ah H1 (af H1 I (.dK (aV L (.inl (T.ev k)) (.int (U.ev k))))):=λb X e=>by rw[ji (jI e R.lf (by intro z;cases z))];exact e
   refine#[_,Z,q (.wr (T.ev k) (U.ev k)) _ (aV L (.inl (T.ev k)) (.int (U.ev k))) _ #[p,Z,t3 _ _ G] DR DR (Dt _) #[by rw[ji J.rl.1];exact R.ins,jc,by rw[ji J.cl];exact R.ce,R.iL.put _ (Jo hk o1.2.1),R.iC,R.cl] (by show _<=t+1+0;omega) lt' λb o n1 n2 e=>?_]
   rw[ji n2]
   exact k1 b o n1 n2 e
  |cl x f q' ts=>
   obtain⟨p,y3,rfl,G,hy⟩:=Qz B
   obtain⟨y1,y5,rfl,e1,hy⟩:=zI hy
   obtain⟨y2,y0,rfl,e2,hy⟩:=zI hy
   have e3:y0=[]:=hy
   subst e3
   rw[Yy e1]at G
   obtain⟨ag,a0,rfl,ha,N⟩:=JM e2
   have N:a9 H1 (aR ((ts.map λc=>c.2.ev k).map cX)) .non a0:=by rw[Fe];exact N
   rw[Ka N]at ha
   obtain⟨i,d,hd,hn,rfl⟩:=hP.find h1
   have P1:=hP.mono t1
   obtain⟨v,hv,_,h2,h3⟩:=P1.at hd
   refine ak λY n=>(js G Z #[Z,_,Z,aO Ig (n _ _ ?_)])
   clear n
   refine ak λY n=>(js G Z #[Z,_,Z,bV Ig ?_])
   clear n
   refine#[_,Z,r,D,_,Z,R.ins,Z,_,Z,r,C,D,_,_,Z,R.ins,ck.cl,ck.n5,Z,js G Z #[O,d.f,X,i,v,Z,P1.at',hv,h2,h3,js G Z #[_,Z,(M:Int),Z,λdl=>?_,λdg=>(t0.2.mono λS kk=>λb o n1 n2 nx e=>kk b o nx (k1 b o n1 n2 e)).nextK]]]
   refine#[r,D,W,I,O,ag,M+1,t+1,i,L,Cs,v,d,ds,ns,X,ts.map λc=>c.2.ev k,Z,Ic,Ic,R,Ic,lt',P1,hd,by rw[Di];exact hn,hv,ha,λz hz=>?_,λu sk a L' S hc ok dp ia R2 l2 t2 k2=>?_,nF.next (t0.mono λS kk=>λb o n1 n2 nx e=>kk b o n1 n2 nx (k1 b o n1 n2 e))]
   ·obtain⟨c,hc,rfl⟩:=List.mem_map.mp hz
    exact Jo hk (o1.2.2 c hc).1
   ·obtain⟨c,g,ee,ss,rfl,c1,c2,c3,c4⟩:=hc
    refine#[bG,λv2 nv=>?_]
    have s2:ae S (af S v2 (.tup [.str "call",.ref c])):=je nv
    refine q (.cl d.f (ts.map λc=>c.2.ev k) sk a) _ L' _ #[v2,c,g,ee,ss,Z,jc,s2 _ _ c1,s2 _ _ c2,s2 _ _ c3,c4.mono (ae.tm s2)] ok ia (by show sk.dep+1<=j;omega) (R2.same s2) l2 t2 ((k1.trans k2).trans (aH.of_same s2))
theorem wL:dn (s++[x]) (-1)=some x:=by
 have l:(s++[x]).length=s.length+1:=by rw[Dj];rfl
 unfold dn lT
 rw[l,DC Ic,DB Ic]
 have e:(-1+((s.length+1:Nat):Int)).toNat=s.length:=by omega
 show(s++[x])[(-1+((s.length+1:Nat):Int)).toNat]?=_
 rw[e]
 simp
inductive Cu(H:Hp)(nA:Addr)(d:Df)(u:V):Prop
 |give (p:Addr) (a:Int) (e:u= .ref p) (h:H p=some (.tup [.str "give",.int a])) (i:ff a)
 |go (p hv:Addr) (n:Nat) (c:Ct) (is:List Int) (e:u= .ref p) (h:H p=some (.tup [.str "go",.int (n:Int),.ref hv])) (h2:H hv=some (.tup (is.map V.int))) (hc:(bN nA d)[n]?=some c) (hl:is.length=(canon c.M).length) (hi:∀i∈is,ff i)
theorem ZZ{H:Hp}(h:a9 f (pO (eu N d) k g) u [])(j:GT k)(l:Aw H Y d.b.cuts g):Cu f N d u:=by
 cases g with
 |give t T=>obtain⟨p,e,h⟩:=Qp h;exact .give p _ e h (Jo j l.2.1)
 |nought=>obtain⟨p,e,h⟩:=Qp h;exact .give p 0 e h JK
 |go n=>
  obtain⟨p,y,e,h,q⟩:=ZY h
  obtain⟨a,X,rfl,m,c⟩:=JM q
  have r:n < (bN N d).length:=by rw[Yt];exact l
  have o:(bN N d)[n]?=some (bN N d)[n]:=Dh r
  have c:a9 f (aR (((eu N d n).map λx=>look k (.inr x) 0).map cX)) .non X:=by rw[Fe];exact c
  rw[Ka c]at m
  refine .go p a n _ _ e h m o (by rw[Di,ZW o]) λi s=>?_
  obtain⟨x,_,rfl⟩:=List.mem_map.mp s
  exact JJ j JK
inductive CI(C r dx cA lA pA ag sl nA:Addr)(deep t j:Nat)(Cs:b8)(v:V)(d:Df)(H:Hp)(kk:Nat)(σ:L2.St)(H':Hp):Prop
 |mk (o6:Option V) (u:V) (sk:Sk) (ss:List V) (L:b8) (e0:σ=[some (.ref r),some v,some (.ref ag),some (.int (deep:Int)),some (.ref sl),some u,o6]) (e1:H' sl=some (.lst ss)) (e2:eY H' sk .non ss) (e3:sk.ok true) (e4:sk.dep+1<=j) (e5:Cu H' nA d u) (e6:Rn H' C r dx cA lA pA 60 (t+sk.size) L Cs) (e7:L.length<=t+sk.size) (e8:t+sk.size<=60) (e9:aH r lA H H') (e10:kk+t+sk.size=61):CI C r dx cA lA pA ag sl nA deep t j Cs v d H kk σ H'
theorem iW:aj ["self","part","args","deep","steps","goal","what"] ["self","part","args","deep"] (aa sh):=bo
theorem wW(F:aJ K "chain_of" "BookRun.chain_of" sh f fd)(ck:RK K C)(cF:Cl P w K mg base 9 fF f2 ["part","args"] (fX nA) "first_of")(cD:Cl P w K mg base 9 fD f3 ["part","n","held"] (f8 nA) "deed_at")(cO:Cl P w K mg base 9 fO f4 ["part","step"] (t6 nA) "onward")(GW:ai P w K mg base (em P w) (2*j+13) fW f0 ["self","deed","deep"] (oX C TL TD nA j))(bW:aw K f0 ["self","deed","deep"] [])(m0:bK K C "what_of" fW)(m1:mg "tuple"=none):ai P w K mg base (em P w) (2*j+14) f fd ["self","part","args","deep"] (dO C TL TD nA (j+1)):=by
 refine F.ok1 iW ?_ λc0 A o2 s H vs Q E hr h=>?_
 ·rintro _ _ _ _ ⟨r,dx,cA,lA,pA,ag,G,t,i,L,Cs,v,d,ds,ns,xs,is,rfl,_⟩
  rfl
 refine aP λGq kq=>?_
 obtain⟨r,dx,cA,lA,pA,ag,G,t,i,L,Cs,v,d,ds,ns,xs,is,rfl,a',_,hR,h7,ht,hP,hd,hn,hv,ha,h2,q,t2⟩:=h
 refine kq ?_
 clear kq
 refine#[_,(jd (jw 4 iW.nd (jC jb)) (jd (jw 5 iW.nd (cF.e hr.m (ja (pv 1) (ja (pv 2) jb)))) (jd (QO PassesOwn.leaving (j5 (jy (pv 5))) (jd (jw 6 iW.nd (kJ (pv 0) ck.cl m0 GW hr.m bW .nil zF (ja (cD.e hr.m (ja (pv 1) (ja (jy (pv 5)) (ja (jy (pv 5)) jb)))) (ja (pv 3) jb)))) (jd (jN (kh PySem.F.plainAttrs_list PySem.F.slot_list_append PySem.F.type_list_append jP (pv 4) (ja (jh (ja (jy (pv 5)) (ja (jy (pv 5)) (ja (pv 6) jb)))) jb))) (jg (jw 5 iW.nd (cO.e hr.m (ja (pv 1) (ja (jq jo (pv 4) (uP ZE jf) (λ_ _=>Z)) jb)))))))) (jg (jl (jh (ja (jy (pv 1)) (ja (pv 2) (ja (jB jA Z m1 boot_tuple (ja (pv 4) jb)) (ja (jy (pv 5)) jb)))))))))),?_]
 have b0:=aB
 obtain⟨ys,O⟩:=hP.part hd hv
 obtain⟨ps,h8,h',a1⟩:=hP.pa.2 i d _ hd hn
 refine ak λF1 y=>#[gQ,λS N=>y _ _ ?_]
 clear y
 have s1:ae H (af H S (.lst [])):=je N
 have l1:af H S (.lst []) S=some (.lst []):=jc
 generalize af H S (.lst [])=H1 at s1 l1 ⊢
 obtain⟨wd,e1,h0⟩:=O.way
 refine ak λF1 y=>#[_,Z,_,Z,v,ag,d,ys,ps,is,wd,Z,O.mono (ae.tm s1),s1 _ _ h8,Ic,s1 _ _ ha,h'.symm,h2,e1,h0.mono (ae.tm s1),λu H2 hu s2=>y _ _ ?_]
 clear y
 have S2:=s1.trans s2
 have gz:GT (cj ps is):=J3 h2
 have g0:=ZZ (H:=H) hu (qJ h0.sets gz) h0.goal
 have s0:S≠r:=Ne.symm (jj hR.ins N)
 have s3:S≠lA:=Ne.symm (jj hR.lf N)
 have s9:cA≠S:=jj hR.ce N
 refine ak λF1 y=>?_
 refine oE (CI C r dx cA lA pA ag S nA G t (j+1) Cs v d H) (61 - t) #[none,u,.nil,[],L,Z,s2 _ _ l1,Z,trivial,by show 0+1<=j+1;omega,g0,hR.same S2,h7,ht,aH.of_same S2,by show 61 - t+t+0=61;omega] ?_
 intro kk σ H3 E' rt fE F kT cF.k Gq kq hW
 obtain⟨o6,u,sk,D,L1,rfl,w1,w2,w3,w4,w5,w6,w7,w8,w9,b1⟩:=hW
 have R:=hR.tm w9
 have P3:=hP.mono R
 cases w5 with
 |give p a e h5 ia=>
  subst e
  refine kq (js h5 Z #[Z,_,Z,?_])
  rw[show decide (V.str (Str.ofString "give")=V.str (Str.ofString "go"))=false by decide+kernel]
  refine cF.k _ (y _ _ ?_)
  obtain⟨pa,ca,wv,cs,e,h3,_⟩:=(O.mono R).parts
  subst e
  refine(js h3 Z #[_,Z,_,Z,S,D,Z,.inl #[aE.of w1,λl2 n0=>?_]])
  have Y:ae H3 (af H3 l2 (.tup D)):=je n0
  refine(js (Y _ _ h5) Z #[nk,λv2 nv=>?_])
  have s5:=Y.trans (je (o:=.tup [.str d.f,.ref ag,.ref l2,.int a]) nv)
  have S5:aH r lA H (af (af H3 l2 (.tup D)) v2 (.tup [.str d.f,.ref ag,.ref l2,.int a])):=w9.trans (aH.of_same s5)
  exact q _ sk a L1 _ #[v2,ag,l2,D,Z,jc,hR.tm S5 _ _ ha,ao jc nv,w2.mono (ae.tm s5)] w3 w4 ia (w6.same s5) w7 w8 S5
 |go p x n c hs e h5 h6 hc hl hi=>
  subst e
  refine kq (js h5 Z #[Z,_,Z,?_])
  rw[show decide (V.str (Str.ofString "go")=V.str (Str.ofString "go"))=true by decide+kernel]
  refine kT _ ?_
  clear kT cF.k y
  have U:=O.mono R
  obtain⟨pa,ca,wv,cs,e3,h3,_,_,a2⟩:=U.parts
  obtain⟨ka,na,wa,dv,b2,_,I⟩:=U.cut a2 hc
  obtain⟨e,ed,d0,e2⟩:=Ao I.v.deed
  have gk:GT (cj (canon c.M) hs):=J3 hi
  refine ak λF1 y=>#[_,Z,r,dx,_,Z,w6.ins,Z,_,Z,js h5 Z (js h5 Z #[v,n,x,d,ys,c,hs,e,Z,U,hc,h6,hl,hi,ed,d0,λud H4 a3 Y=>?_])]
  have t3:=R.trans (ae.tm Y)
  refine#[_,Z,r,dx,cA,lA,pA,G,t+sk.size,L1,Cs,cj (canon c.M) hs,ud,e,ys,ds,ns,xs,Z,Ic,w6.same Y,w7,w8,hP.mono t3,a3,d0.mono (ae.tm Y),gk,?_,λw uw L' W hw o1 ft d1 R5 l5 t5 k5=>y _ _ ?_,?_]
  ·cases e with
   |ask=>trivial
   |st p0 l=>cases l<;>first |trivial |exact hP.cs hd _ e2
  ·clear y
   have K5:aH r lA H3 W:=(aH.of_same Y).trans k5
   have t0:ah H3 W:=w6.tm K5
   have g5:=t0 _ _ h5
   have w0:W S=some (.lst D):=K5 _ _ s0 s3 w1
   have l0:=Xp w3 w2
   refine ak λF1 y=>#[_,Z,.inl #[Z,_,aE.of w0],js g5 Z (js g5 Z #[_,Z,dP,λB n3=>?_])]
   have s6:ae W (af W B (.tup [.int (n:Int),.ref x,uw])):=je n3
   have e6:af W B (.tup [.int (n:Int),.ref x,uw]) B=some (.tup [.int (n:Int),.ref x,uw]):=jc
   refine#[S,_,_,Z,Z,s6 _ _ w0,Ic,y _ _ ?_]
   clear y
   generalize af W B (.tup [.int (n:Int),.ref x,uw])=H6 at s6 e6
   have b7:ar S H6 (af H6 S (.lst (D++[.ref B]))):=λb o nb e=>by rw[ji nb];exact e
   have X:ah H6 (af H6 S (.lst (D++[.ref B]))):=λb xs e=>b7 _ _ (jI e (s6 _ _ w0) (by intro z;cases z)) e
   have w':af H6 S (.lst (D++[.ref B])) S=some (.lst (D++[.ref B])):=jc
   generalize af H6 S (.lst (D++[.ref B]))=H7 at b7 X w'
   have J:ah W H7:=λb xs e=>X _ _ (s6 _ _ e)
   have g:ah H3 H7:=t0.trans J
   have h1:w.wh.side < c.ws.length:=by
    rw[I.v.len,<- ed]
    cases e with
    |ask ta T=>show _ < 2;unfold Wh.side;split<;>(try split)<;>omega
    |st p0 l=>
     show _ < 1
     cases w<;>first |exact Nat.one_pos |exact o1.elim | (cases l<;>exact ft.elim)
   obtain⟨a0,e0,h4⟩:=I.v.ways (c.ws[w.wh.side]) (List.getElem_mem _)
   have sv:iU H7 nA d ys v B n x uw c hs w.wh e a0:=#[U.mono g,X _ _ e6,hc,g _ _ h6,hl,hi,(Cj o1 hw).mono J,ed,d0.mono g,ft,by rw[e0];exact List.getElem?_eq_getElem h1,h4.mono g]
   have a4:dn (D++[V.ref B]) (-1)=some (.ref B):=wL
   refine#[_,Z,_,Z,_,Z,S,_,_,_,Z,Z,aE.of w',a4,v,uw,B,x,n,d,ys,c,hs,w.wh,e,a0,Z,sv,λu2 H8 a5 s8=>?_]
   have t1:=ae.tm s8
   have t4:=g.trans t1
   have g1:=ZZ (H:=H7) a5 (qJ sv.wdv.sets (ZX ft gk)) sv.wdv.goal
   have s7:=J9 (n:=(n:Int)) (hs:=hs) (w:=w) w3
   have R7:Rn H7 C r dx cA lA pA 60 (t+sk.size+1+w.size) L' Cs:=#[b7 _ _ (Ne.symm s0) (s6 _ _ R5.ins),b7 _ _ (Ne.symm s3) (s6 _ _ R5.lf),b7 _ _ s9 (s6 _ _ R5.ce),R5.iL,R5.iC,R5.cl]
   have ez:t+sk.size+1+w.size=t+(Sk.put (n:Int) hs w sk).size:=by rw[s7];omega
   rw[ez]at R7 l5 t5
   refine fE (kk - (w.size+1)) _ _ Ic #[_,u2,Sk.put (n:Int) hs w sk,D++[.ref B],L',Z,s8 _ _ w',(Zy (X _ _ e6) (g _ _ h6) (hw.mono J) w3 (w2.mono g)).mono t1,Qx o1 w3,?_,g1,R7.same s8,l5,t5,?_,by rw[s7];omega]
   ·have:=Qy (n:=(n:Int)) (hs:=hs) (w:=w) (j:=j) d1 w3 Ic
    omega
   ·intro b o n1 n2 e
    exact s8 _ _ (b7 _ _ (jj e N) (s6 _ _ (K5 _ _ n1 n2 (w9 _ _ n1 n2 e))))
  ·exact nF.next (t2.mono λW kk=>λb o n1 n2 nx e=>kk b o n1 n2 nx (Y _ _ (w9 _ _ n1 n2 e)))
def pd(T t N:Addr):Sp:=λv H Q E=>∃(p A c:Addr) (i:Nat) (C:b8) (d:Df) (D:List Df) (n:List Nat) (x:List V) (I:List Int),v=[.ref p,.str d.f,.ref A,.ref c,.int 60]/\Ps H N p D n x/\D[i]?=some d/\n[i]?=some I.length/\H A=some (.tup (I.map V.int))/\(∀z∈I,ff z)/\H c=some (.dK C)/\GT C/\
 (∀(u:V) (s:Sk) (a:Int) (h:Hp),ll h d.f I s a u->s.ok true->s.dep<=15->s.size<=60->ae H h->Q u h)/\nF E T t (Kp H)
theorem sR(h:a9 H (eA n d) v []):∃p r,v= .ref p/\H p=some (.tup (.str d.f:: .ref d.pa::r)):=by
 obtain⟨_,a,x,rfl,b,_,_,c,y,rfl,⟨rfl,_⟩,_,_,e,Y,rfl,⟨rfl,_⟩,_⟩:=h
 exact#[a,_,Z,b]
theorem vX:ai P w K mg base (em P w) k f c ["self","part","args","deep"] (dO C T b N 0):=by
 have n:∀{V H Q E},¬dO C T b N 0 V H Q E:=by
  rintro V H Q E ⟨r,e,g,l,p,j,D,t,i,L,m,v,d,q,u,x,I,_,_,z,_⟩
  omega
 exact#[λV H Q E h=>(n h).elim,λA o s H a U V Q E y B F G h=>(n h).elim]
theorem yR(d:RK K C)(F:aJ K "chain_of" "BookRun.chain_of" sh k f)(B:aw K f ["self","part","args","deep"] [])(m:bK K C "chain_of" k)(l:aJ K "what_of" "BookRun.what_of" tO D e)(o:aw K e ["self","deed","deep"] [])(M:bK K C "what_of" D)(p:Cl P w K mg base 9 Q E ["part","args"] (fX n) "first_of")(q:Cl P w K mg base 9 U H ["part","n","held"] (f8 n) "deed_at")(r:Cl P w K mg base 9 Y I ["part","step"] (t6 n) "onward")(GT:ai P w K mg base (em P w) 1 J g ["self"] (hZ C T))(s:aw K g ["self"] [])(a:bK K C "take_turn" J)(G:ai P w K mg base ax 1 L h ["self","cell"] (fQ C))(t:aw K h ["self","cell"] [])(b:bK K C "number_in" L)(u:ai P w K mg base (em P w) 1 v i ["deep"] (eI N))(x:aw K i ["deep"] [])(y:keepIn K (.ref v)=true)(z:mg "deeper"=some (.ref v))(A:Cl P w K mg base 2 fP O ["parts","f"] iX "part_of")(c:mg "tuple"=none):∀j,ai P w K mg base (em P w) (2*j+12) k f ["self","part","args","deep"] (dO C T N n j)
 |0=>vX
 |j+1=>wW F d p q r (wM l d GT s a G t b u x y z A (yR d F B m l o M p q r GT s a G t b u x y z A c j) B m) o M c
theorem ve:aj ["parts","f","args","cells","most","part"] ["parts","f","args","cells","most"] (aa wX):=bo
theorem wH(F:aJ K "run" "run" wX f fd)(ck:RK K C)(mk:Mk K C fI)(GI:ai P w K mg base ax 2 fI x ["self","parts","cells","most"] (me C))(bI:aw K x ["self","parts","cells","most"] [])(mC:mg "BookRun"=some (.ref C))(cB:Cl P w K mg base 2 fB f0 ["ones","f","args"] io "begun")(GA:ai P w K mg base (em P w) 44 fA y ["self","part","args","deep"] (dO C TL TD nA 16))(bA:aw K y ["self","part","args","deep"] [])(M:bK K C "chain_of" fA):ai P w K mg base (em P w) 45 f fd ["parts","f","args","cells","most"] (pd TL TD nA):=by
 refine F.ok1 ve ?_ λc0 A O s H vs Q E B h=>?_
 ·rintro _ _ _ _ ⟨g,G,j,i,I,d,ds,ns,X,is,rfl,_⟩
  rfl
 refine aP λGq kq=>?_
 obtain⟨g,G,j,i,I,d,ds,ns,X,is,rfl,t,J,hn,ha,L,k,R,q,T⟩:=h
 refine kq ?_
 clear kq
 refine#[_,(jd (jw 5 ve.nd (cB.e B.m (ja (pv 0) (ja (pv 1) (ja (pv 2) jb))))) (jg (jl (kJ (Yc mk GI B.m Z mC bI .nil bh (ja (pv 0) (ja (pv 3) (ja (pv 4) jb)))) ck.cl M GA B.m bA .nil zF (ja (pv 5) (ja (pv 2) (ja jf jb))))))),?_]
 obtain⟨v,hv,tv,h0,U⟩:=t.at J
 obtain⟨p,pr,rfl,hp⟩:=sR tv
 obtain⟨ps,V,h1,_⟩:=t.pa.2 i d _ J hn
 refine ak λF1 f1=>#[_,Z,_,Z,_,Z,g,G,d.f,X,_,i,.ref p,p,d.pa,pr,_,Z,t.at',hv,Z,hp,V,ha,by rw[Di,Di];omega,U,f1 _ _ ?_]
 clear f1
 refine#[_,Z,_,Z,_,Z,λr D N nd ne=>?_]
 have s0:ae H (af (af H D (.own r)) r (.ins C D [])):=λc o e=>by rw[ji (jj e N),ji (jj e nd)];exact e
 refine#[r,D,g,j,60,Z,jc,λl W=>#[Z,?_]]
 have Y:l≠r:=λe=>by rw[e,jc]at W;cases W
 have n:H l=none:=by
  cases z:H l with
  |none=>rfl
  |some o=>have:=s0 _ _ z;rw[W]at this;cases this
 have S:ae H (af (af (af (af H D (.own r)) r (.ins C D [])) l (.dK [])) r (.ins C D (gI j l g 60 0))):=λc o e=>by rw[ji (jj e N),ji (jj e n)];exact s0 _ _ e
 have R1:Rn (af (af (af (af H D (.own r)) r (.ins C D [])) l (.dK [])) r (.ins C D (gI j l g 60 0))) C r D j l g 60 0 [] I:=#[jc,by rw[ji Y];exact jc,S _ _ k,GT.nil,R,jj k n]
 generalize af (af (af (af H D (.own r)) r (.ins C D [])) l (.dK [])) r (.ins C D (gI j l g 60 0))=H1 at S R1
 have t0:=ae.tm S
 refine#[r,D,_,Z,R1.ins,Z,_,Z,_,Z,r,D,j,l,g,G,0,0,i,[],I,.ref p,d,ds,ns,X,is,Z,Z,Ib,R1,Dk _,Ib,t.mono t0,J,hn,hv,S _ _ ha,L,λu sk a L' H2 hc ok dp ia R2 l2 t2 k2=>?_,nF.next (T.mono λH' kk=>λb o nx e=>kk b o (jj e N) (jj e n) nx (S _ _ e))]
 exact q u sk a H2 hc ok Ic Ic λc o e=>k2 c o (jj e N) (jj e n) (S _ _ e)
noncomputable abbrev lM:Stmt:=bn 67
noncomputable abbrev sd:Stmt:=bn 69
noncomputable abbrev mV:Stmt:=bn 70
noncomputable abbrev wu:Stmt:=bn 71
def hG:Sp:=λv H Q _=>∃p:Addr,v=[.ref p]/\am H p/\∀(l:Addr) (C:b8) (h:Hp),H l=none->h l=some (.dK C)->GT C->C.length<=13->am h p->ar p H h->Q (.ref l) h
inductive CL(p l:Addr)(H:Hp)(i:Nat)(σ:L2.St)(H':Hp):Prop
 |mk (o2 o3:Option V) (C:b8) (e0:σ=[some (.ref p),some (.ref l),o2,o3]) (e1:H' l=some (.dK C)) (e2:GT C) (e3:C.length<=i) (e4:am H' p) (e5:ar p H H'):CL p l H i σ H'
theorem Yz(a:b8)(k:aY)(v:V):(aV a k v).length<=a.length+1:=zZ
structure Gb(H:Hp)(p g sp:Addr)(ys:List Str):Prop where
 B:am H p
 g:H g=some (.lst (ys.map V.str))
 y1:1<=ys.length
 y2:ys.length<=20
 s:bP H sp
theorem Gb.gsp{H:Hp}{p g S:Addr}{y:List Str}(G:Gb H p g S y):g≠S:=by
 obtain⟨k,e⟩:=G.s
 refine jI G.g e λz=>?_
 injection z with z
 have h:=G.y1
 match y,h,z with
 |a::r,_,z=>injection z with b _;cases b
theorem Gb.but2{H h:Hp}{p g S:Addr}{y:List Str}(G:Gb H p g S y)(B:am h p)(s:bP h S)(k:aH p S H h):Gb h p g S y:=#[B,k _ _ (zf G.B G.g) G.gsp G.g,G.y1,G.y2,s]
theorem Gb.but{H h:Hp}{p g S:Addr}{y:List Str}(G:Gb H p g S y)(B:am h p)(k:ar p H h):Gb h p g S y:=G.but2 B (G.s.but G.B k) k.two
theorem Gb.same{H h:Hp}{p g S:Addr}{y:List Str}(G:Gb H p g S y)(s:ae H h):Gb h p g S y:=G.but2 (G.B.same s) (let #[k,e]:=G.s;#[k,s _ _ e]) (aH.of_same s)
def vJ(n:Nat):Sp:=λv H Q _=>∃(p g s:Addr) (d:Nat) (y:List Str),v=[.ref p,.ref g,.int (d:Int),.ref s]/\Gb H p g s y/\d < n/\0 < bZ H s/\bZ H s<=60/\
 ∀(w:Sk) (u:V) (h:Hp),eY h w u []->w.ok false->w.dep<=d->(w.size:Int)+1+bZ h s=bZ H s->0<=bZ h s->am h p->bP h s->aH p s H h->Q u h
def gG(n:Nat):Sp:=λv H Q _=>∃(p g S:Addr) (d:Nat) (y:List Str),v=[.ref p,.ref g,.int (d:Int),.ref S]/\Gb H p g S y/\d < n/\0<=bZ H S/\bZ H S<=60/\
 ∀(f:Str) (i:List Int) (s:Sk) (a:Int) (u:V) (h:Hp),ll h f i s a u->s.ok true->s.dep<=d->(s.size:Int)+bZ h S=bZ H S->0<=bZ h S->am h p->bP h S->aH p S H h->Q u h
def mv:Sp:=λv H Q _=>∃p:Addr,v=[.ref p]/\am H p/\∀(f:Str) (i:List Int) (s:Sk) (a:Int) (u:V) (h:Hp),ll h f i s a u->s.ok true->s.dep<=15->s.size<=60->am h p->ar p H h->Q u h
inductive LI(p g sp sl ag:Addr)(d:Nat)(f:Str)(is:List Int)(H:Hp)(i:Nat)(σ:L2.St)(H':Hp):Prop
 |mk (o4 o8:Option V) (s:Sk) (ss:List V) (e0:σ=[some (.ref p),some (.ref g),some (.int (d:Int)),some (.ref sp),o4,some (.ref ag),some (.ref sl),some (.str f),o8]) (e1:H' sl=some (.lst ss)) (e2:eY H' s .non ss) (e3:s.ok true) (e4:s.dep<=d) (e5:(s.size:Int)+bZ H' sp=bZ H sp) (e6:0<=bZ H' sp) (e7:am H' p) (e8:bP H' sp) (e9:aH p sp H H') (e10:H' ag=some (.tup (is.map V.int))):LI p g sp sl ag d f is H i σ H'
theorem eJ:aj ["_law_box_here","_law_cells_here","_law_k","_law_cell"] ["_law_box_here"] (aa lM):=bo
theorem nW(F:aJ K "_law_cells" "_law_cells" lM f fd)(r:Cl P w K mg base 1 fT f0 ["_law_box_here","_law_wide"] aM "_law_take")(cU:Cl P w K mg base 2 fU f2 ["_law_box_here"] eP "_law_number")(mr:mg "range"=none):ai P w K mg base ax 3 f fd ["_law_box_here"] hG:=by
 refine F.ok eJ ?_ λc0 A O s H vs Q E g h=>?_
 ·rintro _ _ _ _ ⟨p,rfl,_⟩
  rfl
 refine aP λGq o=>?_
 obtain⟨p,rfl,B,q⟩:=h
 refine o ?_
 clear o
 refine#[_,(jd (jw 1 eJ.nd zX) (jd (ke D0 Z (jZ Z mr (ja (r.e g.m (ja (pv 0) (ja jf jb))) jb)) (ju (i:=2) eJ.nd Z (Or.inl Z)) (jd (jw 3 eJ.nd (r.e g.m (ja (pv 0) (ja jf jb)))) (jd (jv (kE (r.e g.m (ja (pv 0) (ja jf jb)))) (jg (jw 3 eJ.nd (jr kB (jr kB (jr JV jf jf) jf) (r.e g.m (ja (pv 0) (ja jf jb)))))) jm) (jg (zH (kG g) (pv 1) (pv 3) (cU.e g.m (ja (pv 0) jb)) Z))))) (jg (jl (pv 1))))),?_]
 have b0:=aB
 have t0:=oM
 refine ak λt a=>λl N=>a _ _ ?_
 clear a
 have S:ae H (af H l (.dK [])):=je N
 have I:af H l (.dK []) l=some (.dK []):=jc
 generalize af H l (.dK [])=H1 at S I
 have L:l≠p:=B.ne N
 have B1:=B.same S
 refine ak λt a=>dU λJ j=>#[_,Z,p,14,Z,B1,Ib,Ib,λd H2 d0 d1 B2 M=>#[_,Z,Ic,Ic,j _ _ ?_]]
 clear j
 refine zp (lo:=0) (CL p l H) #[none,none,[],Z,by rw[M l L];exact I,K26.GT.nil,Dk _,B2,(ar.of_same S).trans (ar.of_eq M)] ?_ (λσ H' h=>a _ _ ?_)
 ·clear a
  intro E0 _ i σ H3 hi fE Gq o h
  obtain⟨o2,o3,C,rfl,x,G,lC,y,D⟩:=h
  refine o ?_
  clear o
  show eZ (dD _ _) _ E0 _ _
  refine ak λt a=>#[_,Z,p,14,Z,y,Ib,Ib,λc4 H4 d2 d3 B4 R=>a _ _ ?_]
  clear a
  refine ak λt a=>?_
  have c:∀(u:Int) (v:Hp),am v p->(∀b,b≠p->v b=H3 b)->t [some (.ref p),some (.ref l),some (.int (0+(i:Int))),some (.int u)] v:=λu v BH T=>a _ _ (by
   refine#[_,Z,p,Z,BH,λm H7 m0 m1 B7 U=>?_]
   have h7:H7 l=some (.dK C):=by rw[U l L,T l L];exact x
   have pl:=Yz C (.inl u) (.int m)
   exact#[_,Z,_,Z,l,_,Z,iI.k (k:=.inl u) h7 Ic,fE _ _ #[_,_,_,Z,jc,G.put _ #[m0,m1],Ic,B7.eq (ji (DQ L)),(D.trans ((ar.of_eq T).trans (ar.of_eq U))).upd_own N]])
  refine vE λG1 yT yF=>#[_,Z,p,8,Z,B4,Ib,Ib,λd5 H5 d4 d7 W X=>#[Z,_,Z,?_]]
  by_cases Y:d5=0
  ·rw[Y,DP (Z:V.int 0=V.int 0)]
   refine yT _ #[_,_,Z,Z,#[Ib,Ib,Ib],_,_,Z,Z,_,Z,p,4,Z,W,Ib,Ib,λd6 H6 d8 d9 B6 e6=>#[_,_,Z,Z,c _ H6 B6 λb n=>(e6 b n).trans ((X b n).trans (R b n))]]
  ·rw[Dy (λz=>Y (by injection z))]
   exact yF _ (c _ H5 W λb n=>(X b n).trans (R b n))
 ·obtain⟨o2,o3,C,rfl,x,G,lC,y,D⟩:=h
  exact#[_,Z,q l C H' N x G Ic y D]
theorem uV:aj ["_law_box_here","_law_names_here","_law_deep","_law_spare","_law_kind"] ["_law_box_here","_law_names_here","_law_deep","_law_spare"] (aa sd):=bo
theorem wO(F:aJ K "_law_what" "_law_what" sd f fd)(cT:Cl P w K mg base 1 fT f0 ["_law_box_here","_law_wide"] aM "_law_take")(cN:Cl P w K mg base 2 fN f2 ["_law_box_here"] eP "_law_number")(cC:Cl P w K mg base (2*n+4) fC f3 ["_law_box_here","_law_names_here","_law_deep","_law_spare"] (gG n) "_law_chain"):ai P w K mg base ax (2*n+5) f fd ["_law_box_here","_law_names_here","_law_deep","_law_spare"] (vJ (n+1)):=by
 refine F.ok uV ?_ λc2 A o1 s H vs Q E I h=>?_
 ·rintro _ _ _ _ ⟨p,g,S,d,ys,rfl,_⟩
  rfl
 refine aP λGq kq=>?_
 obtain⟨p,g,S,d,ys,rfl,W,hd,h0,h5,q⟩:=h
 refine kq ?_
 clear kq
 refine#[_,(jd (jw 4 uV.nd (cT.e I.m (ja (pv 0) (ja jf jb)))) (jd (kL (jr kB (jq jo (pv 3) jf (λ_ _=>Z)) jf) (zR (pv 3) jf kQ)) (jd (jv (kE (pv 4)) (jg (jl (jh (ja jk (ja (cT.e I.m (ja (pv 0) (ja jf jb))) jb))))) jm) (jd (jv (PW.pt (KK (kE (pv 4)) (qY (PW.pt (JU (kE (pv 4)) (qE (PW.pt (KK (kE (pv 2)) (qY (jz Jm (jq jo (pv 3) jf (λ_ _=>Z)) jf (aF _))))))))))) (jg (jl (jh (ja jk (ja (cT.e I.m (ja (pv 0) (ja jf jb))) (ja (cN.e I.m (ja (pv 0) jb)) jb)))))) jm) (jd (jv (jz Jm (pv 4) jf (aF _)) (jg (jl (jh (ja jk (ja (cT.e I.m (ja (pv 0) (ja jf jb))) (ja (cN.e I.m (ja (pv 0) jb)) jb)))))) jm) (jg (jl (jh (ja jk (ja (cC.e I.m (ja (pv 0) (ja (pv 1) (ja (jr kB (pv 2) jf) (ja (pv 3) jb))))) jb)))))))))),?_]
 have b0:=aB
 refine ak λt b=>#[_,Z,p,5,Z,W.B,Ib,Ib,λd1 X d0 d2 B1 q1=>b _ _ ?_]
 clear b
 have G1:=W.but B1 (ar.of_eq q1)
 obtain⟨k,hk⟩:=G1.s
 have ek:bZ H S=k:=(jR W.B W.s (ar.of_eq q1)).symm.trans (zz hk)
 refine ak λt b=>#[_,Z,S,_,_,_,Z,Z,aE.of hk,Z,_,_,Z,Z,_,Z,S,_,_,0,Z,Z,hk,Z,b _ _ ?_]
 clear b
 have s1:=G1.s.ne B1
 have B3:am (af X S (.lst ([.int k].set 0 (.int (k - 1))))) p:=B1.eq (ji (DQ s1))
 have l:af X S (.lst ([.int k].set 0 (.int (k - 1)))) S=some (.lst [.int (k - 1)]):=jc
 have K3:aH p S H (af X S (.lst ([.int k].set 0 (.int (k - 1))))):=(ar.of_eq q1).two.trans aH.at
 have G:=W.but2 B3 #[k - 1,l] K3
 have e3:bZ (af X S (.lst ([.int k].set 0 (.int (k - 1))))) S=k - 1:=zz l
 generalize af X S (.lst ([.int k].set 0 (.int (k - 1))))=H3 at B3 l K3 G e3
 have r:∀(w:Sk) (xs:List V) (i:Hp) (v:Addr),am i p->ar p H3 i->i v=none->eY (af i v (.tup xs)) w (.ref v) []->w.ok false->w.dep=0->w.size=0->Q (.ref v) (af i v (.tup xs)):=λw xs i v j Y N hw ok dp sz=>by
  have G4:=G.but j Y
  have x1:=jU G4.s (je (o:=.tup xs) N)
  have x2:=jR G.B G.s Y
  exact q w _ _ hw ok Ic (by rw[x1,x2,e3,ek,sz];show(0:Int)+1+_=_;omega) Ic (j.upd_new N) (G4.s.new N) ((K3.trans Y.two).trans (aH.of_same (je N)))
 by_cases c0:d1=0
 ·exact ak λt b=>#[_,Z,Z,_,Z,bV (DP (by rw[c0])) #[_,Z,p,2,Z,G.B,Ib,Ib,λD i x y j C=>#[bG,λv N=>r (.ask D) _ _ v j (ar.of_eq C) N #[v,Z,jc] DR Z Z]]]
 refine ak λt b=>#[_,Z,Z,_,Z,aO (Dy λz=>c0 (by injection z)) (b _ _ ?_)]
 clear b
 by_cases c1:d1=1
 ·exact ak λt b=>#[_,Z,Z,_,Z,bV (DP (by rw[c1])) (iT #[_,Z,p,6,Z,G.B,Ib,Ib,λD i x y j C=>#[_,Z,p,Z,j,λJ H5 L M O R=>#[dP,λv N=>r (.wr D J) _ _ v O ((ar.of_eq C).trans (ar.of_eq R)) N #[v,Z,jc] DR Z Z]]])]
 by_cases c4:d1=4
 ·by_cases cd:(d:Int)=0
  ·exact ak λt b=>#[_,Z,Z,_,Z,aO (Dy λz=>c1 (by injection z)) #[_,Z,Z,_,Z,bV (DP (by rw[c4])) #[_,Z,Z,_,Z,bV (DP (by rw[cd])) (iT #[_,Z,p,6,Z,G.B,Ib,Ib,λD i x y j C=>#[_,Z,p,Z,j,λJ H5 L M O R=>#[dP,λv N=>r (.wr D J) _ _ v O ((ar.of_eq C).trans (ar.of_eq R)) N #[v,Z,jc] DR Z Z]]])]]]
  by_cases ck:k - 1 < 1
  ·exact ak λt b=>#[_,Z,Z,_,Z,aO (Dy λz=>c1 (by injection z)) #[_,Z,Z,_,Z,bV (DP (by rw[c4])) #[_,Z,Z,_,Z,aO (Dy λz=>cd (by injection z)) #[_,Z,S,_,_,_,Z,Z,aE.of l,Z,_,_,Z,Z,_,Z,bV (DP ck) #[_,Z,p,6,Z,G.B,Ib,Ib,λD i x y j C=>#[_,Z,p,Z,j,λJ H5 L M O R=>#[dP,λv N=>r (.wr D J) _ _ v O ((ar.of_eq C).trans (ar.of_eq R)) N #[v,Z,jc] DR Z Z]]]]]]]
  refine ak λt b=>#[_,Z,Z,_,Z,aO (Dy λz=>c1 (by injection z)) #[_,Z,Z,_,Z,bV (DP (by rw[c4])) #[_,Z,Z,_,Z,aO (Dy λz=>cd (by injection z)) #[_,Z,S,_,_,_,Z,Z,aE.of l,Z,_,_,Z,Z,_,Z,aO (Dy ck) (b _ _ ?_)]]]]
  clear b
  refine ak λt b=>#[_,Z,_,_,Z,Z,_,Z,aO (Dy Ic) (b _ _ ?_)]
  clear b
  obtain⟨T,rfl⟩:∃T,d=T+1:=#[d - 1,Ic]
  have ed:(((T+1:Nat):Int) - 1)=((T:Nat):Int):=by omega
  refine#[_,Z,_,Z,_,Z,_,_,Z,Z,_,Z,p,g,S,T,ys,(by show [V.ref p,V.ref g,V.int (((T+1:Nat):Int) - 1),V.ref S]=_;rw[ed]),G,Ic,Ic,Ic,λf is s a u i hc ok dp sz s0 j s4 Y=>#[bG,λv N=>?_]]
  obtain⟨c,g',e,ss,rfl,h1,h2,h3,h4⟩:=hc
  have U:ae i (af i v (.tup [.str "call",.ref c])):=je N
  have x1:=jU s4 U
  exact q (.cl f is s a) _ _ #[v,c,g',e,ss,Z,jc,U _ _ h1,U _ _ h2,U _ _ h3,h4.mono (ae.tm U)] ok (by show s.dep+1<=_;omega) (by rw[x1];show(s.size:Int)+1+_=_;omega) (by rw[x1];exact s0) (j.upd_new N) (s4.new N) ((K3.trans Y).trans (aH.of_same U))
 ·refine ak λt b=>#[_,Z,Z,_,Z,aO (Dy λz=>c1 (by injection z)) #[_,Z,Z,_,Z,aO (Dy λz=>c4 (by injection z)) (nC (b _ _ ?_))]]
  clear b
  exact ak λt b=>#[_,Z,_,_,Z,Z,_,Z,bV (DP Ic) #[_,Z,p,6,Z,G.B,Ib,Ib,λD i x y j C=>#[_,Z,p,Z,j,λJ H5 L M O R=>#[dP,λv N=>r (.rd D J) _ _ v O ((ar.of_eq C).trans (ar.of_eq R)) N #[v,Z,jc] DR Z Z]]]]
theorem gR:aj ["_law_box_here","_law_names_here","_law_deep","_law_spare","_law_k","_law_args","_law_steps","_law_f","_law_held"] ["_law_box_here","_law_names_here","_law_deep","_law_spare"] (aa mV):=bo
noncomputable def Zn:Scope:=#[.function,[(".0",.local),("_law_k",.local),("_law_number",.globalImplicit),("_law_box_here",.free)],false,false,[]]
theorem ye:(["_law_k","_law_box_here"]:List Str).Nodup:=by decide+kernel
theorem yg:aX ["_law_box_here","_law_names_here","_law_deep","_law_spare","_law_k","_law_args","_law_steps","_law_f","_law_held"] (aa mV) Zn ["_law_k","_law_box_here"] 1 [0]:=nh
noncomputable def Zo:Scope:=#[.function,[(".0",.local),("_law_j",.local),("_law_number",.globalImplicit),("_law_box_here",.free)],false,false,[]]
theorem xt:(["_law_j","_law_box_here"]:List Str).Nodup:=by decide+kernel
theorem xq:aX ["_law_box_here","_law_names_here","_law_deep","_law_spare","_law_k","_law_args","_law_steps","_law_f","_law_held"] (aa mV) Zo ["_law_j","_law_box_here"] 1 [0]:=nh
theorem wZ(F:aJ K "_law_chain" "_law_chain" mV f fd)(cT:Cl P w K mg base 1 fT f0 ["_law_box_here","_law_wide"] aM "_law_take")(cN:Cl P w K mg base 2 fN f2 ["_law_box_here"] eP "_law_number")(cW:Cl P w K mg base (2*n+3) fW f3 ["_law_box_here","_law_names_here","_law_deep","_law_spare"] (vJ n) "_law_what")(ml:mg "len"=none)(mr:mg "range"=none)(m0:mg "tuple"=none):ai P w K mg base ax (2*n+4) f fd ["_law_box_here","_law_names_here","_law_deep","_law_spare"] (gG n):=by
 refine F.ok gR ?_ λc0 A o1 s H vs Q E U h=>?_
 ·rintro _ _ _ _ ⟨p,g,x,d,ys,rfl,_⟩
  rfl
 refine aP λGq kq=>?_
 obtain⟨p,g,x,d,ys,rfl,G0,hd,h4,h7,q⟩:=h
 refine kq ?_
 clear kq
 refine#[_,(jd (jw 5 gR.nd (jB jA Z m0 EB (ja (@kO _ _ _ _ _ _ _ (["_law_k","_law_box_here"]) (1) ([0]) _ _ _ _ Z (jZ Z mr (ja (cT.e U.m (ja (pv 0) (ja jf jb))) jb)) yg (λ_ _ _ _ _=>(ju (i:=0) ye Z (Or.inl Z))) (λ_ _ _ _ _=>(@kW _)) (λ_ _ _ _ _=>(cN.e U.m (ja (pv 1) jb))) (by intro _;rfl)) jb))) (jd (jw 6 gR.nd (jC jb)) (jd (jw 7 gR.nd (jq jo (pv 1) (cT.e U.m (ja (pv 0) (ja (jJ jK Z ml Eu (ja (pv 1) jb)) jb))) (λ_ _=>Z))) (jd (ke D0 Z (jZ Z mr (ja (cT.e U.m (ja (pv 0) (ja jf jb))) jb)) (ju (i:=4) gR.nd Z (Or.inl Z)) (jg (jv (jz qA (jq jo (pv 3) jf (λ_ _=>Z)) jf (aF _)) (jd (jw 8 gR.nd (jB jA Z m0 EB (ja (@kO _ _ _ _ _ _ _ (["_law_j","_law_box_here"]) (1) ([0]) _ _ _ _ Z (jZ Z mr (ja (cT.e U.m (ja (pv 0) (ja jf jb))) jb)) xq (λ_ _ _ _ _=>(ju (i:=0) xt Z (Or.inl Z))) (λ_ _ _ _ _=>(@kW _)) (λ_ _ _ _ _=>(cN.e U.m (ja (pv 1) jb))) (by intro _;rfl)) jb))) (jg (jN (kh Dw DN DM jP (pv 6) (ja (jh (ja (cT.e U.m (ja (pv 0) (ja jf jb))) (ja (pv 8) (ja (cW.e U.m (ja (pv 0) (ja (pv 1) (ja (pv 2) (ja (pv 3) jb))))) jb)))) jb))))) jm))) (jg (jl (jh (ja (pv 7) (ja (pv 5) (ja (jB jA Z m0 EB (ja (pv 6) jb)) (ja (cN.e U.m (ja (pv 0) jb)) jb))))))))))),?_]
 have b0:=aB
 have k7:=h4
 refine ak λF1 y=>#[_,Z,p,3,Z,G0.B,Ib,Ib,λd1 H1 d' D B1 q1=>#[_,Z,Ic,Ic,?_]]
 refine z9 (lo:=0) (n:=(d1).toNat) (λi X Y=>(∃I:List Int,X=I.map V.int/\I.length=i)/\am Y p/\ar p H1 Y) #[#[[],Z,Z],B1,ar.refl] Ic (λi X Y h=>by obtain⟨⟨I,e,l⟩,_⟩:=h;rw[e,Di,l];exact Dk _) (λi X Y hi h=>?_) ?_
 ·exact#[_,Z,p,Z,h.2.1,λe H7 e0 e1 B7 e7=>#[let #[I,h1,l]:=h.1;#[I++[e],by rw[h1,DJ];rfl,by rw[Dj,l];rfl],B7,h.2.2.trans (ar.of_eq e7)]]
 rintro X H2 ⟨⟨I,rfl,_⟩,B2,k2⟩ l1 n4
 refine#[l1,_,Z,.inl #[aE.of jc,λag n5=>y _ _ ?_]]
 clear y
 have s3:ae H2 (af (af H2 l1 (.lst (I.map V.int))) ag (.tup (I.map V.int))):=(je n4).trans (je n5)
 have a3:af (af H2 l1 (.lst (I.map V.int))) ag (.tup (I.map V.int)) ag=some (.tup (I.map V.int)):=jc
 generalize af (af H2 l1 (.lst (I.map V.int))) ag (.tup (I.map V.int))=H3 at s3 a3
 have k3:ar p H H3:=((ar.of_eq q1).trans k2).trans (ar.of_same s3)
 have G3:=G0.but (B2.same s3) k3
 refine ak λF1 y=>#[gQ,λS n0=>y _ _ ?_]
 clear y
 have s4:ae H3 (af H3 S (.lst [])):=je n0
 have l4:af H3 S (.lst []) S=some (.lst []):=jc
 generalize af H3 S (.lst [])=H4 at s4 l4
 have G4:=G3.same s4
 have h0:(((ys.map V.str).length:Nat):Int)=(ys.length:Int):=by rw[Di]
 have h8:=G0.y1
 have h':=G0.y2
 refine ak λF1 y=>#[_,Z,_,Z,_,Z,g,_,Z,.inl (aE.of G4.g),p,_,Z,G4.B,by rw[h0];omega,by rw[h0];omega,λd5 H5 d2 d0 B5 q5=>?_]
 have k5:ar p H4 H5:=ar.of_eq q5
 have G5:=G4.but B5 k5
 rw[h0]at d0
 obtain⟨f,hf,h5⟩:=qZ (ys:=ys) d2 d0
 refine#[g,_,_,_,Z,Z,aE.of G5.g,h5,y _ _ ?_]
 clear y
 have C:S≠p:=(B2.same s3).ne n0
 have n3:H S=none:=by
  cases z:H S with
  |none=>rfl
  |some o=>have:=k3 _ _ C z;rw[n0]at this;cases this
 have N:S≠x:=DQ (by obtain⟨k,e⟩:=G3.s;exact jj e n0)
 have a5:H5 ag=some (.tup (I.map V.int)):=k5 _ _ (by intro z;have:=s4 _ _ a3;rw[z]at this;obtain⟨_,_,_,_,_,hp⟩:=G4.B.ob;rw[hp]at this;cases this) (s4 _ _ a3)
 have l5:=k5 _ _ C l4
 have K5:ar p H H5:=k3.trans ((ar.of_same s4).trans k5)
 have e5:bZ H5 x=bZ H x:=jR G0.B G0.s K5
 refine ak λF1 y=>dU λJ j=>#[_,Z,p,9,Z,B5,Ib,Ib,λd6 H6 a' b1 B6 q6=>#[_,Z,Ic,Ic,j _ _ ?_]]
 clear j
 have k6:ar p H5 H6:=ar.of_eq q6
 have e6:bZ H6 x=bZ H x:=(jR B5 G5.s k6).trans e5
 have G6:=G5.but B6 k6
 refine zp (lo:=0) (LI p g x S ag d f I H) #[none,none,.nil,[],Z,k6 _ _ C l5,Z,DR,Dt _,by show(0:Int)+_=_;omega,Ic,B6,G6.s,(K5.trans k6).two,k6.tm B5 _ _ a5] ?_ (λσ H' h=>y _ _ ?_)
 ·intro E _ i σ H7 hi fE Gq kq h
  clear y
  obtain⟨o4,o8,s,M,rfl,w1,w2,w3,w4,w5,w6,W,w8,w9,wa⟩:=h
  refine kq ?_
  clear kq
  have G7:=G0.but2 W w8 w9
  obtain⟨k,hk⟩:=w8
  have ek:=zz hk
  have l3:=Xp w3 w2
  refine#[_,Z,x,_,_,_,Z,Z,aE.of hk,Z,_,_,Z,Z,_,Z,?_]
  by_cases c:(0:Int) < k
  ·refine bV (DP c) ?_
   refine ak λF1 y=>#[_,Z,p,3,Z,W,Ib,Ib,λd8 H8 b2 b3 B8 q8=>#[_,Z,Ic,Ic,?_]]
   refine z9 (lo:=0) (n:=(d8).toNat) (λi X Y=>(∃I:List Int,X=I.map V.int/\I.length=i)/\am Y p/\ar p H8 Y) #[#[[],Z,Z],B8,ar.refl] Ic (λi X Y h=>by obtain⟨⟨I,e,l⟩,_⟩:=h;rw[e,Di,l];exact Dk _) (λi X Y hi h=>?_) ?_
   ·exact#[_,Z,p,Z,h.2.1,λe H7 e0 e1 B7 e7=>#[let #[I,h1,l]:=h.1;#[I++[e],by rw[h1,DJ];rfl,by rw[Dj,l];rfl],B7,h.2.2.trans (ar.of_eq e7)]]
   rintro X O ⟨⟨hs,rfl,_⟩,B9,k9⟩ l9 n6
   refine#[l9,_,Z,.inl #[aE.of jc,λhv n7=>y _ _ ?_]]
   clear y
   have s1:ae O (af (af O l9 (.lst (hs.map V.int))) hv (.tup (hs.map V.int))):=(je n6).trans (je n7)
   have a1:af (af O l9 (.lst (hs.map V.int))) hv (.tup (hs.map V.int)) hv=some (.tup (hs.map V.int)):=jc
   generalize af (af O l9 (.lst (hs.map V.int))) hv (.tup (hs.map V.int))=a2 at s1 a1
   have k0:ar p H7 a2:=((ar.of_eq q8).trans k9).trans (ar.of_same s1)
   have G1:=G7.but (B9.same s1) k0
   have a4:=k0 _ _ C w1
   refine#[_,Z,.inl #[Z,_,aE.of a4],_,Z,p,9,Z,G1.B,Ib,Ib,λD a0 d4 d7 B3 q0=>?_]
   have k1:ar p a2 a0:=ar.of_eq q0
   have G2:=G1.but B3 k1
   have K3:ar p H7 a0:=k0.trans k1
   have x1:bZ a0 x=bZ H7 x:=jR W G7.s K3
   refine#[_,Z,_,Z,_,Z,_,Z,_,Z,p,g,x,d,ys,Z,G2,hd,Ic,Ic,λw u r hw o2 d3 s9 s6 B4 s0 k4=>#[dP,λR n8=>?_]]
   have K1:aH p x H7 r:=K3.two.trans k4
   have w0:=K1 _ _ C N w1
   have t1:ah H7 r:=K1.tm W #[k,hk]
   have h6:r hv=some (.tup (hs.map V.int)):=k4.tm G2.B G2.s _ _ (k1.tm G1.B _ _ a1)
   have t:ae r (af r R (.tup [.int D,.ref hv,u])):=je n8
   have e2:af r R (.tup [.int D,.ref hv,u]) R=some (.tup [.int D,.ref hv,u]):=jc
   refine#[S,_,_,Z,Z,t _ _ w0,Ic,fE _ _ ?_]
   generalize af r R (.tup [.int D,.ref hv,u])=G at t e2
   have L:ar S G (af G S (.lst (M++[.ref R]))):=λb o nb e=>by rw[ji nb];exact e
   have T:ah G (af G S (.lst (M++[.ref R]))):=λb xs e=>L _ _ (jI e (t _ _ w0) (by intro z;cases z)) e
   have w':af G S (.lst (M++[.ref R])) S=some (.lst (M++[.ref R])):=jc
   generalize af G S (.lst (M++[.ref R]))=H0 at L T w'
   have t0:ah r H0:=λb xs e=>T _ _ (t _ _ e)
   have t2:ah H7 H0:=t1.trans t0
   have s2:bP H0 x:=let #[z,e]:=s0;#[z,L _ _ (DQ N) (t _ _ e)]
   have x0:bZ H0 x=bZ r x:=Ql s0 λo e=>L _ _ (DQ N) (t _ _ e)
   have s7:=J9 (n:=D) (hs:=hs) (w:=w) w3
   refine#[_,_,Sk.put D hs w s,M++[.ref R],Z,w',Zy (T _ _ e2) (t0 _ _ h6) (hw.mono t0) w3 (w2.mono t2),Qx o2 w3,Qy d3 w3 w4,by rw[s7,x0];omega,by rw[x0];exact s6,?_,s2,?_,t2 _ _ wa]
   ·refine aP λGq kq=>?_
    obtain⟨a,b,h1,h2,h3,h⟩:=B4.ob
    refine kq ?_
    clear kq
    exact#[a,b,h1,h2,h3,L _ _ (DQ C) (t _ _ h)]
   ·intro b o n1 n2 e
    exact L _ _ (jj e n3) (t _ _ (K1 _ _ n1 n2 (w9 _ _ n1 n2 e)))
  ·exact aO (Dy c) (fE _ _ #[_,_,s,M,Z,w1,w2,w3,w4,w5,w6,W,#[k,hk],w9,wa])
 ·obtain⟨o4,o8,s,M,rfl,w1,w2,w3,w4,w5,w6,W,w8,w9,wa⟩:=h
  refine#[_,Z,_,Z,_,Z,S,M,Z,.inl #[aE.of w1,λl2 n9=>?_]]
  have s8:ae H' (af H' l2 (.tup M)):=je n9
  refine#[_,Z,p,Z,W.same s8,λd9 O b4 b5 B9 q9=>#[nk,λv nv=>?_]]
  have k9:ar p H' O:=(ar.of_same s8).trans (ar.of_eq q9)
  have t9:ah H' O:=k9.tm W
  have sv:ae O (af O v (.tup [.str f,.ref ag,.ref l2,.int d9])):=je nv
  have tv:ah H' (af O v (.tup [.str f,.ref ag,.ref l2,.int d9])):=t9.trans (ae.tm sv)
  have l0:O l2=some (.tup M):=(ar.of_eq q9).tm (W.same s8) _ _ jc
  have x9:=jR W w8 k9
  have s5:=w8.but W k9
  have xv:=jU s5 sv
  exact q f I s d9 _ _ #[v,ag,l2,M,Z,jc,tv _ _ wa,sv _ _ l0,w2.mono tv] w3 w4 (by rw[xv,x9];exact w5) (by rw[xv,x9];exact w6) (B9.upd_new nv) (s5.new nv) (w9.trans (k9.two.trans (aH.of_same sv)))
theorem Zp(h:0<=d)(H:d < 3):∃m:Nat,dn [V.int 2,.int 4,.int 15] d=some (.int (m:Int))/\m<=15:=by
 rcases(by omega:d=0∨d=1∨d=2) with rfl |rfl |rfl
 ·exact#[2,Z,Ib]
 ·exact#[4,Z,Ib]
 ·exact#[15,Z,Ib]
theorem Zq(h:0<=d)(H:d < 3):∃m:Int,dn [V.int 12,.int 30,.int 60] d=some (.int m)/\0<=m/\m<=60:=by
 rcases(by omega:d=0∨d=1∨d=2) with rfl |rfl |rfl
 ·exact#[12,Z,Ib,Ib]
 ·exact#[30,Z,Ib,Ib]
 ·exact#[60,Z,Ib,Ib]
theorem xp:ai P w K mg base ax k f b ["_law_box_here","_law_names_here","_law_deep","_law_spare"] (gG 0):=by
 have n:∀v H Q E,¬gG 0 v H Q E:=λv H Q E h=>by
  obtain⟨p,g,S,d,y,_,_,z,_⟩:=h
  omega
 exact#[λv H Q E h=>absurd h (n v H Q E),λA o s H a u v Q E _ _ _ _ h=>absurd h (n v H Q E)]
theorem AB(F:aJ K "_law_chain" "_law_chain" mV d f)(B:aw K f ["_law_box_here","_law_names_here","_law_deep","_law_spare"] [])(M:mg "_law_chain"=some (.ref d))(a:aJ K "_law_what" "_law_what" sd k b)(e:aw K b ["_law_box_here","_law_names_here","_law_deep","_law_spare"] [])(g:mg "_law_what"=some (.ref k))(c:Cl P w K mg base 1 p l ["_law_box_here","_law_wide"] aM "_law_take")(C:Cl P w K mg base 2 q o ["_law_box_here"] eP "_law_number")(i:mg "len"=none)(j:mg "range"=none)(m:mg "tuple"=none):∀n,ai P w K mg base ax (2*n+4) d f ["_law_box_here","_law_names_here","_law_deep","_law_spare"] (gG n)
 |0=>xp
 |n+1=>by
  have h:=AB F B M a e g c C i j m n
  have H:=wO a c C #[h,B,F.kp,M]
  exact wZ F c C #[H,e,a.kp,g] i j m
theorem pi:aj ["_law_box_here","_law_names_here","_law_deep"] ["_law_box_here"] (aa wu):=bo
theorem xH(F:aJ K "_law_book" "_law_book" wu f fd)(U:Cl P w K mg base 1 fT f0 ["_law_box_here","_law_wide"] aM "_law_take")(cA:Cl P w K mg base 2 fA f2 ["_law_box_here","_law_total"] eE "_law_names")(cC:Cl P w K mg base 36 fC f3 ["_law_box_here","_law_names_here","_law_deep","_law_spare"] (gG 16) "_law_chain"):ai P w K mg base ax 37 f fd ["_law_box_here"] mv:=by
 refine F.ok pi ?_ λc0 A O s H vs Q E t h=>?_
 ·rintro _ _ _ _ ⟨p,rfl,_⟩
  rfl
 refine aP λGq V=>?_
 obtain⟨p,rfl,hB,q⟩:=h
 refine V ?_
 clear V
 refine#[_,(jd (jw 1 pi.nd (cA.e t.m (ja (pv 0) (ja jf jb)))) (jd (jw 2 pi.nd (jq jo (jC (ja jf (ja jf (ja jf jb)))) (U.e t.m (ja (pv 0) (ja jf jb))) (λ_ _=>Z))) (jg (jl (cC.e t.m (ja (pv 0) (ja (pv 1) (ja (pv 2) (ja (jC (ja (jq jo (jC (ja jf (ja jf (ja jf jb)))) (U.e t.m (ja (pv 0) (ja jf jb))) (λ_ _=>Z)) jb)) jb))))))))),?_]
 have b0:=aB
 refine ak λF1 i=>#[_,Z,p,14,Z,hB,Ib,Ib,λg Y H1 ng W hl h0 B X=>i _ _ ?_]
 clear i
 refine ak λF1 i=>#[dP,λl v=>#[_,Z,p,3,Z,B.upd_new v,Ib,Ib,λd2 H2 D x y q2=>?_]]
 obtain⟨m,C,m1⟩:=Zp D x
 have G:ar p H1 H2:=(ar.refl.upd_new v).trans (ar.of_eq q2)
 refine#[l,_,_,_,Z,Z,aE.of (by rw[q2 l (B.ne v)];exact jc),C,i _ _ ?_]
 clear i
 have j:=G _ _ (zf B W) W
 refine#[_,Z,_,Z,_,Z,dP,λl3 c=>#[_,Z,p,3,Z,y.upd_new c,Ib,Ib,λd4 d I J B4 q4=>?_]]
 obtain⟨M,k,m0,m6⟩:=Zq I J
 have L:ar p H2 d:=(ar.refl.upd_new c).trans (ar.of_eq q4)
 refine#[l3,_,_,_,Z,Z,aE.of (by rw[q4 l3 (y.ne c)];exact jc),k,iR,λS N=>?_]
 have R:=L _ _ (zf y j) j
 have k5:ar p d (af d S (.lst [.int M])):=ar.refl.upd_new N
 have G5:Gb (af d S (.lst [.int M])) p g S Y:=#[B4.upd_new N,ao R N,Ic,Ic,M,jc]
 have e5:bZ (af d S (.lst [.int M])) S=M:=zz jc
 have K5:ar p H (af d S (.lst [.int M])):=(X.trans G).trans (L.trans k5)
 have T:S≠p:=B4.ne N
 have r:H S=none:=by
  cases z:H S with
  |none=>rfl
  |some o=>have:=(X.trans G).trans L _ _ T z;rw[N]at this;cases this
 generalize af d S (.lst [.int M])=H5 at G5 e5 K5
 refine#[p,g,S,m,Y,Z,G5,Ic,Ic,Ic,λf is s a u H6 hc ok dp sz s0 B6 s6 k6=>q f is s a u H6 hc ok Ic Ic B6 λb o n e=>k6 _ _ n (jj e r) (K5 _ _ n e)]
noncomputable abbrev tG:Stmt:=bn 7
noncomputable abbrev uM:Stmt:=bn 8
noncomputable abbrev wo:Stmt:=bn 9
noncomputable abbrev pe:Stmt:=bn 10
noncomputable def Sk.flat:Sk->List Sk
 | .st _ _ w r=>w::(w.flat++r.flat)
 | .cl _ _ s _=>s.flat
 |_=>[]
noncomputable def Sk.tops:Sk->List Sk
 | .st _ _ w r=>w::r.tops
 |_=>[]
noncomputable def lr(W:List Sk):List Sk:=(W.map λw=>w::w.flat).flatten
theorem zG:∀{s:Sk},s.ok true->s.flat=lr s.tops
 | .nil,_=>rfl
 | .st _ _ w r,o=>by show w::(w.flat++r.flat)=w::w.flat++lr r.tops;rw[zG o.2];rfl
theorem kj:∀{b:Bool} {s:Sk},s.ok b->s.flat.length=s.size
 |true,.nil,_=>rfl
 |true,.st _ _ w r,o=>by
  have h:=kj (b:=false) (s:=w) o.1
  have H:=kj (b:=true) (s:=r) o.2
  show(w.flat++r.flat).length+1=w.size+r.size+1
  rw[Dj,h,H]
 |false,.cl _ _ s _,o=>kj (b:=true) (s:=s) o
 |false,.ask _,_=>rfl
 |false,.rd _ _,_=>rfl
 |false,.wr _ _,_=>rfl
theorem qi(a b:List Sk):lr (a++b)=lr a++lr b:=by unfold lr;rw[DJ,List.flatten_append]
theorem Z0(W:List Sk)(i:Nat):(lr (W.take i)).length<=(lr W).length:=by
 have:=El List.length (qi (W.take i) (W.drop i))
 rw[GP,Dj]at this
 omega
theorem Zz:∀{s:Sk} {S:List V},s.ok true->eY H s .non S->∀{i:Nat} {x:V},S[i]?=some x->∃w p h n u,s.tops[i]?=some w/\w.ok false/\w.dep<=s.dep/\w.size+1<=s.size/\x= .ref p/\H p=some (.tup [.int n,.ref h,u])/\eY H w u []
 | .nil,_,_,e,i,x,a=>by have e:_=[]:=e;rw[e]at a;simp at a
 | .st n f w r,_,o,#[p,h,u,y,e,b,g,c,d],0,x,a=>by
  rw[e]at a
  cases a
  exact#[w,p,h,n,u,Z,o.1,HA _ _,by show w.size+1<=w.size+r.size+1;omega,Z,b,c]
 | .st n f w r,_,o,#[p,h,u,y,e,b,g,c,d],i+1,x,a=>by
  rw[e]at a
  obtain⟨W,j,k,N,U,t,T,l,q,m⟩:=Zz o.2 d (i:=i) (x:=x) (by simpa using a)
  exact#[W,j,k,N,U,t,T,Ds l (Hv _ _),by show W.size+1<=w.size+r.size+1;omega,m]
theorem Kb:∀{s:Sk} {S:List V},s.ok true->eY H s .non S->S.length=s.tops.length
 | .nil,_,_,e=>by have e:_=[]:=e;rw[e];rfl
 | .st n b w r,_,o,#[p,h,u,y,e,c,d,f,a]=>by rw[e];exact El (·+1) (Kb o.2 a)
abbrev RT:=Hp->V->Sk->Prop
def fu(R:RT)(H:Hp):List Sk->List V->Prop
 | [],v=>v=[]
 |w::W,v=>∃x r,v=x::r/\R H x w/\fu R H W r
def wc(R:RT):Prop:=∀(H h:Hp) (x:V) (w:Sk),ah H h->R H x w->R h x w
theorem fu.mono{R:RT}(a:wc R)(k:ah H b):∀{W:List Sk} {v:List V},fu R H W v->fu R b W v
 | [],_,h=>h
 |_::_,_,#[x,r,e,c,d]=>#[x,r,e,a _ _ _ _ k c,fu.mono a k d]
theorem fu.app{R:RT}{bs:List Sk}{ys:List V}(a:fu R H bs ys):∀{W:List Sk} {v:List V},fu R H W v->fu R H (W++bs) (v++ys)
 | [],_,h=>by have e:_=[]:=h;rw[e];exact a
 |_::_,_,#[x,r,e,b,c]=>#[x,r++ys,by rw[e];rfl,b,fu.app a c]
theorem fu.len{R:RT}:∀{W:List Sk} {v:List V},fu R H W v->v.length=W.length
 | [],_,h=>by have e:_=[]:=h;rw[e];rfl
 |_::_,_,#[x,r,e,b,a]=>by rw[e];exact El (·+1) (fu.len a)
theorem fu.at{R:RT}:∀{W:List Sk} {v:List V},fu R H W v->∀{i:Nat} {x:V},v[i]?=some x->∃w,W[i]?=some w/\R H x w
 | [],_,h,i,x,a=>by have e:_=[]:=h;rw[e]at a;simp at a
 |w::_,_,#[y,r,e,b,c],0,x,a=>by rw[e]at a;cases a;exact#[w,Z,b]
 |w::W,_,#[y,r,e,b,c],i+1,x,a=>by rw[e]at a;exact fu.at c (i:=i) (by simpa using a)
def RW:RT:=λH x w=>∃q p u,x= .ref q/\H q=some (.tup [p,u])/\eY H w u []
theorem oK:wc RW:=λ_ _ _ _ k #[q,p,u,e,h,H]=>#[q,p,u,e,k _ _ h,H.mono k]
def vG(n:Nat):Sp:=λv H Q _=>∃(p:Addr) (a:List V) (w:Sk) (u:V),v=[.ref p,u]/\H p=some (.tup a)/\a.length+n<=100/\eY H w u []/\w.ok false/\w.dep < n/\w.size<=1000/\
 ∀(r:Addr) (x:List V) (h:Hp),H r=none->h r=some (.lst x)->fu RW h (w::w.flat) x->ae H h->Q (.ref r) h
def gJ(n:Nat):Sp:=λv H Q _=>∃(p:Addr) (b:List V) (f:Str) (i:List Int) (s:Sk) (a:Int) (u:V),v=[.ref p,u]/\H p=some (.tup b)/\b.length+n+1<=100/\ll H f i s a u/\s.ok true/\s.dep < n/\s.size<=1000/\
 ∀(r:Addr) (x:List V) (h:Hp),H r=none->h r=some (.lst x)->fu RW h s.flat x->ae H h->Q (.ref r) h
noncomputable def dj:List Sk->b8->b8
 | [],k=>k
 | .wr c i::r,k=>dj r (aV k (.inl c) (.int i))
 |_::r,k=>dj r k
theorem QA:∀(a b:List Sk) (k:b8),dj (a++b) k=dj b (dj a k)
 | [],_,_=>rfl
 |w::a,b,k=>by cases w<;>exact QA a b _
theorem qK:∀(a:List Sk) (k:b8),(dj a k).length<=k.length+a.length
 | [],_=>Dk _
 |w::a,k=>by
  have h:=qK a k
  cases w with
  |wr c i=>have H:=qK a (aV k (.inl c) (.int i));have b:=Yz k (.inl c) (.int i);show(dj a (aV k (.inl c) (.int i))).length<=k.length+(a.length+1);omega
  |_=>show(dj a k).length<=k.length+(a.length+1);omega
def rB:Sp:=λv H Q _=>∃(f:Str) (i:List Int) (s:Sk) (a:Int) (u:V),v=[u]/\ll H f i s a u/\s.ok true/\s.dep<=15/\s.size<=60/\
 ∀(r:Addr) (x:List V) (h:Hp),h r=some (.lst x)->fu RW h s.flat x->ae H h->Q (.ref r) h
def dI:Sp:=λv H Q _=>∃(f:Str) (i:List Int) (s:Sk) (a:Int) (u:V),v=[u]/\ll H f i s a u/\s.ok true/\s.dep<=15/\s.size<=60/\
 ∀(r:Addr) (h:Hp),H r=none->h r=some (.dK (dj s.flat []))->ae H h->Q (.ref r) h
inductive CF(pa tl:Addr)(u:V)(s:Sk)(H:Hp)(i:Nat)(σ:L2.St)(H':Hp):Prop
 |mk (o3 o4:Option V) (xs:List V) (e0:σ=[some (.ref pa),some u,some (.ref tl),o3,o4]) (e1:H' tl=some (.lst xs)) (e2:fu RW H' (lr (s.tops.take i)) xs) (e3:ae H H'):CF pa tl u s H i σ H'
theorem vv:aj ["path","what","within"] ["path","what"] (aa tG):=bo
theorem yv(F:aJ K "whats_at" "whats_at" tG f Y)(cI:Cl P w K mg base (2*n+2) fI f0 ["path","chain"] (gJ n) "whats_in"):ai P w K mg base ax (2*n+3) f Y ["path","what"] (vG (n+1)):=by
 refine F.ok vv ?_ λc0 A O s H vs Q E hr h=>?_
 ·rintro _ _ _ _ ⟨j,R,w,u,rfl,_⟩
  rfl
 refine aP λGq T=>?_
 obtain⟨j,R,w,u,rfl,hp,h0,B,k,U,hz,q⟩:=h
 refine T ?_
 clear T
 refine#[_,(jd (jw 2 vv.nd (kP (j5 (jy (pv 1))) (cI.e hr.m (ja (pv 0) (ja (jy (pv 1)) jb))) (jC jb))) (jg (jl (jr zT (jC (ja (jh (ja (pv 0) (ja (pv 1) jb))) jb)) (pv 2))))),?_]
 have b0:=aB
 have fl:=kj k
 refine ak λF1 C=>?_
 suffices W:∀(l:Addr) (x:List V) (d:Hp),d l=some (.lst x)->fu RW d w.flat x->ae H d->F1 [some (.ref j),some u,some (.ref l)] d by
  clear C
  cases w with
  |nil |st=>exact k.elim
  |ask b |rd c i |wr c i=>obtain⟨p,rfl,v⟩:=B;exact(js v Z #[Z,_,Z,aO Ig #[gQ,λl X=>W l [] _ jc Z (je X)]])
  |cl f is s a=>
   obtain⟨p,c,g,e,ss,rfl,v,h2,h3,h4,h5⟩:=B
   have U:s.dep+1 < n+1:=U
   exact(js v Z #[Z,_,Z,bV Ig #[_,Z,js v Z #[j,R,f,is,s,a,.ref c,Z,hp,Ic,#[c,g,e,ss,Z,h2,h3,h4,h5],k,Ic,hz,λl x d X D y S=>W l x d D y S]]])
 intro l x d D y S
 refine C _ _ ?_
 clear C
 have lx:=y.len
 refine#[_,Z,_,Z,bG,λt G=>#[iR,λL N=>#[_,Z,L,l,_,_,Z,Z,jc,ao (ao D G) N,by show 1+x.length<=_;omega,λr I=>?_]]]
 have J:ae d (af (af (af d t (.tup [.ref j,u])) L (.lst [.ref t])) r (.lst ([.ref t]++x))):=((je G).trans (je N)).trans (je I)
 have ht:af (af (af d t (.tup [.ref j,u])) L (.lst [.ref t])) r (.lst ([.ref t]++x)) t=some (.tup [.ref j,u]):=ao (ao jc N) I
 have M:H r=none:=by
  cases z:H r with
  |none=>rfl
  |some o=>have:=((je (o:=.lst [.ref t]) N) _ _ ((je (o:=.tup [.ref j,u]) G) _ _ (S _ _ z)));rw[I]at this;cases this
 exact q r _ _ M jc #[.ref t,x,Z,#[t,.ref j,u,Z,ht,B.mono (ae.tm (S.trans J))],y.mono oK (ae.tm J)] (S.trans J)
theorem qL:∀{b:Bool} {s:Sk},s.ok b->∀w∈s.flat,w.ok false
 |true,.nil,_,w,h=>nomatch h
 |true,.st _ _ v r,o,w,h=>(List.mem_cons.mp h).elim (λe=>by rw[e];exact o.1) λh=>(List.mem_append.mp h).elim (qL (b:=false) o.1 w) (qL (b:=true) o.2 w)
 |false,.cl _ _ s _,o,w,h=>qL (b:=true) (s:=s) o w h
 |false,.ask _,_,w,h=>nomatch h
 |false,.rd _ _,_,w,h=>nomatch h
 |false,.wr _ _,_,w,h=>nomatch h
theorem mw:aj ["path","chain","told","number","step"] ["path","chain"] (aa uM):=bo
theorem wA(F:aJ K "whats_in" "whats_in" uM f fd)(cA:Cl P w K mg base (2*n+1) fA f2 ["path","what"] (vG n) "whats_at")(O:mg "enumerate"=none):ai P w K mg base ax (2*n+2) f fd ["path","chain"] (gJ n):=by
 refine F.ok mw ?_ λc0 A R s H vs Q E U h=>?_
 ·rintro _ _ _ _ ⟨V,ps,f,is,s,a,u,rfl,_⟩
  rfl
 refine aP λGq k=>?_
 obtain⟨V,ps,f,is,s,a,u,rfl,hp,h5,hc,d,hd,hz,q⟩:=h
 refine k ?_
 clear k
 refine#[_,(jd (jw 2 mw.nd (jC jb)) (jd (ke D0 Z (QU Z O (ja (jy (pv 1)) jb)) (zc (n:=2) Z (jx (ju (i:=3) mw.nd Z (Or.inl Z)) (jx (ju (i:=4) mw.nd Z (Or.inl Z)) j8))) (jg (jN (kh Dw Fx Fv Jg (pv 2) (ja (cA.e U.m (ja (jr j4 (pv 0) (jh (ja (pv 3) jb))) (ja (jy (pv 4)) jb))) jb))))) (jg (jl (pv 2))))),?_]
 have b0:=aB
 obtain⟨c,g,e,ss,rfl,h1,h2,h3,h4⟩:=hc
 have fl:=kj d
 have lt:=Kb d h4
 refine ak λF1 l=>#[gQ,λT N=>l _ _ ?_]
 clear l
 have Y:ae H (af H T (.lst [])):=je N
 refine ak λF1 l=>dU λJ j=>(js (Y _ _ h1) Z #[e,Z,#[_,aA.of (Y _ _ h3)],j _ _ ?_])
 clear j
 refine Kk (K:=K) (xs:=ss) (CF V T (.ref c) s H) #[none,none,[],Z,jc,Z,Y] (λi σ Hx _ h=>?_) ?_ (λσ Hx h=>l _ _ ?_)
 ·obtain⟨_,_,_,_,_,_,v⟩:=h
  exact aA.of (v _ _ h3)
 ·intro E hE i x y σ L hx np f0 Gq k h
  clear l
  obtain⟨o3,o4,xs,rfl,M,W,v⟩:=h
  have B:ae L (af L y (.tup [.int i,x])):=je np
  have e8:af L y (.tup [.int i,x]) y=some (.tup [.int i,x]):=jc
  refine k ?_
  clear k
  generalize af L y (.tup [.int i,x])=H8 at B e8 ⊢
  have S8:=v.trans B
  obtain⟨w,p,hh,n1,u,ht,o1,d0,s2,rfl,h0,hw⟩:=Zz d (h4.mono (ae.tm S8)) hx
  refine#[y,_,Z,aA.of e8,Z,_,_,Z,_,_,Z,Z,?_]
  refine#[_,Z,.inl #[Z,_,aE.of (B _ _ M)],_,Z,_,Z,iR,λt nt=>#[V,t,_,_,Z,Z,ao (S8 _ _ hp) nt,jc,by show _+1<=_;omega,λr9 H9 e9 s9=>?_]]
  have S9:=(je (o:=.tup [.int i]) nt).trans s9
  refine(js (S9 _ _ h0) Z #[r9,_,w,u,Z,e9,by rw[Dj];show _+1+_<=_;omega,hw.mono (ae.tm S9),o1,Ic,Ic,λr X C nr U D s0=>?_])
  have S:=S9.trans s0
  have G:=S _ _ (B _ _ M)
  have lx:=W.len
  have l0:=D.len
  have bl:=Z0 s.tops (i+1)
  have et:s.tops.take (i+1)=s.tops.take i++[w]:=by rw[D7,ht];rfl
  have eb:lr [w]=w::w.flat:=by show(w::w.flat)++[]=_;rw[GF]
  rw[<- zG d,fl]at bl
  rw[et,qi,eb]at bl
  rw[Dj]at bl
  have I:ah C (af C T (.lst (xs++X))):=λb ys e=>by rw[ji (jI e G (by intro z;cases z))];exact e
  refine#[T,r,_,_,Z,Z,G,U,Ic,f0 _ _ #[_,_,xs++X,Z,jc,?_,λb o e=>?_]]
  ·rw[et,qi,eb]
   exact(D.mono oK I).app ((W.mono oK (ae.tm (B.trans S))).mono oK I)
  ·rw[ji (jj e N)]
   exact S _ _ (S8 _ _ e)
 ·obtain⟨o3,o4,xs,rfl,M,W,v⟩:=h
  rw[lt,DY,<- zG d]at W
  exact#[_,Z,q T xs Hx N M W v]
theorem vQ:ai P w K mg base ax k f c ["path","chain"] (gJ 0):=by
 have n:∀v H Q E,¬gJ 0 v H Q E:=λv H Q E h=>by
  obtain⟨p,d,f,i,s,a,u,_,_,_,_,_,z,_⟩:=h
  omega
 exact#[λv H Q E h=>absurd h (n v H Q E),λA o s H b U v Q E _ _ _ _ h=>absurd h (n v H Q E)]
theorem Aa(F:aJ K "whats_at" "whats_at" tG g a)(B:aw K a ["path","what"] [])(M:mg "whats_at"=some (.ref g))(b:aJ K "whats_in" "whats_in" uM c f)(d:aw K f ["path","chain"] [])(e:mg "whats_in"=some (.ref c))(m:mg "enumerate"=none):∀n,ai P w K mg base ax (2*n+2) c f ["path","chain"] (gJ n)
 |0=>vQ
 |n+1=>by
  have h:=Aa F B M b d e m n
  have H:=yv F #[h,d,b.kp,e]
  exact wA b #[H,B,F.kp,M] m
theorem AU:aj ["chain"] ["chain"] (aa wo):=bo
theorem wK(F:aJ K "whats" "whats" wo f j)(C:Cl P w K mg base 34 L l ["path","chain"] (gJ 16) "whats_in"):ai P w K mg base ax 35 f j ["chain"] rB:=by
 refine F.ok AU ?_ λp A o s H V Q E b h=>?_
 ·rintro _ _ _ _ ⟨f,i,s,a,u,rfl,_⟩
  rfl
 refine aP λM k=>?_
 obtain⟨f,i,s,a,u,rfl,v,d,N,O,q⟩:=h
 refine k ?_
 clear k
 refine#[_,(jg (jl (C.e b.m (ja (jh jb) (ja (pv 0) jb))))),?_]
 refine#[gQ,λt n=>#[_,Z,t,[],f,i,s,a,u,Z,jc,by show 0+16+1<=100;decide,?_,d,Ic,Ic,λr x y R b z S=>q r x y b z ((je n).trans S)]]
 obtain⟨c,g,e,B,rfl,D,G,I,J⟩:=v
 exact#[c,g,e,B,Z,ao D n,ao G n,ao I n,J.mono (ae.tm (je n))]
theorem iN:aj ["chain","cells","path","what"] ["chain"] (aa pe):=bo
theorem uj(F:aJ K "left" "left" pe f fd)(cW:Cl P w K mg base 35 fW f0 ["chain"] rB "whats"):ai P w K mg base ax 36 f fd ["chain"] dI:=by
 refine F.ok iN ?_ λc0 A T s H vs Q E hr h=>?_
 ·rintro _ _ _ _ ⟨f,U,s,a,u,rfl,_⟩
  rfl
 refine aP λGq C=>?_
 obtain⟨f,U,s,a,u,rfl,hc,l,hd,hz,q⟩:=h
 refine C ?_
 clear C
 refine#[_,(jd (jw 1 iN.nd zX) (jd (ke D0 Z (qf (cW.e hr.m (ja (pv 0) jb))) (zc (n:=2) Z (jx (ju (i:=2) iN.nd Z (Or.inl Z)) (jx (ju (i:=3) iN.nd Z (Or.inl Z)) j8))) (jg (jv (j5 (jy (pv 3))) (jg (zH (kG hr) (pv 1) (jy (pv 3)) (jy (pv 3)) Z)) jm))) (jg (jl (pv 1))))),?_]
 have b0:=aB
 refine ak λF1 D=>λdl N=>D _ _ ?_
 clear D
 have S:ae H (af H dl (.dK [])):=je N
 have B:af H dl (.dK []) dl=some (.dK []):=jc
 generalize af H dl (.dK [])=H1 at S B ⊢
 have fl:=kj l
 have V:ll H1 f U s a u:=by
  obtain⟨c,g,e,ss,e0,d,h2,h3,h4⟩:=hc
  exact#[c,g,e,ss,e0,S _ _ d,S _ _ h2,S _ _ h3,h4.mono (ae.tm S)]
 refine ak λF1 D=>dU λJ j=>#[_,Z,f,U,s,a,u,Z,V,l,hd,hz,λr xs H2 t hx M=>#[r,Z,#[_,aE.of t],j _ _ ?_]]
 clear j
 have X:r≠dl:=jI t (M _ _ B) (by intro z;cases z)
 have lx:=hx.len
 have S2:=S.trans M
 refine Jh (K:=K) (a:=r) (xs:=xs) (λi O R=>∃Y o3,O=[some u,some (.ref dl),Y,o3]/\R dl=some (.dK (dj (s.flat.take i) []))/\ar dl H2 R) #[none,none,Z,M _ _ B,ar.refl] (λi O R _ h=>?_) ?_ (λO R h=>D _ _ ?_)
 ·obtain⟨_,_,_,_,b⟩:=h
  exact aE.of (b _ _ X t)
 ·intro E _ i x O H3 G fE Gq C h
  clear D
  obtain⟨Y,o3,rfl,W,I⟩:=h
  refine C ?_
  clear C
  have h0:=(List.getElem?_eq_some_iff.mp G).1
  obtain⟨w,L,hw⟩:=hx.at G
  have t0:ah H2 H3:=λb ys e=>I _ _ (jI e (M _ _ B) (by intro z;cases z)) e
  have et:dj (s.flat.take (i+1)) []=dj [w] (dj (s.flat.take i) []):=by rw[D7,L,QA];rfl
  have lw:=qK (s.flat.take i) []
  rw[DG]at lw
  have lw:(dj (s.flat.take i) []).length<=0+min i s.flat.length:=lw
  obtain⟨qa,pa,v,rfl,hq,hv⟩:=oK _ _ _ _ t0 hw
  refine#[qa,_,Z,aA.of hq,Z,_,_,Z,_,_,Z,Z,?_]
  show gu _ _ _ E [some u,some (.ref dl),some pa,some v] H3
  have no:∀{y:Sk},dj [y] (dj (s.flat.take i) [])=dj (s.flat.take i) []->w=y->E.nx [some u,some (.ref dl),some pa,some v] H3:=λB e2=>fE _ _ #[_,_,Z,by rw[et,e2,B];exact W,I]
  cases w with
  |nil |st=>exact(qL l _ (Dx L)).elim
  |ask b |rd c i'=>obtain⟨p,rfl,d⟩:=hv;exact(js d Z #[Z,_,Z,aO Ig (no Z Z)])
  |cl f' i0 s' a'=>obtain⟨p,c,g,e,ss,rfl,d,_⟩:=hv;exact(js d Z #[Z,_,Z,aO Ig (no Z Z)])
  |wr c i'=>
   obtain⟨p,rfl,d⟩:=hv
   refine(js d Z #[Z,_,Z,bV Ig (js d Z #[_,Z,js d Z #[dl,_,Z,iI.k (k:=.inl c) W Ic,fE _ _ #[_,_,Z,by rw[et,jc];rfl,λb o nb e=>?_]]])])
   rw[ji nb]
   exact I _ _ nb e
 ·obtain⟨Y,o3,rfl,W,I⟩:=h
  rw[lx,DY]at W
  exact#[_,Z,q dl _ N W λb o e=>I _ _ (jj e N) (S2 _ _ e)]
noncomputable abbrev iA:Stmt:=bn 72
noncomputable abbrev oF:Stmt:=bn 74
def RR:RT:=λH x w=>∃q a p n h u,x= .ref q/\H q=some (.tup [a,.ref p])/\H p=some (.tup [.int n,.ref h,u])/\eY H w u []
theorem nq:wc RR:=λ_ _ _ _ k #[q,a,p,n,h,u,e,H,b,c]=>#[q,a,p,n,h,u,e,k _ _ H,k _ _ b,c.mono k]
def dh(n:Nat):Sp:=λv H Q _=>∃(p:Addr) (b:List V) (f:Str) (i:List Int) (s:Sk) (a:Int) (u:V),v=[u,.ref p]/\H p=some (.tup b)/\b.length+n<=100/\ll H f i s a u/\s.ok true/\s.dep < n/\s.size<=1000/\
 ∀(r:Addr) (x:List V) (h:Hp),H r=none->h r=some (.lst x)->fu RR h s.flat x->ae H h->Q (.ref r) h
inductive RI(pa fl:Addr)(u:V)(s:Sk)(H:Hp)(i:Nat)(σ:L2.St)(H':Hp):Prop
 |mk (o3 o4:Option V) (xs:List V) (e0:σ=[some u,some (.ref pa),some (.ref fl),o3,o4]) (e1:H' fl=some (.lst xs)) (e2:fu RR H' (lr (s.tops.take i)) xs) (e3:ae H H'):RI pa fl u s H i σ H'
theorem gc:aj ["_law_chain_here","_law_ahead","_law_found","_law_k","_law_step"] ["_law_chain_here","_law_ahead"] (aa iA):=bo
theorem pT(F:aJ K "_law_rows" "_law_rows" iA f fd)(cR:Cl P w K mg base (n+1) fR f3 ["_law_chain_here","_law_ahead"] (dh n) "_law_rows")(m0:mg "enumerate"=none):ai P w K mg base ax (n+2) f fd ["_law_chain_here","_law_ahead"] (dh (n+1)):=by
 refine F.ok gc ?_ λc0 A o1 s H vs Q E hr h=>?_
 ·rintro _ _ _ _ ⟨V,ps,f,is,s,a,u,rfl,_⟩
  rfl
 refine aP λGq X=>?_
 obtain⟨V,ps,f,is,s,a,u,rfl,hp,h6,hc,l,hd,hz,q⟩:=h
 refine X ?_
 clear X
 refine#[_,(jd (jw 2 gc.nd (jC jb)) (jd (ke D0 Z (QU Z m0 (ja (jy (pv 0)) jb)) (zc (n:=2) Z (jx (ju (i:=3) gc.nd Z (Or.inl Z)) (jx (ju (i:=4) gc.nd Z (Or.inl Z)) j8))) (jd (jN (kh Dw DN DM jP (pv 2) (ja (jh (ja (jr j4 (pv 1) (jh (ja (pv 3) jb))) (ja (pv 4) jb))) jb))) (jg (jv (j5 (jy (jq jW (pv 4) jf (λ_ _=>Z)))) (jg (jN (kh Dw Fx Fv Jg (pv 2) (ja (cR.e hr.m (ja (jy (jq jW (pv 4) jf (λ_ _=>Z))) (ja (jr j4 (pv 1) (jh (ja (pv 3) jb))) jb))) jb)))) jm)))) (jg (jl (pv 2))))),?_]
 have b0:=aB
 obtain⟨c,g,e,ss,rfl,h1,h2,h3,h4⟩:=hc
 have f2:=kj l
 have lt:=Kb l h4
 refine ak λF1 G=>#[gQ,λk N=>G _ _ ?_]
 clear G
 have s1:ae H (af H k (.lst [])):=je N
 refine ak λF1 G=>dU λJ j=>(js (s1 _ _ h1) Z #[e,Z,#[_,aA.of (s1 _ _ h3)],j _ _ ?_])
 clear j
 refine Kk (K:=K) (xs:=ss) (RI V k (.ref c) s H) #[none,none,[],Z,jc,Z,s1] (λi σ Hx _ h=>?_) ?_ (λσ Hx h=>G _ _ ?_)
 ·obtain⟨_,_,_,_,_,_,Y⟩:=h
  exact aA.of (Y _ _ h3)
 ·intro E hE i x pp σ H7 hx np f0 Gq X h
  clear G
  obtain⟨o3,o4,xs,rfl,w1,w2,Y⟩:=h
  have s8:ae H7 (af H7 pp (.tup [.int i,x])):=je np
  have e8:af H7 pp (.tup [.int i,x]) pp=some (.tup [.int i,x]):=jc
  refine X ?_
  clear X
  generalize af H7 pp (.tup [.int i,x])=H8 at s8 e8 ⊢
  have S8:=Y.trans s8
  obtain⟨w,p,hh,n1,u,ht,O,d0,s0,rfl,h5,hw⟩:=Zz l (h4.mono (ae.tm S8)) hx
  have lx:=w2.len
  have bl:=Z0 s.tops (i+1)
  have et:s.tops.take (i+1)=s.tops.take i++[w]:=by rw[D7,ht];rfl
  have eb:lr [w]=w::w.flat:=by show(w::w.flat)++[]=_;rw[GF]
  rw[<- zG l,f2,et,qi,eb,Dj,DU]at bl
  refine#[pp,_,Z,aA.of e8,Z,_,_,Z,_,_,Z,Z,?_]
  show eZ _ (gu _ _ _) E [some (.ref c),some (.ref V),some (.ref k),some (.int i),some (.ref p)] H8
  refine ak λF1 G=>#[_,Z,.inl #[Z,_,aE.of (s8 _ _ w1)],_,Z,_,Z,iR,λt9 n0=>#[V,t9,_,_,Z,Z,ao (S8 _ _ hp) n0,jc,by show _+1<=_;omega,λr9 H9 e9 s9=>?_]]
  have S9:=(je (o:=.tup [.int i]) n0).trans s9
  refine#[_,Z,bG,λt n2=>?_]
  have S:=S9.trans (je (o:=.tup [.ref r9,.ref p]) n2)
  have e0:af H9 t (.tup [.ref r9,.ref p]) t=some (.tup [.ref r9,.ref p]):=jc
  generalize af H9 t (.tup [.ref r9,.ref p])=v at S e0
  have w0:=S _ _ (s8 _ _ w1)
  refine#[k,_,_,Z,Z,w0,Ic,G _ _ ?_]
  clear G
  have T:ah v (af v k (.lst (xs++[.ref t]))):=λb ys e=>by rw[ji (jI e w0 (by intro z;cases z))];exact e
  have W:af v k (.lst (xs++[.ref t])) k=some (.lst (xs++[.ref t])):=jc
  have B:ae H (af v k (.lst (xs++[.ref t]))):=λb o e=>by rw[ji (jj e N)];exact S _ _ (S8 _ _ e)
  generalize af v k (.lst (xs++[.ref t]))=M at T W B
  have R:ah H8 M:=(ae.tm S).trans T
  have d:=R _ _ h5
  have y:=hw.mono R
  have x0:fu RR M (lr (s.tops.take i)++[w]) (xs++[.ref t]):=fu.app (bs:=[w]) (ys:=[.ref t]) #[.ref t,[],Z,#[t,.ref r9,p,n1,hh,u,Z,T _ _ e0,d,y],Z] ((w2.mono nq (ae.tm s8)).mono nq R)
  have no:w.flat=[]->E.nx [some (.ref c),some (.ref V),some (.ref k),some (.int i),some (.ref p)] M:=λfe=>f0 _ _ #[_,_,_,Z,W,by rw[et,qi,eb,fe];exact x0,B]
  cases w with
  |nil |st=>exact O.elim
  |ask b |rd c' i' |wr c' i'=>obtain⟨p',rfl,g1⟩:=y;exact(js d Z #[p',_,_,_,Z,Z,aA.of g1,Z,Z,_,Z,aO Ig (no Z)])
  |cl f' I C a'=>
   obtain⟨p',c',g',e',s2,rfl,g1,g2,g3,g4,g5⟩:=y
   have d0:C.dep+1<=s.dep:=d0
   have s0:C.size+1<=s.size:=s0
   refine(js d Z #[p',_,_,_,Z,Z,aA.of g1,Z,Z,_,Z,bV Ig #[_,Z,.inl #[Z,_,aE.of W],js d Z #[p',_,_,_,Z,Z,aA.of g1,Z,_,Z,_,Z,iR,λt1 L=>#[V,t1,_,_,Z,Z,ao (B _ _ hp) L,jc,by show _+1<=_;omega,λr0 H1 e1 s3=>?_]]]])
   have S0:=(je (o:=.tup [.int i]) L).trans s3
   have D:=ae.tm S0
   refine#[r0,_,f',I,C,a',.ref c',Z,e1,by rw[Dj];show _+1+_<=_;omega,#[c',g',e',s2,Z,D _ _ g2,D _ _ g3,D _ _ g4,g5.mono D],O,Ic,Ic,λr x1 H0 nr hr h0 s4=>?_]
   have U:=S0.trans s4
   have w3:=U _ _ W
   have l0:=h0.len
   have f4:=kj (b:=true) (s:=C) O
   have bl:(lr (s.tops.take i)).length+(C.flat.length+1)<=s.size:=bl
   have t0:ah H0 (af H0 k (.lst (xs++[.ref t]++x1))):=λb ys e=>by rw[ji (jI e w3 (by intro z;cases z))];exact e
   refine#[k,r,_,_,Z,Z,w3,hr,by rw[Dj];show _+1+_<=_;omega,f0 _ _ #[_,_,_,Z,jc,?_,λb o e=>?_]]
   ·rw[et,qi,eb]
    have z:=(h0.mono nq t0).app ((x0.mono nq (ae.tm U)).mono nq t0)
    have e3:lr (s.tops.take i)++(Sk.cl f' I C a'::(Sk.cl f' I C a').flat)=lr (s.tops.take i)++[Sk.cl f' I C a']++C.flat:=by rw[Hn];rfl
    rw[e3]
    exact z
   ·rw[ji (jj e N)]
    exact U _ _ (B _ _ e)
 ·obtain⟨o3,o4,xs,rfl,w1,w2,Y⟩:=h
  rw[lt,DY,<- zG l]at w2
  exact#[_,Z,q k xs Hx N w1 w2 Y]
theorem om:ai P w K mg base ax k f c ["_law_chain_here","_law_ahead"] (dh 0):=by
 have n:∀v H Q E,¬dh 0 v H Q E:=λv H Q E h=>by
  obtain⟨p,d,f,i,s,a,u,_,_,_,_,_,z,_⟩:=h
  omega
 exact#[λv H Q E h=>absurd h (n v H Q E),λA o s H b U v Q E _ _ _ _ h=>absurd h (n v H Q E)]
theorem pV(F:aJ K "_law_rows" "_law_rows" iA a f)(b:aw K f ["_law_chain_here","_law_ahead"] [])(M:mg "_law_rows"=some (.ref a))(m:mg "enumerate"=none):∀n,ai P w K mg base ax (n+1) a f ["_law_chain_here","_law_ahead"] (dh n)
 |0=>om
 |n+1=>by
  have h:=pV F b M m n
  exact pT F #[h,b,F.kp,M] m
theorem iz:aj ["_law_chain_here","_law_due_here","_law_path","_law_step"] ["_law_chain_here"] (aa oF):=bo
theorem tS(F:aJ K "_law_due" "_law_due" oF f fd)(cR:Cl P w K mg base 17 fR f0 ["_law_chain_here","_law_ahead"] (dh 16) "_law_rows"):ai P w K mg base ax 18 f fd ["_law_chain_here"] dI:=by
 refine F.ok iz ?_ λc0 A Y s H vs Q E hr h=>?_
 ·rintro _ _ _ _ ⟨f,is,s,a,u,rfl,_⟩
  rfl
 refine aP λGq I=>?_
 obtain⟨f,is,s,a,u,rfl,hc,t,hd,hz,q⟩:=h
 refine I ?_
 clear I
 refine#[_,(jd (jw 1 iz.nd zX) (jd (ke D0 Z (qf (cR.e hr.m (ja (pv 0) (ja (jh jb) jb)))) (zc (n:=2) Z (jx (ju (i:=2) iz.nd Z (Or.inl Z)) (jx (ju (i:=3) iz.nd Z (Or.inl Z)) j8))) (jg (jv (j5 (jy (jq jW (pv 3) jf (λ_ _=>Z)))) (jg (zH (kG hr) (pv 1) (jy (jq jW (pv 3) jf (λ_ _=>Z))) (jy (jq jW (pv 3) jf (λ_ _=>Z))) Z)) jm))) (jg (jl (pv 1))))),?_]
 have b0:=aB
 refine ak λF1 L=>λdl N=>L _ _ ?_
 clear L
 have S:ae H (af H dl (.dK [])):=je N
 have D:af H dl (.dK []) dl=some (.dK []):=jc
 generalize af H dl (.dK [])=H1 at S D ⊢
 have fl:=kj t
 have h0:ll H1 f is s a u:=by
  obtain⟨c,g,e,U,e0,d,h2,h3,h4⟩:=hc
  exact#[c,g,e,U,e0,S _ _ d,S _ _ h2,S _ _ h3,h4.mono (ae.tm S)]
 refine ak λF1 L=>dU λJ j=>#[_,Z,gQ,λt0 n0=>?_]
 have M:ae H1 (af H1 t0 (.tup [])):=je n0
 refine#[t0,[],f,is,s,a,u,Z,jc,by show 0+16<=100;decide,(by
  obtain⟨c,g,e,U,e0,d,h2,h3,h4⟩:=h0
  exact#[c,g,e,U,e0,M _ _ d,M _ _ h2,M _ _ h3,h4.mono (ae.tm M)]),t,Ic,Ic,λr xs H2 n1 B hx G=>#[r,Z,#[_,aE.of B],j _ _ ?_]]
 clear j
 have G:=M.trans G
 have r0:r≠dl:=jI B (G _ _ D) (by intro z;cases z)
 have lx:=hx.len
 have S2:=S.trans G
 refine Jh (K:=K) (a:=r) (xs:=xs) (λi V X=>∃o2 o3,V=[some u,some (.ref dl),o2,o3]/\X dl=some (.dK (dj (s.flat.take i) []))/\ar dl H2 X) #[none,none,Z,G _ _ D,ar.refl] (λi V X _ h=>?_) ?_ (λV X h=>L _ _ ?_)
 ·obtain⟨_,_,_,_,b⟩:=h
  exact aE.of (b _ _ r0 B)
 ·intro E _ i x V H3 O fE Gq I h
  clear L
  obtain⟨o2,o3,rfl,W,R⟩:=h
  refine I ?_
  clear I
  have h5:=(List.getElem?_eq_some_iff.mp O).1
  obtain⟨w,T,hw⟩:=hx.at O
  have t1:ah H2 H3:=λb ys e=>R _ _ (jI e (G _ _ D) (by intro z;cases z)) e
  have et:dj (s.flat.take (i+1)) []=dj [w] (dj (s.flat.take i) []):=by rw[D7,T,QA];rfl
  have lw:=qK (s.flat.take i) []
  rw[DG]at lw
  have lw:(dj (s.flat.take i) []).length<=0+min i s.flat.length:=lw
  obtain⟨qa,pa,p,n,hh,v,rfl,hq,l,hv⟩:=nq _ _ _ _ t1 hw
  refine#[qa,_,Z,aA.of hq,Z,_,_,Z,_,_,Z,Z,?_]
  show gu _ _ _ E [some u,some (.ref dl),some pa,some (.ref p)] H3
  have no:∀{y:Sk},dj [y] (dj (s.flat.take i) [])=dj (s.flat.take i) []->w=y->E.nx [some u,some (.ref dl),some pa,some (.ref p)] H3:=λD e2=>fE _ _ #[_,_,Z,by rw[et,e2,D];exact W,R]
  cases w with
  |nil |st=>exact(qL t _ (Dx T)).elim
  |ask b |rd c i'=>obtain⟨C,rfl,d⟩:=hv;exact(js l Z #[C,_,_,_,Z,Z,aA.of d,Z,Z,_,Z,aO Ig (no Z Z)])
  |cl f' i0 s' a'=>obtain⟨C,c,g,e,U,rfl,d,_⟩:=hv;exact(js l Z #[C,_,_,_,Z,Z,aA.of d,Z,Z,_,Z,aO Ig (no Z Z)])
  |wr c i'=>
   obtain⟨C,rfl,d⟩:=hv
   refine(js l Z #[C,_,_,_,Z,Z,aA.of d,Z,Z,_,Z,bV Ig (js l Z #[C,_,_,_,Z,Z,aA.of d,Z,_,Z,js l Z #[C,_,_,_,Z,Z,aA.of d,Z,dl,_,Z,iI.k (k:=.inl c) W Ic,fE _ _ #[_,_,Z,by rw[et,jc];rfl,λb o nb e=>?_]]])])
   rw[ji nb]
   exact R _ _ nb e
 ·obtain⟨o2,o3,rfl,W,R⟩:=h
  rw[lx,DY]at W
  exact#[_,Z,q dl _ N W λb o e=>R _ _ (jj e N) (S2 _ _ e)]
noncomputable abbrev BZ:Stmt:=bn 73
noncomputable abbrev iw:Stmt:=bn 75
noncomputable abbrev lU:Stmt:=bn 76
theorem Q4:∀{a:List (aY×V)} {k:aY} {x:V},(a.map (·.1)).Nodup->(k,x)∈a->bQ a k=some x
 | [],_,_,_,h=>nomatch h
 | (j,z)::r,k,x,n,h=>by
  rw[Et,Gy]at n
  rcases List.mem_cons.mp h with e |h
  ·cases e
   exact qM Z
  ·have H:¬j=k:=λe=>n.1 (by rw[e];exact List.mem_map.mpr #[_,h,Z])
   rw[qN (p:=(j,z)) H]
   exact Q4 n.2 h
theorem Zr{a:List (aY×V)}{k:aY}{v u:V}(h:bQ a k=some u):(aV a k v).map (·.1)=a.map (·.1):=by
 unfold aV
 rw[DB (by rw[zW,h];rfl),Fe]
 refine List.map_congr_left λp _=>?_
 show(if p.1=k then (p.1,v) else p).1=p.1
 split<;>rfl
theorem Zs{H:Hp}(h:H a=some o):af H a o=H:=by
 funext b
 by_cases e:b=a
 ·rw[e,jc,h]
 ·rw[ji e]
theorem qV{X:Cx}{K:Frag}(h:X.K=K):dy X (.builtin "isinstance") (λa H Q=>∃x y c t b,a=[x,y]/\AA y=some c/\dG K H x t/\kitOne K t c=some b/\Q (.bl b) H):=by
 subst h
 exact Jr
theorem QB:∀(W:List Sk) (k:b8),(k.map (·.1)).Nodup/\(∀p∈k,∃i,p.2= .int i)->((dj W k).map (·.1)).Nodup/\∀p∈dj W k,∃i,p.2= .int i
 | [],_,h=>h
 |w::W,k,h=>by
  cases w with
  |wr c i=>
   refine QB W (aV k (.inl c) (.int i)) #[?_,λp hp=>?_]
   ·cases e:bQ k (Sum.inl c) with
    |none=>exact tQ _ h.1 e
    |some u=>rw[Zr e];exact h.1
   ·unfold aV at hp
    split at hp
    ·obtain⟨a,H,rfl⟩:=List.mem_map.mp hp
     split
     ·exact#[i,Z]
     ·exact h.2 a H
    ·rcases List.mem_append.mp hp with hp |hp
     ·exact h.2 p hp
     ·rw[List.mem_singleton.mp hp];exact#[i,Z]
  |_=>exact QB W k h
theorem uS(W:List Sk):((dj W []).map (·.1)).Nodup/\∀p∈dj W [],∃i,p.2= .int i:=QB W [] #[Gd,λ_ h=>nomatch h]
theorem Xk{t:TE}{q:List V->Hp->Prop}{H:Hp}(y:V)(j:H a=some (.frz o (.dK b)))(C:b.length<=1000000)(p:∀k x (Q:VK),(k,x)∈b->Q y H->t (some (kV k)::c) H Q)(r:q (b.map λ_=>y) H):dM (BO a o b) 1 c (bf 0) hX t q H:=by
 have B:=aB
 refine#[λi m l d=>m=b.length - i/\i<=b.length/\l=(b.take i).map (λ_=>y)/\d=H,#[b.length,Ie,Dt _,Ie,Z],?_]
 rintro i m l d ⟨rfl,D,rfl,rfl⟩
 by_cases h:i < b.length
 ·refine .inr #[#[h,j],?_,λY f=>Y=(b.take (i+1)).map (λ_=>y)/\f=d,λY f #[s,u]=>#[b.length - (i+1),Ic,Z,h,s,u],λv f T g z=>?_]
  ·rw[Di,DG]
   omega
  obtain⟨e,k,x,n,z⟩:=z
  subst e z
  obtain⟨v,rfl⟩:=oh g
  have A:(k,x)∈b:=Dx n
  refine#[#[[some _],Z,Z],p k x _ A #[?_,Z]]
  rw[D7,n,DJ]
  rfl
 ·have e:i=b.length:=by omega
  subst e
  rw[DY]
  exact .inl #[#[Z,j],r]
def iP:Sp:=λv H Q _=>∃(f:Str) (i:List Int) (s:Sk) (a:Int) (u:V),v=[u]/\ll H f i s a u/\s.ok true/\s.dep<=15/\s.size<=60/\∀h,ae H h->Q (.bl true) h
theorem ll.same(h:ll H f i s a u)(k:ah H b):ll b f i s a u:=by
 obtain⟨c,g,e,S,E,d,j,l,m⟩:=h
 exact#[c,g,e,S,E,k _ _ d,k _ _ j,k _ _ l,m.mono k]
structure CD(K:Frag):Prop where
 dd:kitOne K (.type "dict") (.type "dict")=some true
 ii:kitOne K (.type "int") (.type "int")=some true
 ib:kitOne K (.type "int") (.type "bool")=some false
theorem iQ:aj ["_law_chain_here","_law_due_here","_law_found"] ["_law_chain_here"] (aa iw):=bo
noncomputable def Zt:Scope:=#[.function,[(".0",.local),("_law_cell",.local),("isinstance",.globalImplicit),("int",.globalImplicit),("bool",.globalImplicit),("_law_found",.free)],false,false,[]]
theorem wn:(["_law_cell","_law_found"]:List Str).Nodup:=by decide+kernel
theorem wJ:aX ["_law_chain_here","_law_due_here","_law_found"] (aa iw) Zt ["_law_cell","_law_found"] 1 [2]:=nh
theorem oj(F:aJ K "_law_right" "_law_right" iw f fd)(cU:Cl P w K mg base 18 fU f0 ["_law_chain_here"] dI "_law_due")(cL:Cl P w K mg base 36 fL f2 ["chain"] dI "left")(M:mg "isinstance"=none)(t:mg "dict"=none)(mi:mg "int"=none)(mb:mg "bool"=none)(y:mg "all"=none)(B:CD K):ai P w K mg base ax 37 f fd ["_law_chain_here"] iP:=by
 refine F.ok iQ ?_ λc0 A O s H vs Q E j h=>?_
 ·rintro _ _ _ _ ⟨f,I,s,a,u,rfl,_⟩
  rfl
 refine aP λGq kq=>?_
 obtain⟨f,I,s,a,u,rfl,C,g,D,G,q⟩:=h
 refine kq ?_
 clear kq
 refine#[_,(jd (jw 1 iQ.nd (cU.e j.m (ja (pv 0) jb))) (jd (kA (i:=2) iQ.nd Z (Or.inr Z) (cL.e j.m (ja (pv 0) jb))) (jd (jv (PW.pt (KK (ZC (ZB (jJ Jr Z M boot_isinstance (ja (pv 2) (ja (Qq (v:=.ty "dict") Z t boot_dict Z) jb))))) (qY (jz (v0 (Fi (kG j))) (pv 2) (pv 1) (aF _))))) (jg (jl (@vg _ _ _ _))) jm) (jd (jv (ZC (ZB (jJ (nM Z) Z y boot_all (ja (@pf _ _ _ _ _ _ _ (["_law_cell","_law_found"]) (1) ([2]) _ _ _ _ Z (pv 2) wJ (λ_ _ _ _ _=>(ju (i:=0) wn Z (Or.inl Z))) (λ_ _ _ _ _=>(@kW _)) (λ_ _ _ _ _=>(Qj (jJ (qV (K:=K) Z) Z M boot_isinstance (ja (Qu (kG j) (pv 1) (pv 0) (λ_ _=>Z)) (ja (Qq (v:=.ty "int") Z mi boot_int Z) jb))) (ZD (xO (jJ (qV (K:=K) Z) Z M boot_isinstance (ja (Qu (kG j) (pv 1) (pv 0) (λ_ _=>Z)) (ja (Qq (v:=.ty "bool") Z mb boot_bool Z) jb))))))) (by intro _;rfl)) jb)))) (jg (jl (@vg _ _ _ _))) jm) (jd (zH (kG j) (pv 2) jf jf Z) (jg (jl (qg (Xm (Fi (kG j))) (cL.e j.m (ja (pv 0) jb)) (pv 1) (aF _))))))))),?_]
 have b0:=aB
 have fl:=kj g
 have wl:=qK s.flat []
 have wl:(dj s.flat []).length<=0+s.flat.length:=wl
 obtain⟨gn,J⟩:=uS s.flat
 refine ak λr c=>#[_,Z,f,I,s,a,u,Z,C,g,D,G,λL H1 nd h1 R=>c _ _ ?_]
 clear c
 refine ak λr c=>#[_,Z,f,I,s,a,u,Z,C.same (ae.tm R),g,D,G,λd l nf n s2=>c _ _ ?_]
 clear c
 have S2:=R.trans s2
 have d2:=s2 _ _ h1
 have T:L≠d:=jj h1 nf
 refine ak λr c=>#[_,Z,_,_,_,_,_,Z,Z,dG.dK n,B.dd,_,Z,nC #[_,Z,_,Z,d,L,_,Z,Z,n,d2,J,_,Z,aO Z (c _ _ ?_)]]
 clear c
 refine ak λr c=>#[_,Z,d,_,Z,n,λo=>Xk (.bl true) jc Ic (λk x Q hm h=>?_) ?_]
 ·obtain⟨i,U⟩:=J _ hm
  have U:x= .int i:=U
  subst U
  have dg:bQ (dj s.flat []) k=some (.int i):=Q4 gn hm
  exact#[_,Z,_,Z,d,.int i,Z,.inl #[_,k,.inr #[o,jc],Z,dg.symm],_,_,_,_,_,Z,Z,dG.int _,B.ii,true,Z,bV Z #[_,Z,_,Z,d,.int i,Z,.inl #[_,k,.inr #[o,jc],Z,dg.symm],_,_,_,_,_,Z,Z,dG.int _,B.ib,false,Z,h]]
 ·intro p N
  have eH:af (af l d (.frz o (.dK (dj s.flat [])))) d (.dK (dj s.flat []))=l:=by rw[rX];exact Zs n
  rw[eH]
  have W:l p=none:=by
   by_cases z:p=d
   ·rw[z,jc]at N;cases N
   ·rw[ji z]at N;exact N
  refine#[p,(dj s.flat []).map λ_=>true,Z,aE.of (by rw[jc,Fe];rfl),_,Z,?_]
  have ea:(((dj s.flat []).map λ_=>true).all id)=true:=by rw[Hw];intro b hb;obtain⟨_,_,rfl⟩:=List.mem_map.mp hb;rfl
  rw[ea]
  refine aO Z (c _ _ ?_)
  clear c
  have S:ae l (af l p (.lst ((dj s.flat []).map λ_=>V.bl true))):=je W
  generalize af l p (.lst ((dj s.flat []).map λ_=>V.bl true))=X at S ⊢
  refine ak λr c=>#[_,Z,d,_,Z,iI.k (k:=.inl 77) (S _ _ n) Ic,c _ _ ?_]
  clear c
  have Y:ar d X (af X d (.dK (aV (dj s.flat []) (.inl 77) (.int 1)))):=λb o nb e=>by rw[ji nb];exact e
  generalize af X d (.dK (aV (dj s.flat []) (.inl 77) (.int 1)))=H4 at Y
  have n0:H d=none:=by
   cases z:H d with
   |none=>rfl
   |some o=>have:=R _ _ z;rw[nf]at this;cases this
  have S4:ae H H4:=λb o e=>Y _ _ (jj e n0) (S _ _ (S2 _ _ e))
  refine#[_,Z,f,I,s,a,u,Z,C.same (ae.tm S4),g,D,G,λl5 H5 n1 h5 s5=>#[_,Z,l5,L,_,Z,Z,h5,s5 _ _ (Y _ _ T (S _ _ d2)),J,q _ (S4.trans s5)]]
theorem wI:NX (.lst x):=λa z=>by cases z
theorem Kp.seq{K:Frag}(e:Kp H b)(h:aE K H a x):aE K b a x:=by
 rcases h with (h | ⟨o,h⟩) |h
 ·exact .inl (.inl (e _ _ wI h))
 ·exact .inl (.inr #[o,e _ _ (by intro c z;cases z) h])
 ·exact .inr h
structure Xs(K:Frag)(mg:Str->Option Value)(TL TD:Addr):Prop where
 gL:mg "TooLong"=some (.ref TL)
 hL:clsIn K TL≠none
 tL:typeIn K (.ref TL)=some (.type "type")
 mL:mroIn K TL (.type "BaseException")=some true
 gD:mg "TooDeep"=some (.ref TD)
 hD:clsIn K TD≠none
 tD:typeIn K (.ref TD)=some (.type "type")
 mD:mroIn K TD (.type "BaseException")=some true
 LL:mroIn K TL (.ref TL)=some true
 DL:mroIn K TD (.ref TL)=some false
 DD:mroIn K TD (.ref TD)=some true
def xh(K:Frag):Sp:=λv H Q _=>∃(a:Addr) (n:List Int),v=[.ref a]/\aE K H a (n.map V.int)/\n.length<=63/\∀(f:Str) (i:List Int) (s:Sk) (b:Int) (u:V) (h:Hp),ll h f i s b u->s.ok true->s.dep<=15->s.size<=60->Kp H h->Q u h
def mN(K:Frag):Sp:=λv H Q _=>∃(a:Addr) (n:List Int),v=[.ref a]/\aE K H a (n.map V.int)/\n.length<=63/\∀h,Q (.bl true) h
theorem vP{H:Hp}{D:List Df}{n:List Nat}(h:lh H D n){i:Nat}{d:Df}{p:List Str}(a:D[i]?=some d)(c:H d.pa=some (.tup (p.map V.str))):n[i]?=some p.length:=by
 have f:i < D.length:=(List.getElem?_eq_some_iff.mp a).1
 have b:n[i]?=some (n[i]'(by rw[<- h.1];exact f)):=Dh _
 obtain⟨g,e,l,_⟩:=h.2 i d _ a b
 rw[c]at e
 injection e with e
 injection e with e
 have:=El List.length e
 rw[Di,Di]at this
 rw[b,<- l,this]
theorem gO:aj ["_law_script","_law_box_here","_law_chain_here","_law_program","_law_f","_law_args"] ["_law_script"] (aa BZ):=bo
theorem y7(F:aJ K "_law_any_book" "_law_any_book" BZ f fd)(cB:Cl P w K mg base 1 fB f3 ["_law_script","_law_k"] (mE K) "_law_box")(cT:Cl P w K mg base 1 fT f4 ["_law_box_here","_law_wide"] aM "_law_take")(cK:Cl P w K mg base 23 fK f5 ["_law_box_here"] lK "_law_case")(cM:Cl P w K mg base 65 fM f6 ["program"] (lG K nA) "made")(cC:Cl P w K mg base 3 fC f7 ["_law_box_here"] hG "_law_cells")(GR:ai P w K mg base (em P w) 45 fR f0 ["parts","f","args","cells","most"] (pd TL TD nA))(bR:aw K f0 ["parts","f","args","cells","most"] [])(kR:keepIn K (.ref fR)=true)(mR:mg "run"=some (.ref fR))(cY:Cl P w K mg base 37 fY f9 ["_law_box_here"] mv "_law_book")(X:Xs K mg TL TD):ai P w K mg base ax 66 f fd ["_law_script"] (xh K):=by
 refine F.ok gO ?_ λc0 A o1 s H vs Q E j h=>?_
 ·rintro _ _ _ _ ⟨a,ns,rfl,_⟩
  rfl
 refine aP λGq kq=>?_
 obtain⟨a,ns,rfl,hS,a2,q⟩:=h
 refine kq ?_
 clear kq
 refine#[_,(jd (jw 1 gO.nd (cB.e j.m (ja (pv 0) (ja jf jb)))) (jd (jw 2 gO.nd (@Xl _ _ _)) (jd (jv (kE (cT.e j.m (ja (pv 1) (ja jf jb)))) (jd (kL (cK.e j.m (ja (pv 1) jb)) (zc (n:=3) Z (jx (ju (i:=3) gO.nd Z (Or.inl Z)) (jx (ju (i:=4) gO.nd Z (Or.inl Z)) (jx (ju (i:=5) gO.nd Z (Or.inl Z)) j8))))) (jg (@sK _ _ _ _ _ _ _ _ _ _ _ _ _ _ _ _ _ _ Z Z (@tJ _ _ _ _ (2) _ _ gO.nd Z (Or.inl Z) (@oA _ _ _ _ _ _ _ _ _ _ _ _ _ _ GR j.m Z mR kR bR .nil (ja (cM.e j.m (ja (pv 3) jb)) (ja (pv 4) (ja (pv 5) (ja (cC.e j.m (ja (cB.e j.m (ja (pv 0) (ja jf jb))) jb)) (ja jf jb))))) Ib Ih Ih) Ih (by first |exact .inl Z |exact .inr Z)) Z X.gL X.hL X.tL X.mL Z X.gD X.hD X.tD X.mD (λ_=>(jg (jw 2 gO.nd (@Xl _ _ _)))) (λ_=>(jg (jw 2 gO.nd (@Xl _ _ _)))) Ib Ib))) jm) (jd (jv (ZA (@vW _ _ _ _ _ (pv 2))) (jg (jw 2 gO.nd (cY.e j.m (ja (cB.e j.m (ja (pv 0) (ja jf jb))) jb)))) jm) (jg (jl (pv 2))))))),?_]
 have b0:=aB
 refine ak λB g=>#[_,Z,a,ns,1,Z,hS,Ib,Ib,λp H1 np B1 e1=>g _ _ ?_]
 clear g
 have s1:ae H H1:=λb o e=>by rw[e1 b (jj e np)];exact e
 refine ak λB g=>g _ _ ?_
 clear g
 refine ak λB g=>?_
 suffices m:(∀(O J L:Option V) (k:Hp),Kp H k->B [some (.ref a),some (.ref p),some .non,O,J,L] k)/\∀(O J L:Option V) (f:Str) (I:List Int) (s:Sk) (b:Int) (c:Addr) (k:Hp),ll k f I s b (.ref c)->s.ok true->s.dep<=15->s.size<=60->Kp H k->B [some (.ref a),some (.ref p),some (.ref c),O,J,L] k by
  clear g
  refine#[_,Z,p,2,Z,B1,Ib,Ib,λd2 H2 d0 d1 B2 q2=>#[Z,_,Z,?_]]
  have s2:ae H H2:=λb o e=>by rw[q2 b (jj e np)];exact s1 _ _ e
  by_cases c:d2=0
  ·refine bV (DP (by rw[c])) ?_
   refine ak λF2 f2=>#[_,Z,p,Z,B2,λt r v2 v3 ds M H3 ht j hD h1 h8 nl hN R h0 B3 k3=>#[t,_,Z,aA.of ht,Z,_,_,Z,_,_,Z,_,_,Z,Z,f2 _ _ ?_]]
   clear f2
   have s3:ae H H3:=λb o e=>k3 _ _ (jj e np) (s2 _ _ e)
   obtain⟨d,ps,ta,I,hd,rfl,h2,rfl,h3,h4,h5,h6⟩:=h0
   show vf _ _ _ _ _ _ _ [some (.ref a),some (.ref p),some .non,some (.ref r),some (.str d.f),some (.ref ta)] H3
   refine#[_,Z,r,ds,M,Z,j,hD,Ic,λd hd=>(hN.1 d hd).1,λv H4 hv s4=>?_]
   obtain⟨pA,S,rfl,h7,h'⟩:=JM hv
   have S4:=s3.trans s4
   refine#[_,Z,_,Z,_,Z,a,ns,2,Z,S4.seq hS,Ib,Ib,λp5 H5 U B5 e5=>#[p5,Z,B5,λcA Cs H6 n1 a0 gC lC B6 k6=>?_]]
   have s6:ae H4 H6:=λb o e=>k6 _ _ (jj e U) (by rw[e5 b (jj e U)];exact e)
   have S6:=S4.trans s6
   have l:=ae.tm (s4.trans s6)
   obtain⟨i,hi,ei⟩:=List.mem_iff_getElem.mp hd
   have W:ds[i]?=some d:=by rw[<- ei];exact Dh hi
   have hP:Ps H6 nA pA ds nl S:=#[s6 _ _ h7,h'.mono (ae.tm s6),#[M,hD.mono l],hN,R.mono l]
   have Y:=vP R W h2
   rw[<- h4]at Y
   have kS:Kp H H6:=Kp.of_same S6
   refine#[pA,ta,cA,i,Cs,d,ds,nl,S,I,Z,hP,W,Y,l _ _ h3,h6,a0,gC,λu sk b H7 D ok dp sz s7=>?_,?_,?_]
   ·obtain⟨c',z⟩:=id D
    obtain⟨_,_,_,rfl,_⟩:=z
    exact m.2 _ _ _ d.f I sk b c' H7 D ok dp sz (kS.trans (Kp.of_same s7))
   ·intro _ H7 k7 x C T eC hx hT a1
    cases eC
    refine .inl #[X.LL,λT' y=>?_]
    exact m.1 _ _ _ _ λb o N e=>JL (H:=H) (k7 _ _ N (kS _ _ N e)) N hx y
   ·intro _ H7 k7 x C T eC hx hT a1
    cases eC
    refine .inr #[X.DL,X.DD,λT' y=>?_]
    exact m.1 _ _ _ _ λb o N e=>JL (H:=H) (k7 _ _ N (kS _ _ N e)) N hx y
  ·exact aO (Dy λz=>c (by injection z)) (m.1 _ _ _ _ (Kp.of_same s2))
 refine#[λO J L k G=>g _ _ ?_,λO J L f I s b c k D ok dp sz G=>g _ _ ?_]
 ·clear g
  refine ak λB g=>#[_,Z,_,Z,bV (DP Z) #[_,Z,a,ns,3,Z,G.seq hS,Ib,Ib,λp8 H8 n0 B8 e8=>#[p8,Z,B8,λf I s b u H9 D ok dp sz B9 k9=>g _ _ ?_]]]
  clear g
  exact#[_,Z,q f I s b u H9 D ok dp sz λb o N e=>k9 _ _ (jj (G _ _ N e) n0) (by rw[e8 b (jj (G _ _ N e) n0)];exact G _ _ N e)]
 ·clear g
  exact ak λB g=>#[_,Z,_,Z,aO (Dy (by intro z;cases z)) (g _ _ #[_,Z,q f I s b (.ref c) k D ok dp sz G])]
theorem pj:aj ["_law_script","_law_one","_law_other"] ["_law_script"] (aa lU):=bo
theorem yc(F:aJ K "law" "law" lU f M)(R:Cl P w K mg base 1 fB T ["_law_script","_law_k"] (mE K) "_law_box")(U:Cl P w K mg base 66 fA Y ["_law_script"] (xh K) "_law_any_book")(V:Cl P w K mg base 37 fY fdY ["_law_box_here"] mv "_law_book")(C:Cl P w K mg base 37 fH fdH ["_law_chain_here"] iP "_law_right")(y:Cl P w K mg base 36 fL fdL ["chain"] dI "left")(W:Cl P w K mg base 18 fU fdU ["_law_chain_here"] dI "_law_due"):ai P w K mg base ax 67 f M ["_law_script"] (mN K):=by
 refine F.ok pj ?_ λX A O s H vs Q E d h=>?_
 ·rintro _ _ _ _ ⟨a,n,rfl,_⟩
  rfl
 refine aP λGq z=>?_
 obtain⟨a,n,rfl,B,j,q⟩:=h
 refine z ?_
 clear z
 refine#[_,(jd (jw 1 pj.nd (U.e d.m (ja (pv 0) jb))) (jd (jw 2 pj.nd (V.e d.m (ja (R.e d.m (ja (pv 0) (ja jf jb))) jb))) (jg (jl (Qj (C.e d.m (ja (pv 1) jb)) (Qj (C.e d.m (ja (pv 2) jb)) (Qj (qg (Xm (Fi (kG d))) (y.e d.m (ja (pv 1) jb)) (W.e d.m (ja (pv 1) jb)) (aF _)) (ZD (qg (Xm (Fi (kG d))) (y.e d.m (ja (jh (ja jk (ja (jh jb) (ja (jh jb) (ja jf jb))))) jb)) zX (aF _)))))))))),?_]
 have b0:=aB
 refine ak λF1 i=>#[_,Z,a,n,Z,B,j,λf I s b u H1 hc k D S k1=>i _ _ ?_]
 clear i
 refine ak λF1 i=>#[_,Z,a,n,4,Z,k1.seq B,Ib,Ib,λp H2 N B2 e2=>#[p,Z,B2,λf' l s' b' u' H3 r t v x B3 k3=>i _ _ ?_]]
 clear i
 have s3:ae H1 H3:=λb o e=>k3 _ _ (jj e N) (by rw[e2 b (jj e N)];exact e)
 have g:=hc.same (ae.tm s3)
 refine#[_,Z,f,I,s,b,u,Z,g,k,D,S,λH4 G=>#[true,Z,iT #[_,Z,f',l,s',b',u',Z,r.same (ae.tm G),t,v,x,λH5 s5=>#[true,Z,iT ?_]]]]
 have J:=G.trans s5
 refine#[_,Z,f,I,s,b,u,Z,g.same (ae.tm J),k,D,S,λl6 H6 n6 h6 s6=>#[_,Z,f,I,s,b,u,Z,g.same (ae.tm (J.trans s6)),k,D,S,λl7 H7 n7 h7 s7=>#[l6,l7,_,Z,Z,s7 _ _ h6,h7,(uS s.flat).2,true,Z,iT ?_]]]
 refine#[gQ,λt1 n1=>#[gQ,λt2 n2=>#[nk,λc L=>?_]]]
 refine#["f",[],.nil,0,.ref c,Z,#[c,t1,t2,[],Z,jc,ao (ao jc n2) L,ao jc L,Z],DR,Ib,Ib,λl8 H8 n8 h8 s8=>λl9 n9=>#[l8,l9,[],Z,Z,ao h8 n9,jc,(λp hp=>nomatch hp),q _]]
@[elab_as_elim] theorem C5 {P:List Value->Prop}:∀(u:List Value),u.length=1->(∀a,P [a])->P u
 | [a],_,q=>q a
theorem _root_.L2.aJ.b1{K:Frag}{st:Stmt}{p:List Str}(F:aJ K x q st f g)(h:∀(kV d b:Value) (A:Option Addr) (c C a:Value),bindArgs (fnOf x q (bg st) (a7 st) (aa st) .none kV d b A c C) #[[a],[]]=pure (p.zip [a]):=by intros;rfl)(e:p.length=1:=by rfl):aw K g p []:=F.binds λkV d b A c C u H=>C5 u (H.trans e) λa=>h kV d b A c C a
@[elab_as_elim] theorem CU {P:List Value->Prop}:∀(u:List Value),u.length=2->(∀a b,P [a,b])->P u
 | [a,b],_,q=>q a b
theorem _root_.L2.aJ.b2{K:Frag}{st:Stmt}{p:List Str}(F:aJ K x q st f i)(h:∀(kV d g:Value) (A:Option Addr) (c C a b:Value),bindArgs (fnOf x q (bg st) (a7 st) (aa st) .none kV d g A c C) #[[a,b],[]]=pure (p.zip [a,b]):=by intros;rfl)(e:p.length=2:=by rfl):aw K i p []:=F.binds λkV d g A c C u H=>CU u (H.trans e) λa b=>h kV d g A c C a b
@[elab_as_elim] theorem CY {P:List Value->Prop}:∀(u:List Value),u.length=3->(∀a b c,P [a,b,c])->P u
 | [a,b,c],_,q=>q a b c
theorem _root_.L2.aJ.b3{K:Frag}{st:Stmt}{p:List Str}(F:aJ K x q st f j)(h:∀(kV d g:Value) (A:Option Addr) (C i a b c:Value),bindArgs (fnOf x q (bg st) (a7 st) (aa st) .none kV d g A C i) #[[a,b,c],[]]=pure (p.zip [a,b,c]):=by intros;rfl)(e:p.length=3:=by rfl):aw K j p []:=F.binds λkV d g A C i u H=>CY u (H.trans e) λa b c=>h kV d g A C i a b c
@[elab_as_elim] theorem CQ {P:List Value->Prop}:∀(u:List Value),u.length=4->(∀a b c d,P [a,b,c,d])->P u
 | [a,b,c,d],_,q=>q a b c d
theorem _root_.L2.aJ.b4{K:Frag}{st:Stmt}{p:List Str}(F:aJ K x q st f j)(h:∀(kV D g:Value) (A:Option Addr) (C i a b c d:Value),bindArgs (fnOf x q (bg st) (a7 st) (aa st) .none kV D g A C i) #[[a,b,c,d],[]]=pure (p.zip [a,b,c,d]):=by intros;rfl)(e:p.length=4:=by rfl):aw K j p []:=F.binds λkV D g A C i u H=>CQ u (H.trans e) λa b c d=>h kV D g A C i a b c d
@[elab_as_elim] theorem CZ {P:List Value->Prop}:∀(u:List Value),u.length=5->(∀a b c d e,P [a,b,c,d,e])->P u
 | [a,b,c,d,e],_,q=>q a b c d e
theorem _root_.L2.aJ.b5{K:Frag}{st:Stmt}{p:List Str}(F:aJ K x q st f j)(h:∀(kV D g:Value) (A:Option Addr) (C i a b c d e:Value),bindArgs (fnOf x q (bg st) (a7 st) (aa st) .none kV D g A C i) #[[a,b,c,d,e],[]]=pure (p.zip [a,b,c,d,e]):=by intros;rfl)(e:p.length=5:=by rfl):aw K j p []:=F.binds λkV D g A C i u H=>CZ u (H.trans e) λa b c d e=>h kV D g A C i a b c d e
def el(K:Frag)(p q:Str)(st:Stmt)(f:Addr):Prop:=∃(o:Value) (O:Option Addr) (kV d a:Value) (A:Option Addr) (c C:Value) (s:Array (Option Value)),K.lookup f=some #[o,O,.func (fnOf p q (bg st) (a7 st) (aa st) .none kV d a A c C),s]/\codeIn K c q=true/\keepIn K (.ref f)=true
def bM(K:Frag)(p:Str)(st:Stmt)(f:Addr):Prop:=nsIn K mainGlobals p=some (some (.ref f))/\el K p p st f
section
variable {K:Frag}{py q:Str}{st:Stmt}{f:Addr}{oc:Value}{od:Option Addr}{kV dc pm:Value}{an:Option Addr}{cd ct:Value}{sl:Array (Option Value)}
theorem Cz(l:K.lookup f=some #[oc,od,.func (fnOf py q (bg st) (a7 st) (aa st) .none kV dc pm an cd ct),sl])(c:codeIn K cd q=true)(k:keepIn K (.ref f)=true):el K py q st f:=#[_,_,_,_,_,_,_,_,_,l,c,k]
theorem Bv(a:nsIn K mainGlobals py=some (some (.ref f)))(l:K.lookup f=some #[oc,od,.func (fnOf py py (bg st) (a7 st) (aa st) .none kV dc pm an cd ct),sl])(c:codeIn K cd py=true)(k:keepIn K (.ref f)=true):bM K py st f:=#[a,Cz l c k]
theorem el.go(h:el K py q st f):∃F,aJ K py q st f F/\keepIn K (.ref f)=true:=by
 obtain⟨oc,od,kV,dc,pm,an,cd,ct,sl,l,c,k⟩:=h
 exact#[_,ZJ l c k,k]
theorem bM.go(t:bM K py st f)(X:K.In h)(G:h.Ns mainGlobals mg):∃a,aJ K py py st f a/\keepIn K (.ref f)=true/\mg py=some (.ref f):=by
 obtain⟨a,F,k⟩:=t.2.go
 exact#[a,F,k,mg_of X G t.1]
end
theorem wD{l:PySem.W.OpenLaw}{K:Frag}(X:K.In h)(G:h.Ns mainGlobals mg)(l9:mg "law"=some (.ref fa))
             
  (t2:bM K "names_in" dC f0)
  (t3:bM K "own_terms" wj l')
  (t4:bM K "used_behind_terms" pq U3)
  (t5:bM K "used_ahead_of" ua f1)
  (t7:bM K "used_ahead" rW U4)
  (t8:bM K "bodies_in" xK n3)
  (t9:bM K "many_cuts" pw n4)
  (t':bM K "deed_of" nL n5)
  (n6:bM K "place_of_give" hV f2)
  (n7:bM K "place_of_set" nR n8)
  (n9:bM K "part_made" nV n')
  (o1:bM K "made" mJ o2)
  (o3:bM K "_law_box" ya o4)
  (rJ:bM K "_law_take" rq o5)
  (o6:bM K "_law_number" ie o7)
  (o8:bM K "_law_names" gH o9)
  (o':bM K "_law_term" mz p0)
  (p1:bM K "_law_spot" rh p2)
  (p3:bM K "_law_statement" pM U5)
  (p4:bM K "_law_body" mG p5)
  (p6:bM K "_law_any" xj p8)
  (dw:bM K "_law_op" BP p9)
  (p':bM K "_law_inner" lO q0)
  (q1:bM K "_law_looped" gi q2)
  (q3:bM K "_law_ticking" eG q4)
  (q5:bM K "_law_busy" pP q6)
  (q7:bM K "_law_case" mq q8)
  (q9:bM K "joined" ip q')
  (r0:bM K "worth" iF r1)
  (r2:bM K "named" iy r3)
  (r4:bM K "begun" lE r5)
  (r6:bM K "deeper" iK r7)
  (r8:bM K "part_of" il r9)
  (r':bM K "cut_at" ma s0)
  (s1:bM K "held_at" iB s2)
  (s3:bM K "worths" fV s4)
  (s5:bM K "deed_at" iG s6)
  (s7:bM K "found_in" gw s8)
  (s9:bM K "end_of" iJ s')
  (u0:bM K "first_of" gE u1)
  (u2:bM K "onward" iH u3)
  (u4:bM K "run" wX u8)
  (u9:bM K "whats_at" tG U6)
  (u':bM K "whats_in" uM v2)
  (v3:bM K "whats" wo v4)
  (v5:bM K "left" pe v7)
  (v8:bM K "_law_cells" lM v9)
  (v':bM K "_law_what" sd U7)
  (w0:bM K "_law_chain" mV w1)
  (w2:bM K "_law_book" wu w3)
  (w4:bM K "_law_rows" iA w5)
  (w6:bM K "_law_any_book" BZ w7)
  (w8:bM K "_law_due" oF w9)
  (w':bM K "_law_right" iw x0)
  (tZ:bM K "law" lU fZ)
  (x1:nsIn K mainGlobals "NOUGHT"=some (some (.ref y))) (x2:K.lookup y=some #[.type "tuple",U8,.seq (List.toArray [.str "num" U9,.int 0 U']) nN,V0]) (x3:nsIn K mainGlobals "Cutting"=some (some (.ref C))) (v1:nsIn K mainGlobals "TOP"=some (some (.int 1000000000000000000 T5))) (vD:nsIn K mainGlobals "DEEPEST"=some (some (.int 15 tD))) (vR:nsIn K mainGlobals "BookRun"=some (some (.ref c))) (vT:nsIn K mainGlobals "Turns"=some (some (.ref c0)))
  (x4:nsIn K mainGlobals "TooLong"=some (some (.ref x)))
  (x5:nsIn K mainGlobals "TooDeep"=some (some (.ref u)))
  (x7:K.lookup x=some #[T6,T7,.cls T8,T9]) (t0:typeIn K (.ref x)=some (.type "type")) (m7:mroIn K x (.type "BaseException")=some true) (k4:keepIn K (.ref x)=true)
  (x8:K.lookup u=some #[T',U0,.cls U1,U2]) (t1:typeIn K (.ref u)=some (.type "type")) (m8:mroIn K u (.type "BaseException")=some true) (k5:keepIn K (.ref u)=true)
  (x9:mroIn K x (.ref x)=some true) (x':mroIn K u (.ref x)=some false) (y0:mroIn K u (.ref u)=some true)
  (e0:excIn K x ny "ValueError.__new__"=true) (e1:excIn K u ny "ValueError.__new__"=true)
  (X':oO K x) (a':oO K u)
  (rk:RK K c) (y1:Mk K c f3) (tm:yb K c0 "__init__" f4) (m9:bK K c "take_turn" f5) (m':bK K c "number_in" f6) (m3:bK K c "chain_of" y2) (b0:bK K c "what_of" y3)
  (ck:CK K C) (mk:Mk K C f7) (b7:bK K C "place_of_body" f9) (y5:bK K C "place_of" y8) (z8:bK K C "place_of_cut" z') (A':bK K C "ways_of" B1)
  (B2:el K "__init__" "Cutting.__init__" rg f7)
  (B3:el K "place_of_body" "Cutting.place_of_body" sV f9)
  (B4:el K "place_of" "Cutting.place_of" sM y8)
  (B5:el K "place_of_cut" "Cutting.place_of_cut" ut z')
  (B6:el K "ways_of" "Cutting.ways_of" sY B1)
  (B7:el K "__init__" "Turns.__init__" nZ f4)
  (B8:el K "take_turn" "Turns.take_turn" lY f5)
  (B9:el K "number_in" "Turns.number_in" pQ f6)
  (B':el K "__init__" "BookRun.__init__" pK f3)
  (C':el K "chain_of" "BookRun.chain_of" sh y2)
  (D':el K "what_of" "BookRun.what_of" tO y3)
  (z3:nsIn K mainGlobals "len"=some none)
  (z4:nsIn K mainGlobals "int"=some none)
  (O:nsIn K mainGlobals "range"=some none)
  (z0:nsIn K mainGlobals "list"=some none)
  (q:nsIn K mainGlobals "reversed"=some none)
  (i:nsIn K mainGlobals "isinstance"=some none)
  (Q:nsIn K mainGlobals "tuple"=some none)
  (A:nsIn K mainGlobals "sorted"=some none)
  (z5:nsIn K mainGlobals "set"=some none)
  (z6:nsIn K mainGlobals "zip"=some none)
  (z1:nsIn K mainGlobals "dict"=some none)
  (z2:nsIn K mainGlobals "bool"=some none)
  (z7:nsIn K mainGlobals "all"=some none)
  (o:nsIn K mainGlobals "enumerate"=some none)
  (kt:CD K)
  :∃fd:FuncData,(∀(s:Shared) (v:Value),BindsTo s fd #[[v],[]] [("_law_script",v)])/\∀base:Heap,K.In base->base.Ns mainGlobals mg->ai l.prog w K mg base ax 67 fa fd ["_law_script"] (mN K):=by
 have e:=l9.symm.trans (mg_of X G tZ.1)
 cases e
 obtain⟨E1,r,R,M⟩:=t2.go X G
 obtain⟨V1,b9,E2,E3⟩:=t3.go X G
 obtain⟨V2,b',V3,E4⟩:=t4.go X G
 obtain⟨V4,S,k6,m4⟩:=t5.go X G
 obtain⟨V5,c1,V6,E5⟩:=t7.go X G
 obtain⟨V7,c2,E6,E7⟩:=t8.go X G
 obtain⟨V8,F1,k7,c3⟩:=t9.go X G
 obtain⟨V9,c4,E8,E9⟩:=t'.go X G
 obtain⟨V',T,k8,c5⟩:=n6.go X G
 obtain⟨W0,c6,E',H0⟩:=n7.go X G
 obtain⟨W1,c9,H1,H2⟩:=n9.go X G
 obtain⟨W2,c',H3,H4⟩:=o1.go X G
 obtain⟨W3,F2,k9,d0⟩:=o3.go X G
 obtain⟨W4,F,k,m⟩:=rJ.go X G
 obtain⟨W5,B,U,V⟩:=o6.go X G
 obtain⟨W6,Y,k2,m5⟩:=o8.go X G
 obtain⟨W7,F0,k',m6⟩:=o'.go X G
 obtain⟨W8,d1,H5,H6⟩:=p1.go X G
 obtain⟨W9,d2,W',H7⟩:=p3.go X G
 obtain⟨Y',F3,H8,d3⟩:=p4.go X G
 obtain⟨Z',d4,H9,H'⟩:=p6.go X G
 obtain⟨dOp,D,k0,m0⟩:=dw.go X G
 obtain⟨dIn,d5,I0,I1⟩:=p'.go X G
 obtain⟨dLo,d6,I2,I3⟩:=q1.go X G
 obtain⟨dTi,d7,I4,I5⟩:=q3.go X G
 obtain⟨dBu,d8,I6,I7⟩:=q5.go X G
 obtain⟨dCa,d9,I8,I9⟩:=q7.go X G
 obtain⟨dJo,d',I',J0⟩:=q9.go X G
 obtain⟨dWo,E,k3,m1⟩:=r0.go X G
 obtain⟨dNd,F4,e2,e3⟩:=r2.go X G
 obtain⟨dBe,e4,J',K1⟩:=r4.go X G
 obtain⟨dDp,e5,K3,K4⟩:=r6.go X G
 obtain⟨dPf,e6,K5,K'⟩:=r8.go X G
 obtain⟨dCu,I,k1,m2⟩:=r'.go X G
 obtain⟨dHe,F5,e7,e8⟩:=s1.go X G
 obtain⟨dWs,e9,L0,L1⟩:=s3.go X G
 obtain⟨dDa,e',L3,L4⟩:=s5.go X G
 obtain⟨dFo,f',L5,L6⟩:=s7.go X G
 obtain⟨dEn,F6,g0,g1⟩:=s9.go X G
 obtain⟨dFi,g2,L7,L8⟩:=u0.go X G
 obtain⟨dOn,g4,L9,L'⟩:=u2.go X G
 obtain⟨dRu,g5,M0,M1⟩:=u4.go X G
 obtain⟨dWa,g6,kWa,M3⟩:=u9.go X G
 obtain⟨dWi,F7,M4,g7⟩:=u'.go X G
 obtain⟨dWt,g8,M5,M6⟩:=v3.go X G
 obtain⟨dLf,F9,g',h0⟩:=v5.go X G
 obtain⟨dCe,h1,M7,M8⟩:=v8.go X G
 obtain⟨dLw,h2,kLw,M9⟩:=v'.go X G
 obtain⟨dLc,a0,M',h3⟩:=w0.go X G
 obtain⟨dLb,a1,h4,h5⟩:=w2.go X G
 obtain⟨dLr,a2,N0,h6⟩:=w4.go X G
 obtain⟨dAb,h7,N1,N2⟩:=w6.go X G
 obtain⟨dLd,a3,h8,h'⟩:=w8.go X G
 obtain⟨dRi,i0,N3,N4⟩:=w'.go X G
 obtain⟨dmI,i1,kmI⟩:=B2.go
 obtain⟨dmB,a4,kmB⟩:=B3.go
 obtain⟨dmO,i2,kmO⟩:=B4.go
 obtain⟨dmC,i3,kmC⟩:=B5.go
 obtain⟨dmW,i4,kmW⟩:=B6.go
 obtain⟨dTI,i',kTI⟩:=B7.go
 obtain⟨dTT,j0,kTT⟩:=B8.go
 obtain⟨dTN,j1,kTN⟩:=B9.go
 obtain⟨dRI,j2,kRI⟩:=B'.go
 obtain⟨dRC,a5,kRC⟩:=C'.go
 obtain⟨dRW,l0,kRW⟩:=D'.go
 obtain⟨ocZ,odZ,N5,N6,N7,N8,N9,N',slZ,lZ,cZ,kZ⟩:=tZ.2
 have FZ:=ZJ (st:=lU) lZ cZ kZ
 have b:=EL X G z3
 have p:=EL X G z4
 have a:=EL X G O
 have J:=EL X G z0
 have N:=EL X G q
 have j:=EL X G i
 have n:=EL X G Q
 have f:=EL X G A
 have L:=EL X G z5
 have n0:=EL X G z6
 have t:=EL X G z1
 have n1:=EL X G z2
 have n2:=EL X G z7
 have d:=EL X G o
 have l1:md K y:=λH=>.inr #[_,_,_,x2,Z,Z,bG,(.cons #[_,Z] (.cons #[_,Z] .nil))]
 refine#[fnOf "law" "law" (bg lU) (a7 lU) (aa lU) .none N5 N6 N7 N8 N9 N',λs v=>.of_eq Z,λbase _ _=>?_]
 have g:ai l.prog w K mg base ax 1 o5 _ _ aM:=si F
 have G5:ai l.prog w K mg base ax 1 o4 _ _ (mE K):=yy F2 b p
 have G0:ai l.prog w K mg base ax 2 o7 _ _ eP:=Y8 B #[g,F.b2,k,m]
 have G3:ai l.prog w K mg base ax 2 o9 _ _ eE:=pZ Y g F.b2 k m a
 have G6:ai l.prog w K mg base ax 6 p0 _ _ (cq 4):=uN (P:=l.prog) (w:=w) (base:=base) F0 F0.b3 m6 #[g,F.b2,k,m] #[G0,B.b1,U,V] b 4
 have O0:ai l.prog w K mg base ax 7 p2 _ _ iD:=sW d1 #[g,F.b2,k,m] #[G6,F0.b3,k',m6]
 have SS:=Ah (P:=l.prog) (w:=w) (base:=base) d2 F3 #[g,F.b2,k,m] #[G6,F0.b3,k',m6] #[O0,d1.b2,H5,H6] d2.b5 H7 F3.b5 d3 b n a
 have O1:ai l.prog w K mg base ax 21 p5 _ _ (gA 6):=(SS 6).2
 have O2:ai l.prog w K mg base ax 22 p8 _ _ nO:=xW d4 #[g,F.b2,k,m] #[G3,Y.b2,k2,m5] #[O1,F3.b5,H8,d3] b a n p
 have G1:ai l.prog w K mg base ax 2 p9 _ _ lH:=Ak D #[g,F.b2,k,m]
 have O3:ai l.prog w K mg base ax 3 q0 _ _ (c7 2):=pR d5 #[g,F.b2,k,m] #[G1,D.b3,k0,m0]
 have O4:ai l.prog w K mg base ax 3 q2 _ _ (c7 1):=Zb d6 #[g,F.b2,k,m] #[G1,D.b3,k0,m0] p n
 have O5:ai l.prog w K mg base ax 3 q4 _ _ (c7 1):=X1 d7 #[g,F.b2,k,m] #[G1,D.b3,k0,m0] p n
 have O6:ai l.prog w K mg base ax 4 q6 _ _ lV:=sf d8 #[g,F.b2,k,m] #[G1,D.b3,k0,m0] #[G3,Y.b2,k2,m5] #[O4,d6.b4,I2,I3] #[O5,d7.b4,I4,I5] #[O3,d5.b4,I0,I1]
 have O7:ai l.prog w K mg base ax 23 q8 _ _ lK:=rZ d9 #[g,F.b2,k,m] #[G0,B.b1,U,V] #[O6,d8.b1,I6,I7] #[O2,d4.b3,H9,H'] b n
 have NS:=u7 (P:=l.prog) (w:=w) (base:=base) r r.b1 M L f
 have G7:ai l.prog w K mg base ax 7 f0 _ _ (cQ 6):=NS 6
 have O8:ai l.prog w K mg base ax 7 f0 _ _ (pH K):=xX (fN:=f0) (fdN:=E1) r #[NS 5,r.b1,R,M] L f
 have O9:ai l.prog w K mg base ax 1 l' _ _ mj:=yi b9
 have US:=AC (P:=l.prog) (w:=w) (base:=base) c1 b' S c1.b2 E5 b'.b2 E4 S.b2 m4 #[O9,b9.b1,E2,E3] #[G7,r.b1,R,M] J L f N
 have O':ai l.prog w K mg base ax 31 f1 _ _ (fj 7):=(US 7).2
 have P0:ai l.prog w K mg base ax 10 f1 _ _ (fj 0):=(US 0).2
 have P1:ai l.prog w K mg base ax 1 n3 _ _ ms:=wt c2
 have G9:ai l.prog w K mg base ax 2 n4 _ _ gB:=rP F1 #[P1,c2.b1,E6,E7] J
 have P4:ai l.prog w K mg base ax 1 n5 _ _ iq:=sJ c4
 have P5:ai l.prog w K mg base ax 8 f2 _ _ gf:=og T #[G7,r.b1,R,M]
 have P6:ai l.prog w K mg base ax 8 f2 _ _ (oG K):=xk T #[O8,r.b1,R,M]
 have P7:ai l.prog w K mg base ax 11 n8 _ _ h9:=se c6 #[P0,S.b2,k6,m4]
 have P8:ai l.prog w K mg base ax 63 f9 _ _ (lF C 8):=Cy (P:=l.prog) (w:=w) (base:=base) ck a4 i2 i3 i4 a4.b3 b7 i2.b3 y5 i3.b3 z8 i4.b4 A' #[G9,F1.b1,k7,c3] #[O',S.b2,k6,m4] #[P4,c4.b1,E8,E9] #[P5,T.b1,k8,c5] #[P7,c6.b2,E',H0] b n N 8 (Dk _)
 have P9:ai l.prog w K mg base ax 3 f7 _ _ (rC C):=vV i1 ck #[G9,F1.b1,k7,c3]
 have P':ai l.prog w K mg base ax 64 n' _ _ (lB K y):=sL c9 ck mk P9 i1.b2 (mg_of X G x3) (mg_of X G x1) l1 P8 a4.b3 b7 #[P6,T.b1,k8,c5] n N
 have Q':ai l.prog w K mg base ax 65 o2 _ _ (lG K y):=sC c' #[P',c9.b3,H1,H2] n
 have R0:ai l.prog w K mg base ax 1 q' _ _ iO:=Ze d' (mg_of X G v1)
 have G4:ai l.prog w K mg base ax 7 r1 _ _ (ci K 6):=ph (P:=l.prog) (w:=w) (base:=base) E E.b2 m1 #[R0,d'.b3,I',J0] 6
 have G2:ai l.prog w K mg base ax 1 s0 _ _ (gV y):=pE I
 have G':ai l.prog w K mg base ax 2 s2 _ _ (g9 y):=Zg F5 #[G2,I.b2,k1,m2] t n0
 have R1:ai l.prog w K mg base ax 8 s4 _ _ gr:=Zi e9 #[G4,E.b2,k3,m1] n
 have R3:ai l.prog w K mg base ax 9 s6 _ _ (f8 y):=Zj e' #[G',F5.b3,e7,e8] #[G2,I.b2,k1,m2] #[G4,E.b2,k3,m1] #[R1,e9.b2,L0,L1]
 have R4:ai l.prog w K mg base ax 1 s8 _ _ eM:=pU f'
 have l2:ai l.prog w K mg base ax 8 s' _ _ (mn y):=nP F6 #[G2,I.b2,k1,m2] #[G4,E.b2,k3,m1] n l1
 have R5:ai l.prog w K mg base ax 9 u1 _ _ (fX y):=X3 g2 #[l2,F6.b3,g0,g1] t n0
 have R6:ai l.prog w K mg base ax 9 u3 _ _ (t6 y):=Zh g4 #[G2,I.b2,k1,m2] #[G',F5.b3,e7,e8] #[R4,f'.b1,L5,L6] #[l2,F6.b3,g0,g1]
 have R7:clsIn K x≠none:=by
  unfold clsIn
  rw[x7]
  intro z
  cases z
 have R8:clsIn K u≠none:=by
  unfold clsIn
  rw[x8]
  intro z
  cases z
 have l3:=mg_of X G x4
 have l4:=mg_of X G x5
 have R9:XM K mg "TooLong" x:=#[e0,k4,X',t0,l3]
 have R':XM K mg "TooDeep" u:=#[e1,k5,a',t1,l4]
 have l5:ai l.prog w K mg base ax 1 r3 _ _ iX:=Zk F4
 have S0:ai l.prog w K mg base ax 2 r9 _ _ iX:=Zl e6 #[l5,F4.b2,e2,e3]
 have S1:ai l.prog w K mg base ax 2 r5 _ _ io:=oJ e4 #[l5,F4.b2,e2,e3] b
 have S2:ai l.prog w K mg base (em l.prog w) 1 r7 _ _ (eI u):=Zm e5 (mg_of X G vD) R'
 have S3:ai l.prog w K mg base ax 1 f4 _ _ (lQ c):=tM i' rk
 have S4:ai l.prog w K mg base (em l.prog w) 1 f5 _ _ (hZ c x):=pW j0 rk R9
 have S5:ai l.prog w K mg base ax 1 f6 _ _ (fQ c):=uI j1 rk
 have S6:ai l.prog w K mg base ax 2 f3 _ _ (me c):=uq j2 rk S3 i'.b3 (mg_of X G vT) tm
 have S7:=yR (P:=l.prog) (w:=w) (base:=base) rk a5 a5.b4 m3 l0 l0.b3 b0 #[R5,g2.b2,L7,L8] #[R3,e'.b3,L3,L4] #[R6,g4.b2,L9,L'] S4 j0.b1 m9 S5 j1.b2 m' (S2) e5.b1 K3 K4 #[S0,e6.b2,K5,K'] n 16
 have S8:ai l.prog w K mg base (em l.prog w) 45 u8 _ _ (pd x u y):=wH g5 rk y1 S6 j2.b4 (mg_of X G vR) #[S1,e4.b3,J',K1] S7 a5.b4 m3
 have S9:ai l.prog w K mg base ax 3 v9 _ _ hG:=nW h1 #[g,F.b2,k,m] #[G0,B.b1,U,V] a
 have S':ai l.prog w K mg base ax 36 w1 _ _ (gG 16):=AB (P:=l.prog) (w:=w) (base:=base) a0 a0.b4 h3 h2 h2.b4 M9 #[g,F.b2,k,m] #[G0,B.b1,U,V] b a n 16
 have l6:ai l.prog w K mg base ax 37 w3 _ _ mv:=xH a1 #[g,F.b2,k,m] #[G3,Y.b2,k2,m5] #[S',a0.b4,M',h3]
 have T0:ai l.prog w K mg base ax 34 v2 _ _ (gJ 16):=Aa (P:=l.prog) (w:=w) (base:=base) g6 g6.b2 M3 F7 F7.b2 g7 d 16
 have T1:ai l.prog w K mg base ax 35 v4 _ _ rB:=wK g8 #[T0,F7.b2,M4,g7]
 have l7:ai l.prog w K mg base ax 36 v7 _ _ dI:=uj F9 #[T1,g8.b1,M5,M6]
 have T2:ai l.prog w K mg base ax 17 w5 _ _ (dh 16):=pV (P:=l.prog) (w:=w) (base:=base) a2 a2.b2 h6 d 16
 have l8:ai l.prog w K mg base ax 18 w9 _ _ dI:=tS a3 #[T2,a2.b2,N0,h6]
 have T3:ai l.prog w K mg base ax 37 x0 _ _ iP:=oj i0 #[l8,a3.b1,h8,h'] #[l7,F9.b1,g',h0] j t p n1 n2 kt
 have T4:ai l.prog w K mg base ax 66 w7 _ _ (xh K):=y7 h7 #[G5,F2.b2,k9,d0] #[g,F.b2,k,m] #[O7,d9.b1,I8,I9] #[Q',c'.b1,H3,H4] #[S9,h1.b1,M7,M8] (S8) g5.b5 M0 M1 #[l6,a1.b1,h4,h5] #[l3,R7,t0,m7,l4,R8,t1,m8,x9,x',y0]
 exact yc FZ #[G5,F2.b2,k9,d0] #[T4,h7.b1,N1,N2] #[l6,a1.b1,h4,h5] #[T3,i0.b1,N3,N4] #[l7,F9.b1,g',h0] #[l8,a3.b1,h8,h']
theorem Co{l:PySem.W.OpenLaw}{Y:World->Heap->Prop}{d:DefRec}{K:Params->Frag}(e:l.most=some 63)(H:d.params.defaults=[])
  (g:∀(w:World) (h:Heap),Y w h->(K w.params).In h)
  (F:∀(w:World) (mg:Str->Option Value) (b:Addr) (h:Heap),(K w.params).In h->h.Ns mainGlobals mg->mg d.name=some (.ref b)->
   ∃c:FuncData,(∀(s:Shared) (u:Value),BindsTo s c #[[u],[]] [("_law_script",u)])/\∀base:Heap,(K w.params).In base->base.Ns mainGlobals mg->ai l.prog w (K w.params) mg base ax 67 b c ["_law_script"] (mN (K w.params))):
  PySem.W.WalkO q L m Y l.row.toRowW d [] (λf v=>PySem.call f v):=
 L2.tK (n:=63) (k:=67) (x:="_law_script") (CX:=λ_=>ax) (sp:=λw=>mN (K w.params)) e Ib H #[Z,Ib,Ib] g F (λ_ _ a N i _ j=>#[a,N,Z,j,i,λ_=>Z]) λ_ _ _ _ _ z=>z
end K26
namespace PySem.W.Fast
def tw14749817366819339518:=0
def tw9030104551747402764:=0
def tw11654349678714201335:=0
def tw7806948522719742937:=0
def tw9782875831353550688:=0
def tw17112939913462708505:=0
def tw13086242162739793396:=0
def tw11493417842063177688:=0
def tw16232550821417392543:=0
def tw11887142748364791766:=0
def tw6011397380010390879:=0
def tw3485011776753100361:=0
def tw8896680697676622997:=0
def tw7990851802690760202:=0
def tw5761949945733402017:=0
def tw3706501749713263644:=0
def tw8801543421043136046:=0
def tw7156545667191803149:=0
def tw3167566931415814083:=0
def tw15618544169075358975:=0
def tw10521176257496951558:=0
def tw12114656712509357133:=0
def tw3588626326116897222:=0
def tw7860722592074874343:=0
def tw16288398390765797372:=0
def tw13210279376377946008:=0
def tw519268427913297244:=0
def tw251991137735433581:=0
def tw12308419931796504203:=0
def tw10622630245422926710:=0
def tw8461603029800802959:=0
def tw2755663504499973055:=0
def tw11484005784231288651:=0
def tw10505943108199775220:=0
def tw13586434655062766617:=0
def tw16335117208618387022:=0
def tw3439740879012132375:=0
def tw2675392777800054386:=0
def tw17327715642837344125:=0
def tw14337020501071057704:=0
def tw7166963990970623295:=0
def tw5848924199025165422:=0
def tw4249058757595931352:=0
def tw16171937422921018518:=0
def tw15198064745948593485:=0
def tw3785975940307977983:=0
def tw5233229819430587683:=0
def tw1073320369480004040:=0
def tw3840457352415487960:=0
def tw8178860452836227882:=0
def tw13755507599734991580:=0
def tw10722831596754703311:=0
def tw7850906725993924910:=0
def tw14985426379100193758:=0
def tw4290062007934274633:=0
def tw11701756721379863871:=0
def tw7203584246044067011:=0
def tw11828453967282433661:=0
def tw7909470751635042463:=0
def tw13288654462749795199:=0
def tw10375322731916714256:=0
def tw8734591494491860856:=0
def tw12090470672232048027:=0
def tw555665104318292566:=0
def tw5311986629897643568:=0
def tw3942328517473519097:=0
def tw10430762977355521627:=0
def tw7237506593704445033:=0
def tw7164140899830297057:=0
def tw5383312430607505801:=0
def tw10360229572514336188:=0
def tw6672593434837196952:=0
def tw16197787870705170432:=0
def tw9865261588396235522:=0
def tw17467112965395216535:=0
def tw4529714957024302657:=0
def tw1357118821406935257:=0
def tw499788823764390577:=0
def tw15648156593460189963:=0
def tw4766736077631400129:=0
def tw18025140321149574529:=0
def tw5184808057709887190:=0
def tw13585845452023110561:=0
def tw11478715343200436231:=0
def tw11051643675390946918:=0
def tw14737504719631403184:=0
def tw17343836501952060453:=0
def tw7844336656114215792:=0
def tw14487934627800384636:=0
def tw7769158469291108549:=0
def tw10825524569282350507:=0
def tw11382483227299299557:=0
def tw3776199119646074607:=0
def tw14800508661308913813:=0
def tw563064206592325036:=0
def tw2815303809197716801:=0
def tw13422189682069520143:=0
def tw7497452765745770215:=0
def tw6189991403821013666:=0
def tw3008922728994193479:=0
def tw13651986803184980953:=0
def tw6282313228962285613:=0
def tw12303216507636930804:=0
def tw6497130079580227327:=0
def tw6897161401045668430:=0
def tw7917884576319948182:=0
def tw6099591589621844100:=0
def tw4669190145937123186:=0
def tw16637689670243485930:=0
def tw1074575927939653000:=0
def tw5474961586447923634:=0
def tw12503104197062181824:=0
def tw17844157383326434955:=0
def tw12774882291255004097:=0
def tw4064165813205430576:=0
def tw3825903566897627932:=0
def tw17211101578273548046:=0
def tw276663924804068724:=0
def tw10213218357775931947:=0
def tw14801372792318932718:=0
def tw18353908708350662877:=0
def tw3310665400550255215:=0
def tw9453937969042661395:=0
def tw7254734944025166063:=0
def tw4662040047812184732:=0
def tw11995861238397237130:=0
def tw8560689630084165877:=0
def tw5562836412189094269:=0
def tw378136083071174843:=0
def tw2539456115187058838:=0
def tw6835674206307575001:=0
def tw15297345051644101619:=0
def tw11350607759695593538:=0
def tw11561380965674324548:=0
def tw6659821317291983786:=0
def tw5993289200786702852:=0
def tw4927067863834870181:=0
def tw11724548731106365146:=0
def tw9139822865556388134:=0
def tw11584994085999404455:=0
def tw5639378310394891681:=0
def tw6670110998448822699:=0
def tw15959104879711525241:=0
def tw4422338495050625363:=0
def tw10375979135401984161:=0
def tw2273057533298178024:=0
def tw9010053616217316737:=0
def tw5438180738230974164:=0
def tw10867209392138947857:=0
def tw6810226069627503288:=0
def tw5968882321329385124:=0
def tw12829717213407996177:=0
def tw849729389252802553:=0
def tw1848033988178075259:=0
def tw11474933094669194632:=0
def tw16659942237993550589:=0
def tw807118857273270454:=0
def tw13723530164001256812:=0
def tw15512718553727648559:=0
def tw7604426576383340561:=0
def tw113092562532427065:=0
def tw11334248674628668143:=0
def tw8029292997561742118:=0
def tw1106177369169805207:=0
def tw8868442194199547726:=0
def tw7378146034700960270:=0
def tw11763965678707094212:=0
def tw5590476866100702281:=0
def tw11195608769945482045:=0
def tw10623127443164590120:=0
def tw18263075999890926493:=0
def tw5147939772868149429:=0
def tw13339190617346996332:=0
def tw2461124024242553989:=0
def tw13380127020669998471:=0
def tw15204160167329813938:=0
def tw14903628385817588615:=0
def tw4974715675793540811:=0
def tw9029366765001862481:=0
def tw6214225173637662025:=0
def tw18322353960893823680:=0
def tw13089852404463148479:=0
def tw986043445746348526:=0
def tw11415297695872706399:=0
def tw7320194057169541045:=0
def tw11533311758304389792:=0
def tw9089160785617137411:=0
def tw1837751876119165879:=0
def tw8505592210976557400:=0
def tw9835295917037742468:=0
def tw2002509687270961235:=0
def tw7229685391504482968:=0
def tw14014753598840614495:=0
def tw248623934645042717:=0
def tw10023851864948041772:=0
def tw8907717851309014183:=0
def tw14911430032409528042:=0
def tw5097031341947667210:=0
def tw4168022280716194657:=0
def tw9982319611800182519:=0
def tw2958246041253086077:=0
def tw18260993110673596674:=0
def tw6414730857537414748:=0
def tw4840461637680828111:=0
def tw11246289181212826005:=0
def tw14409982694327452820:=0
def tw1444705221293512281:=0
def tw358105534254563651:=0
def tw1760666268235179620:=0
def tw12838114239836613367:=0
def tw6744787770267485293:=0
def tw1659714323315521691:=0
def tw11239904569054932351:=0
def tw17857881574119357111:=0
def tw1710080378375416461:=0
def tw2766069673032675883:=0
def tw2135262054208588387:=0
def tw13079586276672144243:=0
def tw1659219872441650348:=0
def tw17067277986092419909:=0
def tw14547554114981996360:=0
def tw17274528546391604742:=0
def tw14991020504188684228:=0
def tw9411364457452188918:=0
def tw10626022012093839176:=0
def tw17395608511170301471:=0
def tw14860871588907716037:=0
def tw11583231361574863641:=0
def tw3387923463041368183:=0
def tw9352541191690311460:=0
def tw6049322707338163176:=0
def tw10465976290571649250:=0
def tw16200040913997152116:=0
def tw9988219168751204225:=0
def tw7777270875012157974:=0
def tw14814549211113255504:=0
def tw13328741596278745273:=0
def tw7418645040099876437:=0
def tw12603138140694646042:=0
def tw10716261040899253386:=0
def tw18194791909487757632:=0
def tw8107060238630325074:=0
def tw7926685195815446706:=0
def tw8415688701359977850:=0
def tw11277771050313080939:=0
def tw3585666059003338033:=0
def tw11613839700105629921:=0
def tw3201958426164141017:=0
def tw7424019116280259792:=0
def tw6843980412252307849:=0
def tw9909745247240680958:=0
def tw132522552867517349:=0
def tw8189210005248048034:=0
def tw2041161133926161625:=0
def tw6335607288762254523:=0
def tw17231928244904286715:=0
def tw427368815151190116:=0
def tw3924071794760521577:=0
def tw3416503951437410193:=0
def tw1725905410339186241:=0
def tw7406922631701228011:=0
def tw5258067052795685124:=0
def tw18143715314226179068:=0
def tw12901111110922957239:=0
def tw10369396093465287597:=0
def tw15453641843889785910:=0
def tw6616180645585009578:=0
def tw9252906473004970774:=0
def tw2119628765176008196:=0
def tw5600119929683516722:=0
def tw16060980749386697913:=0
def tw15472323583014744118:=0
def tw11321400609451894869:=0
def tw9019355541830357404:=0
def tw9662420090779992780:=0
def tw7444085625993288904:=0
def tw530717501296924699:=0
def tw5204158074133158564:=0
def tw1720940897594128932:=0
def tw4498202506480072850:=0
def tw986597191936120523:=0
def tw15402021350806451450:=0
def tw16117036609269301392:=0
def tw7123462084233900500:=0
def tw3214597270656483961:=0
def tw6447161960207499411:=0
def tw3502978065262460462:=0
def tw15546193635990552448:=0
def tw13721675479274146451:=0
def tw1634688993653933219:=0
def tw5100973933467226245:=0
def tw3883151528190295967:=0
def tw7446700318718027628:=0
def tw13180989629401638480:=0
def tw16612116545075145071:=0
def tw15373520381515821812:=0
def tw16687765161690063200:=0
def tw12969189917132112963:=0
def tw2140261685337848109:=0
def tw4320190705538159273:=0
def tw18038139611561130503:=0
def tw7328347195301964232:=0
def tw14632339211256482758:=0
def tw2707759151880901601:=0
def tw14328882310901974926:=0
def tw8430725326541551054:=0
def tw5284471555338892955:=0
def tw958517463890755940:=0
def tw11424813593423596222:=0
def tw4916075106814391423:=0
def tw3863192412377983034:=0
def tw7256567244828481694:=0
def tw72850304697011053:=0
def tw4661945552412437939:=0
def tw6217440586189933233:=0
def tw14919010150485319821:=0
def tw15401605524175517604:=0
def tw1331831286595571744:=0
def tw818812330177799283:=0
def tw929118770614766136:=0
def tw3598829080916688845:=0
def tw7619330448698141773:=0
def tw17395138262972332842:=0
def tw10626621474337789431:=0
def tw7742319335353415887:=0
def tw10006536573941226212:=0
def tw6939619239834170639:=0
def tw3901245191908881259:=0
def tw7537916985219643015:=0
def tw2136429149688357722:=0
def tw8473599602343992537:=0
def tw7999444523206705057:=0
def tw6973151329178706415:=0
def tw4309116498987554091:=0
def tw663858213342973633:=0
def tw1383121206273314417:=0
def tw2027902700785110280:=0
def tw15099873799930251750:=0
def tw10165929613384294733:=0
def tw16571227873299021781:=0
def tw880626342232560609:=0
def tw10469558689983825932:=0
def tw6728799453509482510:=0
def tw3865750856201320266:=0
def tw7647433490982226846:=0
def tw3687927726396177542:=0
def tw17048997020051413744:=0
def tw16455445682283191227:=0
def tw5861280433710831161:=0
def tw9018587934546189332:=0
def tw6950171510598189587:=0
def tw18095490097024560386:=0
def tw16481960460180066780:=0
def tw40358241373743205:=0
def tw1966141769811999709:=0
def tw14558952313154788192:=0
def tw2335928548517196450:=0
def tw11196085222486166112:=0
def tw16388917091725584187:=0
def tw8268041854040949155:=0
def tw12904763828333026258:=0
def tw6863829118187774754:=0
def tw12734130979210491023:=0
def tw5572453031641515640:=0
def tw17992653380423820545:=0
def tw12905040462695761010:=0
def tw5002090976386781392:=0
def tw411646323166339681:=0
def tw11405379199470558408:=0
def tw12925599403297249996:=0
def tw2240012559887199856:=0
def tw6007690188304705868:=0
def tw4064002593011073628:=0
def tw12111455971264317043:=0
def tw2147215384988781677:=0
def tw901785452961685907:=0
def tw2483774299318992107:=0
def tw13202627332152963460:=0
def tw219174727550381746:=0
def tw12761315782157108218:=0
end PySem.W.Fast
open PySem PySem.W PyProof.Rows PySem.W.X
theorem K26.y8 {q : Program} {loose : List PySem.Str} {XP : (PySem.Str → Option Value) → Heap → Prop} {K : Params → Frag} {as : List Addr} {n t : Nat} {r : RowW} {d : DefRec} {kwd : List (PySem.Str × PySem.Expr)} {run : Value → List Value → Sem Value}
    (e : ∀ P, as = (K P).map (·.1)) (h : WalkO q loose XP (InK K) r d kwd run) : WalkX q loose XP (obsZ as) (valZ K n t) r d kwd run :=
  fun w s₀ s₁ mg mb G Y a o pm cd doc dV kV h1 h2 h3 h4 h5 h6 args vals as' L => h w s₀ s₁ mg mb G (InK.keeps w _ _ (z_facts e Y).2.1 L.keeps) a o pm cd doc dV kV h1 h2 h3 h4 h5 h6 args vals as'
set_option maxRecDepth 100000 in
set_option maxHeartbeats 0 in
theorem PySem.Challenge.cw_againbook_k26_what_was_written_holds : PySem.Challenge.rw_againbook_k26_what_was_written.Holds := by
  w_on; o_law; z_head; (case hw => w_witness2)
  refine K26.y8 (fun _ => by rfl) (K26.Co (l := PySem.Challenge.rw_againbook_k26_what_was_written) rfl rfl (fun w h Y => Y) ?F)
  case F =>
    intro w mg fa h KX G hmg
    apply K26.wD KX G hmg
    iterate 55 (apply K26.Bv;iterate 4 k_is)
    iterate 20 k_is
    iterate 2 k_exc
    iterate 2 (constructor<;>k_is)
    refine ⟨⟨?_,?_,?_,?_⟩,?_,?_,?_,?_,?_⟩;iterate 4 k_is
    iterate 5 (unfold L2.bj;k_is)
    iterate 2 (constructor;iterate 4 k_is)
    iterate 4 (constructor;iterate 3 k_is)
    refine ⟨⟨?_,?_,?_,?_⟩,?_,?_⟩;iterate 4 k_is
    iterate 2 (unfold L2.bj;k_is)
    constructor;iterate 4 k_is
    iterate 4 (constructor;iterate 3 k_is)
    iterate 11 (apply K26.Cz;iterate 3 k_is)
    iterate 14 k_is
    constructor;iterate 3 kit_is
