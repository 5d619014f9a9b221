import PyProof.Rows.All
import Wide.All
import OpenK.AllK
import Wide.FinOn
import Lean
import PyProof.EqAt
import PyProof.EqKinds
import PyProof.TupleCall
import PySem.Challenge.RW_againbook_k29_true_of_cells
set_option Elab.async false
set_option linter.all false
set_option maxRecDepth 100000
set_option genSizeOf false
theorem le:0≤PySem.sizeLine:=by decide
theorem lg:1≤PySem.sizeLine:=by decide
theorem bn:2≤PySem.sizeLine:=by decide
theorem dU:3≤PySem.sizeLine:=by decide
theorem nO:4≤PySem.sizeLine:=by decide
set_option Elab.async false
set_option linter.all false
set_option maxRecDepth 100000
set_option maxHeartbeats 4000000
open PySem.W (keepIn Frag nsIn kitOne fnOf mg_of codeIn findIn mroIn isFn mg_none_of kia_one typeIn emptyDict clsIn instObj hasDictIn kitAny specialIn callWith_K excIn lookIn plainGet notCls tailIn)
theorem IL{p:Prop}(h:p:=by decide):p:=h
theorem IM{p:Prop}(h:p:=by omega):p:=h
theorem IN{p:Prop}(h:p:=by simp):p:=h
theorem IP{p:Prop}(h:p:=by decide +kernel):p:=h
theorem IQ{p:Prop}(h:p:=by rfl):p:=h
theorem Z{α:Sort u}{a:α}:a=a:=rfl
def DG:=@PySem.wpAny_bind
def DH:=@PySem.wpAny_pure
def DI:=@PySem.Heap.get?_push_of_some
def DJ:=@List.getElem?_eq_getElem
def DK:=@List.length_map
def DM:=@List.length_append
def DN:=@Nat.le_refl
def DO:=@PySem.Heap.lt_size
def DP:=@PySem.Heap.get?_push_size
def DQ:=@List.size_toArray
def DR:=@Bool.false_ne_true
def DS:=@Nat.ne_of_lt
def DT:=@Bool.false_eq_true
def DU:=@decide_eq_false
def DV:=@Nat.le_trans
def DW:=@Nat.lt_of_lt_of_le
def DX:=@Nat.zero_le
def DY:=@PySem.Heap.get?_update_other
def DZ:=@List.mem_append_right
def D0:=@if_pos
def D1:=@if_neg
def D2:=@PySem.F.plainAttrs_list
def D3:=@List.mem_cons_self
def D4:=@List.getElem?_map
def D5:=@List.mem_of_getElem?
def D6:=@Array.length_toList
def D7:=@PySem.wpAny_field
def D8:=@PySem.wpAny_holding
def D9:=@List.mem_cons_of_mem
def Ea:=@decide_eq_true
def Eb:=@List.not_mem_nil
def Ec:=@List.length_take
def Ed:=@PySem.F.type_list_append
def Ee:=@PySem.F.slot_list_append
def Ef:=@List.map_append
def Eg:=@Ne.symm
def Eh:=@trivial
def Ei:=@PySem.Obj.data_mapFields
def Ej:=@PySem.PassesOwn.never
def Ek:=@PySem.wpAny_callSpecial?_slot
def El:=@List.length_cons
def Em:=@PySem.Heap.get?_update_self
def En:=@PySem.wpAny_newObj_type
def Eo:=@Option.some.inj
def Ep:=@PySem.wpAny_call_entry
def Er:=@List.take_length
def Es:=@Int.emod_lt_of_pos
def Et:=@PySem.builtinLookup_eq_fast
def Eu:=@List.take_add_one
def Ew:=@PyProof.Rows.callWith_type1
def Ex:=@PySem.wpAny_setField
def Ey:=@PySem.Heap.size_push
def Ez:=@Nat.ne_of_gt
def EA:=@Int.toNat_natCast
def EB:=@PySem.wpAny_seqItems
def EC:=@List.mem_of_mem_take
def ED:=@Int.emod_nonneg
def EE:=@PySem.Around.under_plainId
def EF:=@PySem.wpAny_Call_Name_kw
def EG:=@Nat.lt_irrefl
def EH:=@List.lookup_cons
def EJ:=@PySem.F.slot_tuple_iterator_next
def EK:=@PySem.wpAny_mono
def EL:=@PySem.Obj.isFreed_of_fields
def EM:=@Bool.and_eq_true
def EN:=@if_false
def EO:=@congrArg
def EQ:=@of_decide_eq_true
def ER:=@PySem.F.slot_zip_next
def ES:=@List.map_cons
def ET:=@Nat.lt_succ_self
def EU:=@List.mem_append_left
def EV:=@PySem.typeLookup_type
def EW:=@PySem.codeAny_builtin
def EX:=@PySem.boot_len
def EY:=@PySem.mem_of_lookup
def EZ:=@PyProof.Rows.boot_tuple
def Fb:=@List.getElem?_eq_none
def Fc:=@Array.getElem?_toList
def Fd:=@Nat.succ_le_succ
def Fe:=@Nat.lt_of_le_of_lt
def Ff:=@Nat.le_succ
def Fg:=@PySem.Calls.spliced_cons
def Fh:=@List.forIn_cons
def Fi:=@PySem.AutoSeq1.wpAny_loadPart'
def Fj:=@PySem.isSubtype_type
def Fk:=@List.take_of_length_le
def Fm:=@PySem.wpAny_setState_of
def Fn:=@List.mem_cons
def Fo:=@PySem.wpAny_specialOf
def Fp:=@List.length_drop
def Fq:=@List.getElem?_append_right
def Fs:=@PySem.Heap.SameBut.update
def Ft:=@PySem.wpAny_typeOf
def Fu:=@List.getElem?_append_left
def Fv:=@Array.getElem?_eq_getElem
def Fx:=@List.find?_cons
def Fy:=@PySem.wpAny_rule
def Fz:=@bne_self_eq_false
def FD:=@List.take_sublist
def FE:=@List.getElem?_set_ne
def FF:=@PySem.W.mg_none_of
def FG:=@PyProof.Rows.slot_tuple_getitem
def FH:=@Nat.le_add_right
def FJ:=@List.getElem_mem
def FK:=@PySem.Calls.spliced_nil
def FL:=@PySem.plainId_quiet
def FM:=@PySem.wpAny_isInstance
def FN:=@List.length_singleton
def FP:=@List.length_filter_le
def FQ:=@Nat.lt_succ_of_lt
def FR:=@PySem.wpAny_setField_rec
def FS:=@PySem.wpAny_passesOwn
def FT:=@List.take_succ
def FV:=@List.getD_eq_getElem?_getD
def FX:=@List.forIn_nil
def FY:=@PySem.wpAny_standAt
def F8:=@Nat.le_of_lt
def F':=@PyProof.Rows.F.plain_set_update_loop
def Ga:=@Bool.not_true
def Gc:=@Nat.min_eq_left
def Gd:=@List.mem_append
def Ge:=@List.append_nil
def Gf:=@PySem.wpAny_askSetting
def Gg:=@PySem.codeAny_mono
def Gh:=@PySem.F.args_tuple_iterator_next_1
def Gi:=@PySem.F.plain_list_iadd
def Gj:=@PySem.F.args_zip_next_1
def Gk:=@PySem.wpAny_setEntries_of
def Gm:=@PySem.F.entry_tuple_iterator_next
def Gn:=@PySem.wpAny_attempt
def Go:=@if_true
def Gp:=@PySem.F.entry_zip_next
def Gr:=@List.map_map
def Gs:=@List.getElem?_set_self
def Gu:=@PySem.wpAny_execs_nil
def Gv:=@PySem.wpAny_pyIter_tuple
def Gw:=@List.take_append_drop
def Gx:=@List.getElem?_reverse
def Gy:=@PySem.wpAny_truthy_bool
def Gz:=@or_false
def GF:=@PySem.Obj.cls_mapFields
def GG:=@PySem.Calls.callWith_builtin
def GH:=@Nat.not_lt_zero
def GJ:=@of_decide_eq_false
def GK:=@PySem.F.args_object_init_2
def GL:=@PySem.Value.isStrOf_shape
def GN:=@List.reverse_cons
def GP:=@PySem.F.type_list_extend
def GQ:=@PySem.F.slot_list_extend
def GS:=@PySem.F.args_tuple_add_2
def GU:=@List.map_take
def GV:=@List.append_cancel_right
def GX:=@List.any_cons
def GY:=@PySem.tupleKind_room_in1
def GZ:=@PySem.W.kia_one
def G8:=@PySem.F.entry_tuple_add
def Hc:=@Nat.le_max_right
def Hd:=@PySem.F.slot_tuple_add
def He:=@PySem.F.plainAttrs_str
def Hf:=@Nat.sub_self
def Hg:=@Nat.lt_or_ge
def Hh:=@Nat.le_of_eq
def Hi:=@List.getElem_cons_drop
def Hj:=@Array.getElem?_eq_none
def Hk:=@PySem.wpAny_pyIter_list
def Hl:=@PySem.wpAny_of_eq
def Hm:=@PySem.fits_of_scanBound
def Hn:=@Option.map_some
def Ho:=@Nat.le_max_left
def Hq:=@List.of_mem_zip
def Hr:=@List.length_set
def Hs:=@Bool.eq_iff_iff
def Ht:=@PySem.W.methodCall_KW
def Hu:=@PySem.F.type_str_join
def Hv:=@PySem.F.slot_str_join
def Hw:=@PySem.F.slot_dict_get
def Hy:=@List.length_replicate
def Hz:=@PySem.entryFor_of_tree
def HH:=@List.nodup_nil
def HI:=@PySem.W.plainGet_of
def HJ:=@PyProof.Rows.F.entry_set_update_loop
def HK:=@List.filterMap_cons
def HL:=@PySem.wpAny_updateSeq
def HM:=@PySem.codeAny_handlers_test
def HN:=@PySem.W.KFB.if_not
def HP:=@List.mem_singleton
def HQ:=@PySem.wpAny_loadPart
def HR:=@PySem.wpAny_fieldsOf
def HS:=@PySem.sizeLine_eq
def HU:=@PySem.isSubtype_stop
def HV:=@PySem.entryFor_alias
def HW:=@Nat.sub_zero
def HX:=@Nat.lt_of_succ_lt
def HY:=@List.length_range
def HZ:=@PySem.Calls.evalArgs_plain
def Ia:=@Array.size_append
def Ib:=@List.eraseIdx_eq_take_drop_succ
def Ic:=@PySem.wpAny_handleBy_cons
def Ie:=@PySem.W.looks_mroIn
def Ig:=@Option.getD_none
def Ih:=@PySem.call_meets
def Ii:=@Nat.min_le_left
def Ij:=@List.nodup_cons
def Ik:=@List.length_zip
def Il:=@List.length_nil
def Im:=@PySem.F.plain_proto_collect
def Io:=@PySem.F.entry_proto_collect
def Ip:=@Iff.rfl
def Iq:=@PySem.wpAny_sequenceKey
def Ir:=@PySem.wpAny_pyIter_slot
def Iu:=@PySem.W.callWith_K
def Iv:=@List.length_eraseIdx_of_lt
def Iw:=@Bool.and_false
def Ix:=@PySem.F.plain_extend_loop
def Iy:=@List.mem_of_find?_eq_some
def Iz:=@List.getElem?_zip_eq_some
def IA:=@PySem.wpAny_execs_cons
def IB:=@PySem.noFill_tuple_add
def IC:=@List.all_cons
def ID:=@Bool.or_false
def IE:=@PySem.F.plain_tuple_new
def IF:=@PySem.F.plainAttrs_dict
def IG:=@PySem.F.entry_list_iadd
def IH:=@PySem.F.args_dict_get_3
def II:=@List.getElem?_replicate
def IJ:=@List.append_cancel_left
def IK:=@Int.eq_ofNat_of_zero_le
local macro_rules|`(#[$x,*])=>`(⟨$x,*⟩)
local macro_rules|`(tactic|omega)=>`(tactic|lia)
namespace L2
open PySem PySem.Spec PyProof.Rows
abbrev aV:=Sum Int Str
noncomputable def gH:aV->Value->Bool
 | .inl k,v=>Value.isInt k v
 | .inr x,v=>Value.isStrOf x v
noncomputable def Cn(w:World):aV->Int
 | .inl k=>hashInt k
 | .inr x=>hashStr w x
theorem jR:∀{k:aV} {v:Value},gH k v=true->(∃i t,k=Sum.inl i/\v=Value.int i t)∨(∃x t,k=Sum.inr x/\v=Value.str x t)
 | .inl i,v,h=>by
  obtain⟨t,e⟩:=Value.isInt_shape (k:=i) (v:=v) h
  exact .inl #[i,t,Z,e]
 | .inr x,v,h=>by
  obtain⟨t,e⟩:=GL (x:=x) (v:=v) h
  exact .inr #[x,t,Z,e]
theorem YR(i:Int)(t:Tok):gH (.inl i) (.int i t)=true:=by simp [gH,Value.isInt]
theorem YS(x:Str)(t:Tok):gH (.inr x) (.str x t)=true:=by simp [gH,Value.isStrOf]
theorem wR(a b:Int):decide ((Sum.inl a:aV)=Sum.inl b)=(a==b):=by
 by_cases e:a=b
 ·subst e;simp
 ·have h:¬(Sum.inl a:aV)=Sum.inl b:=λq=>e (Sum.inl.inj q)
  rw[DU h]
  exact(beq_eq_false_iff_ne.mpr e).symm
theorem wU(a b:Str):decide ((Sum.inr a:aV)=Sum.inr b)=decide (a=b):=by
 by_cases e:a=b
 ·subst e;simp
 ·have h:¬(Sum.inr a:aV)=Sum.inr b:=λq=>e (Sum.inr.inj q)
  rw[DU h,DU e]
theorem wS(a:Int)(b:Str):decide ((Sum.inl a:aV)=Sum.inr b)=false:=DU (λq=>nomatch q)
theorem wT(a:Str)(b:Int):decide ((Sum.inr a:aV)=Sum.inl b)=false:=DU (λq=>nomatch q)
noncomputable def aL(p:Program)(w:World):PySem.KeyKind p w aV where
 is:=gH
 hash:=Cn w
 inj:=λv a b d c=>by
  rcases jR d with ⟨i,t,rfl,rfl⟩ | ⟨x,t,rfl,rfl⟩
  ·rcases jR c with ⟨j,u,rfl,e⟩ | ⟨y,u,rfl,e⟩
   ·injection e with E _;rw[E]
   ·exact nomatch e
  ·rcases jR c with ⟨j,u,rfl,e⟩ | ⟨y,u,rfl,e⟩
   ·exact nomatch e
   ·injection e with E _;rw[E]
 byValue:=λk v h=>by
  rcases jR h with ⟨i,t,rfl,rfl⟩ | ⟨x,t,rfl,rfl⟩<;>rfl
 pyHash:=λH h=>by
  rcases jR H with ⟨i,t,rfl,rfl⟩ | ⟨x,t,rfl,rfl⟩
  ·exact wpAny_pyHash_int h
  ·exact wpAny_pyHash_str h
 eqBool:=λf H h=>by
  rcases jR f with ⟨i,t,rfl,rfl⟩ | ⟨x,t,rfl,rfl⟩
  ·rcases jR H with ⟨j,u,rfl,rfl⟩ | ⟨y,u,rfl,rfl⟩
   ·rw[wR]at h;exact wpAny_eqBool_int h
   ·rw[wS]at h;exact SeqAt.EqAt.int_str i t y u _ _ _ _ h
  ·rcases jR H with ⟨j,u,rfl,rfl⟩ | ⟨y,u,rfl,rfl⟩
   ·rw[wT]at h;exact SeqAt.EqAt.str_int x t j u _ _ _ _ h
   ·rw[wU]at h;exact wpAny_eqBool_str h
 «strs»:=λk x t v h=>by
  rcases jR h with ⟨i,u,rfl,e⟩ | ⟨y,u,rfl,e⟩
  ·exact nomatch e
  ·injection e with E _
   subst E
   cases v<;>rfl
theorem Xj(p:Program)(w:World)(i:Int)(t:Tok):(aL p w).is (.inl i) (.int i t)=true:=YR i t
theorem Xk(p:Program)(w:World)(x:Str)(t:Tok):(aL p w).is (.inr x) (.str x t)=true:=YS x t
end L2
namespace L2
open PySem PySem.Spec PyProof.Rows
inductive V where
 |non |bl (b:Bool) |int (i:Int) |str (x:Str) |byt (b:Array UInt8) |flt (b:UInt64) |ref (a:Addr) |ty (n:String)
 deriving DecidableEq
set_option genInjectivity false
def ax:V->Value->Prop
 | .non,u=>u=Value.none
 | .bl b,u=>u=Value.bool b
 | .int i,u=>∃t,u=Value.int i t
 | .str x,u=>∃t,u=Value.str x t
 | .byt b,u=>∃t,u=Value.bytes b t
 | .flt b,u=>∃t,u=Value.float b t
 | .ref a,u=>u=Value.ref a
 | .ty n,u=>u=Value.type n
abbrev au:List V->List Value->Prop:=Paired ax
theorem au.length(r:au x u):x.length=u.length:=Paired.length r
theorem au.get:∀{X:List V} {U:List Value} {i:Nat} {x:V},au X U->X[i]?=some x->∃u,U[i]?=some u/\ax x u
 |_,_,_,_,.nil,e=>by simp at e
 |_,_,0,_,.cons r _,e=>by simp at e;subst e;exact#[_,Z,r]
 |_,_,i+1,x,.cons _ t,e=>by
  obtain⟨u,h,H⟩:=au.get (i:=i) (x:=x) t (by simpa using e)
  exact#[u,by simpa using h,H]
theorem au.set(r:ax x u):∀{X:List V} {U:List Value} (i:Nat),au X U->au (X.set i x) (U.set i u)
 |_,_,_,.nil=>.nil
 |_,_,0,.cons _ t=>.cons r t
 |_,_,i+1,.cons q t=>.cons q (au.set r i t)
theorem au.append:∀{x y:List V} {u w:List Value},au x u->au y w->au (x++y) (u++w)
 |_,_,_,_,.nil,s=>s
 |_,_,_,_,.cons r t,s=>.cons r (au.append t s)
theorem au.take:∀{x:List V} {u:List Value} (n:Nat),au x u->au (x.take n) (u.take n)
 |_,_,0,_=>.nil
 |_,_,_+1,.nil=>.nil
 |_,_,n+1,.cons r t=>.cons r (au.take n t)
theorem au.drop:∀{x:List V} {u:List Value} (n:Nat),au x u->au (x.drop n) (u.drop n)
 |_,_,0,r=>r
 |_,_,_+1,.nil=>.nil
 |_,_,n+1,.cons _ t=>au.drop n t
def dy:Option V->Option Value->Prop
 |some v,some u=>ax v u
 |none,none=>True
 |_,_=>False
def KV{a:Type}:List (a×V)->List (a×Value)->Prop:=Paired λ(p:a×V) (q:a×Value)=>p.1=q.1/\ax p.2 q.2
noncomputable def kV:aV->V
 | .inl i=>.int i
 | .inr x=>.str x
inductive HO where
 |lst (xs:List V)
 |tup (xs:List V)
 |dK (kvs:List (aV×V)) |dT (kvs:List (List aV×V))
 |set (S:Int->Bool) (n:Nat)
 |ins (C dx:Addr) (fs:List (Str×V))
 |own (x:Addr)
 |xd (fs:List (Str×V))
 |met (f x:Addr)
 |rng (lo hi:Int)
 |frz (o:Obj) (u:HO)
 |tbl (ps:Array Value)
 |ext (φ:Heap->Prop)
abbrev Hp:=Addr->Option HO
noncomputable def af(H:Hp)(a:Addr)(o:HO):Hp:=λb=>if b=a then some o else H b
theorem jc:af H a o a=some o:=by unfold af;rw[D0 Z]
theorem jj(h:b≠a):af H a o b=H b:=by unfold af;rw[D1 h]
theorem jG{H:Hp}{a:Addr}(h:H a=some o)(c:H b=some u)(d:o≠u):a≠b:=by
 intro e;subst e;rw[h]at c;exact d (Eo c)
theorem ji{H:Hp}(h:H a=some o)(c:H b=none):a≠b:=by
 intro e;subst e;rw[h]at c;cases c
section
variable (P:Program)(w:World)
def aG(H:Hp)(h:Heap)(a:Addr):HO->Prop
 | .lst X=>X.length<=sizeLine/\∃(i:List Value) (n:Nat),au X i/\h.get? a=some { cls:=.type "list",data:=.seq i.toArray n }
 | .tup X=>X.length<=sizeLine/\∃i:List Value,au X i/\IsTup h a i.toArray
 | .dK k=>k.length<=sizeLine/\(a==sysModules)=false/\∃c,KV k c/\h.DictOf (aL P w) a c
 | .dT k=>k.length<=sizeLine/\(a==sysModules)=false/\∃X:List (List aV×Addr×Value),
   Paired (λ(p:List aV×V) (q:List aV×Addr×Value)=>p.1=q.1/\H q.2.1=some (.tup (p.1.map kV))/\ax p.2 q.2.2) k X/\
   ∃o e E,h.get? a=some o/\o.ExactDict/\o.data= .dict e E/\e.toList=X.map (entryOfKey (tupleKind (aL P w)))/\(X.map (·.1)).Nodup
 | .set S n=>h.SetOf (intKind P w) a S n
 | .ins C d F=>H d=some (.own a)/\F.length<=1000/\d≠a/\h.get? a=some (instObj C d)/\
   ∃m,h.Ns1 d m/\(∀f,dy (F.lookup f) (m f))/\PySem.Within m (F.map (·.1))
 | .own _=>∃o,h.get? a=some o
 | .xd F=>∃m,h.Ns1 a m/\∀f,dy (F.lookup f) (m f)
 | .rng lo l=>∃t u v,h.get? a=some { cls:=.type "range",data:=.fields (List.toArray [.int lo t,.int l u,.int 1 v]) }
 | .frz o u=>h.get? a=some o/\aG H h a u
 | .tbl r=>h.get? a=some { cls:=.none,data:=.fields r }
 | .met f x=>h.get? a=some (PySem.W.methodObj (.ref f) (.ref x))
 | .ext b=>b h/\(∃o,h.get? a=some o)/\∀g j:Heap,b g->(∀o,g.get? a=some o->j.get? a=some o)->b j
def el(H:Hp)(h:Heap):Prop:=∀a o,H a=some o->aG P w H h a o
end
section
variable {P:Program}{w:World}{H H':Hp}{h h':Heap}{a:Addr}{o:HO}
theorem aG.lt(x:aG P w H h a o):a < h.objs.size:=by
 cases o with
 |lst X=>obtain⟨_,_,_,_,e⟩:=x;exact DO e
 |tup X=>obtain⟨_,_,_,p⟩:=x;exact p.lt
 |dK k=>obtain⟨_,_,_,_,o,_,_,e,_⟩:=x;exact DO e
 |dT k=>obtain⟨_,_,_,_,o,_,_,e,_⟩:=x;exact DO e
 |set S n=>obtain⟨o,_,_,_,e,_⟩:=x;exact DO e
 |ins C d F=>obtain⟨_,_,_,e,_⟩:=x;exact DO e
 |own y=>obtain⟨_,e⟩:=x;exact DO e
 |xd F=>obtain⟨_,⟨_,_,_,e,_⟩,_⟩:=x;exact DO e
 |rng lo b=>obtain⟨_,_,_,e⟩:=x;exact DO e
 |frz O u=>obtain⟨e,_⟩:=x;exact DO e
 |tbl c=>exact DO (show h.get? a=some _ from x)
 |met f y=>exact DO (show h.get? a=some _ from x)
 |ext g=>obtain⟨_,⟨_,e⟩,_⟩:=x;exact DO e
theorem Paired.mapP{c d:Type}{F G:c->d->Prop}:∀{l:List c} {L:List d},Paired F l L->(∀a b,F a b->G a b)->Paired G l L
 |_,_,.nil,_=>.nil
 |_,_,.cons r t,f=>.cons (f _ _ r) (Paired.mapP t f)
theorem aG.stay(x:aG P w H h a o)(k:∀b u,(b=a∨H b=some (.own a))->h.get? b=some u->h'.get? b=some u)
  (s:∀b,H b=some (.own a)->H' b=some (.own a)) (A:∀b X,H b=some (.tup X)->H' b=some (.tup X)):aG P w H' h' a o:=by
 induction o with
 |lst X=>obtain⟨z,i,n,r,e⟩:=x;exact#[z,i,n,r,k _ _ (.inl Z) e]
 |tup X=>obtain⟨z,i,r,O,e,c⟩:=x;exact#[z,i,r,O,k _ _ (.inl Z) e,c]
 |dK K=>obtain⟨z,y,V,r,O,E,g,e,c⟩:=x;exact#[z,y,V,r,O,E,g,k _ _ (.inl Z) e,c]
 |dT K=>
  obtain⟨z,y,X,r,O,E,g,e,c⟩:=x
  exact#[z,y,X,Paired.mapP r λp q z=>#[z.1,A _ _ z.2.1,z.2.2],O,E,g,k _ _ (.inl Z) e,c]
 |set S n=>obtain⟨O,E,g,t,e,c⟩:=x;exact#[O,E,g,t,k _ _ (.inl Z) e,c]
 |ins C D F=>
  obtain⟨d,z,N,e,m,⟨j,E,g,B,c⟩,r⟩:=x
  exact#[s _ d,z,N,k _ _ (.inl Z) e,m,#[j,E,g,k _ _ (.inr d) B,c],r]
 |own y=>obtain⟨O,e⟩:=x;exact#[O,k _ _ (.inl Z) e]
 |xd F=>obtain⟨m,⟨j,E,g,e,c⟩,r⟩:=x;exact#[m,#[j,E,g,k _ _ (.inl Z) e,c],r]
 |rng lo G=>obtain⟨t,u,v,e⟩:=x;exact#[t,u,v,k _ _ (.inl Z) e]
 |frz O u I=>obtain⟨e,q⟩:=x;exact#[k _ _ (.inl Z) e,I q]
 |tbl l=>
  have e:h.get? a=some { cls:=.none,data:=.fields l }:=x
  show h'.get? a=some { cls:=.none,data:=.fields l }
  exact k a _ (.inl Z) e
 |met f y=>
  have e:h.get? a=some (PySem.W.methodObj (.ref f) (.ref y)):=x
  show h'.get? a=some (PySem.W.methodObj (.ref f) (.ref y))
  exact k a _ (.inl Z) e
 |ext J=>obtain⟨p,⟨o,e⟩,st⟩:=x;exact#[st _ _ p λo q=>k _ _ (.inl Z) q,#[o,k _ _ (.inl Z) e],st]
theorem el.lt(x:el P w H h)(e:H a=some o):a < h.objs.size:=(x a o e).lt
theorem el.fresh(x:el P w H h)(e:h.objs.size<=a):H a=none:=by
 cases q:H a with
 |none=>rfl
 |some u=>exact absurd (DW (x.lt q) e) (EG _)
theorem el.kept(x:el P w H h)(k:∀b u,h.get? b=some u->h'.get? b=some u):el P w H h':=λa o e=>
 (x a o e).stay (λb u _ q=>k b u q) (λ_ q=>q) λ_ _ q=>q
theorem el.laid(x:el P w H h)(k:∀b u,h.get? b=some u->h'.get? b=some u)(g:h.objs.size<=a)(n:aG P w (af H a o) h' a o):el P w (af H a o) h':=λb u e=>by
 have d:=x.fresh g
 by_cases f:b=a
 ·subst f;rw[jc]at e;cases e;exact n
 ·rw[jj f]at e
  exact(x b u e).stay (λc v _ q=>k c v q) (λc q=>by rw[jj (ji q d)];exact q) λc X q=>by rw[jj (ji q d)];exact q
end
def Rd(H:Hp)(a:Addr)(u:HO):Prop:=H a=some u∨∃o,H a=some (.frz o u)
theorem Rd.ok{P:Program}(r:Rd H a u)(x:el P w H h):aG P w H h a u:=by
 rcases r with r | ⟨o,r⟩
 ·exact x a u r
 ·obtain⟨_,q⟩:=x a _ r
  exact q
def Ab:Option HO->Prop
 |some (.lst _)=>True
 |some (.dK _)=>True
 |some (.dT _)=>True
 |some (.set _ _)=>True
 |some (.ins _ _ _)=>True
 |some (.ext _)=>True
 |_=>False
section
variable {P:Program}{w:World}{H:Hp}{h h':Heap}{x e:Addr}{o':HO}
theorem el.write(o:el P w H h)(m:Ab (H x))(i:e=x∨H e=some (.own x))(k:∀b u,b≠e->h.get? b=some u->h'.get? b=some u)(f:∃u,h'.get? e=some u)
  (g:aG P w (af H x o') h' x o'):el P w (af H x o') h':=λb u q=>by
 have n:∀c y,H c=some (.own y)->c≠x:=λc y r z=>by subst z;rw[r]at m;exact m
 have N:∀c X,H c=some (.tup X)->c≠x:=λc X r z=>by subst z;rw[r]at m;exact m
 by_cases d:b=x
 ·subst d;rw[jc]at q;cases q;exact g
 ·rw[jj d]at q
  by_cases a:b=e
  ·have Q:H b=some (.own x):=by
    rcases i with z |z
    ·exact absurd (a.trans z) d
    ·rw[a];exact z
   rw[q]at Q;cases Q
   obtain⟨v,j⟩:=f
   exact#[v,by rw[a];exact j]
  ·refine(o b u q).stay (λc v hc r=>k c v ?_ r) (λc r=>by rw[jj (n c b r)];exact r) λc X r=>by rw[jj (N c X r)];exact r
   rcases hc with rfl |hc
   ·exact a
   ·rintro rfl
    rcases i with z |z
    ·exact n c b hc z
    ·rw[hc]at z;cases z;exact d Z
end
structure Un(fs ex:List Addr)(H H':Hp)(h h':Heap):Prop where
 keep:∀b o,h.get? b=some o->H b=none->b∉fs->b∉ex->h'.get? b=some o
 slot:∀b o,h.get? b=some o->H b=none->b∈fs->b∉ex->∃sl,h'.get? b=some { o with slots:=sl }
 free:∀b o,h.get? b=some o->H b=none->b∉ex->H' b=none
 there:∀b o,h.get? b=some o->b∉ex->∃o',h'.get? b=some o'
 tups:∀b xs,H b=some (.tup xs)->H' b=some (.tup xs)
 frzs:∀b o u,H b=some (.frz o u)->H' b=some (.frz o u)
 tbls:∀b ps,H b=some (.tbl ps)->∃more,H' b=some (.tbl (ps++more))
section
variable {fs fs' ex ex':List Addr}{H H1 H2:Hp}{h h1 h2 h':Heap}{a x e:Addr}{o:HO}
theorem Un.any(u:Un fs ex H H1 h h1)(q:h.get? b=some O)(n:H b=none)(c:b∉ex):∃s,h1.get? b=some { O with slots:=s }:=by
 by_cases d:b∈fs
 ·exact u.slot b O q n d c
 ·exact#[O.slots,u.keep b O q n d c]
theorem Un.kept(k:∀b u,h.get? b=some u->h'.get? b=some u):Un fs ex H H h h':=
 #[λb O q _ _ _=>k b O q,λb O q _ _ _=>#[O.slots,k b O q],λ_ _ _ n _=>n,λb O q _=>#[O,k b O q],λ_ _ q=>q,λ_ _ _ q=>q,λ_ p q=>#[(List.toArray []),by rw[q];simp]]
theorem Un.refl:Un fs ex H H h h:=Un.kept λ_ _ q=>q
theorem Un.laid(k:∀b u,h.get? b=some u->h'.get? b=some u)(d:h.objs.size<=a)(c:H a=none):Un fs ex H (af H a o) h h' where
 keep:=λb u q _ _ _=>k b u q
 slot:=λb u q _ _ _=>#[u.slots,k b u q]
 free:=λb u q n _=>by rw[jj (DS (DW (DO q) d))];exact n
 there:=λb u q _=>#[u,k b u q]
 tups:=λb X q=>by rw[jj (ji q c)];exact q
 frzs:=λb u X q=>by rw[jj (ji q c)];exact q
 tbls:=λb p q=>#[(List.toArray []),by rw[jj (ji q c),q];simp]
theorem Un.write(m:Ab (H x))(j:e=x∨H e=some (.own x))(k:∀b u,b≠e->h.get? b=some u->h'.get? b=some u)(d:∃u,h'.get? e=some u):Un fs ex H (af H x o) h h':=by
 have g:∀b,H b=none->b≠x:=λb n z=>by subst z;rw[n]at m;exact m
 have i:∀b,H b=none->b≠e:=λb n z=>by
  subst z
  rcases j with r |r
  ·exact g b n r
  ·rw[n]at r;cases r
 have f:∀b u,H b=some u->¬Ab (some u)->b≠x:=λb u q N z=>by subst z;rw[q]at m;exact N m
 refine#[λb u q n _ _=>k b u (i b n) q,λb u q n _ _=>#[u.slots,k b u (i b n) q],λb u q n _=>by rw[jj (g b n)];exact n,λb u q _=>?_,
  λb X q=>by rw[jj (f b _ q λz=>z)];exact q,λb u X q=>by rw[jj (f b _ q λz=>z)];exact q,λb p q=>#[(List.toArray []),by rw[jj (f b _ q λz=>z),q];simp]]
 by_cases c:b=e
 ·subst c;exact d
 ·exact#[u,k b u c q]
end
noncomputable def BM(h:Heap)(H:Hp):List Addr:=(List.range h.objs.size).filter λa=>(H a).isSome
noncomputable def im(h:Heap)(H:Hp):Heap:=PySem.W.hideAll h (BM h H)
theorem YT(h:Heap)(H:Hp):(im h H).objs.size=h.objs.size:=PySem.W.hideAll_size _ _
theorem on{h:Heap}{H:Hp}(e:h.get? b=some o)(n:H b=none):(im h H).get? b=some o:=
 PySem.W.hideAll_get _ e λa=>by
  have q:(H b).isSome=true:=(List.mem_filter.mp a).2
  rw[n]at q;simp at q
theorem tq(e:(im h H).get? b=some o):h.get? b=some o/\H b=none:=by
 have E:h.get? b=some o:=PySem.W.of_hideAll (BM h H) e
 refine#[E,?_]
 cases q:H b with
 |none=>rfl
 |some x=>
  have a:b∈BM h H:=List.mem_filter.mpr #[List.mem_range.mpr (DO E),by simp [q]]
  have z:(im h H).get? b=none:=PySem.W.hideAll_none (BM h H) a
  rw[z]at e;cases e
end L2
namespace L2
open PySem PySem.Spec PyProof.Rows
structure Mod(K:Frag)(mg:Str->Option Value)(base:Heap):Prop where
 kin:K.In base
 glob:base.Ns mainGlobals mg
 blt:∃mb,base.Ns builtinsNs mb/\∀x:Str,x≠"__name__"->mb x=bootBuiltins x
 nolimit:base.NoLimit
structure Cx where
 prog:Program
 w:World
 K:Frag
 mg:Str->Option Value
 base:Heap
 A:Around
 N:List Str
 s₀:Shared
 H₀:Hp
 env:Env
 outer:List Env
 stack:List Env
 ex:List Addr
 fn:Str->Bool
 calm:Bool
 pn:List (Addr×Obj)
 xe:Value->Shared->Prop
noncomputable def ie(l:List Env):List Addr:=l.filterMap (·.frame)
noncomputable abbrev Cx.fs(X:Cx):List Addr:=ie X.outer
def BC(s:Scope)(x:Str):Prop:=s.names.lookup x=some .local∨s.names.lookup x=some .cell∨s.names.lookup x=some .free
def nS(s:Scope)(x:Str):Prop:=s.names.lookup x=some .local∨s.names.lookup x=some .cell
def BS(e:Env)(h:Heap)(m:Str->Option Value)(x:Str)(u:Value):Prop:=
 (e.kindOf x=some .local/\m x=some u)∨((e.kindOf x=some .cell∨e.kindOf x=some .free)/\∃c,e.cells.lookup x=some c/\h.IsCell c (some u))
structure Cx.Ok(X:Cx):Prop where
 mod:Mod X.K X.mg X.base
 kind:X.env.scope.kind= .function
 glob:X.env.globals=mainGlobals
 blt:X.env.builtins=builtinsNs
 above:X.s₀.heap.objs.size<=X.env.locals
 inj:∀x y c,X.env.cells.lookup x=some c->X.env.cells.lookup y=some c->x=y
 has:∀x,(X.env.kindOf x=some .cell∨X.env.kindOf x=some .free)->∃c,X.env.cells.lookup x=some c
 cab:∀x c,X.fn x=true->X.env.cells.lookup x=some c->X.s₀.heap.objs.size<=c
 hd:X.calm=true->X.A.handled=none
 frames:X.A.frames=some X.stack
 stk:X.stack=X.outer∨(X.stack=X.env::X.outer/\X.env.frame=some X.env.locals)
 exf:∀b∈X.ex,b≠X.env.locals/\∀x c,X.env.cells.lookup x=some c->c≠b
 bs:∀b o,X.base.get? b=some o->X.s₀.heap.get? b=some o/\X.H₀ b=none
 bsz:X.base.objs.size<=X.s₀.heap.objs.size
 noex:∀b o,X.base.get? b=some o->b∉X.ex
 exfs:∀b∈X.ex,b∉X.fs
 funs:X.s₀.heap.FunFrames X.base X.outer
 frf:∀b∈X.fs,X.H₀ b=none
structure ao(X:Cx)(pins:List (Addr×Obj))(σ:List (Option V))(H:Hp)(s:Shared):Prop where
 ok:X.Ok
 os:s.os=X.s₀.os
 bare:AllBare s.gens
 base:Un X.fs X.ex X.H₀ H X.s₀.heap s.heap
 loc:∃m,s.heap.Ns X.env.locals m/\∀(i:Nat) (x:Str) (v:V),X.N[i]?=some x->σ[i]?=some (some v)->BC X.env.scope x->∃u,ax v u/\BS X.env s.heap m x u
 cell:∀x c,X.env.cells.lookup x=some c->∃v,s.heap.IsCell c v
 free:H X.env.locals=none
 freeC:∀x c,X.env.cells.lookup x=some c->H c=none
 pin:∀p∈X.pn++pins,s.heap.get? p.1=some p.2/\H p.1=none/\p.1≠X.env.locals/\p.1∉X.fs/\∀v,p.2.data≠ .cell v
 hok:el X.prog X.w H s.heap
 len:σ.length=X.N.length
section
variable {X:Cx}{pins:List (Addr×Obj)}{σ:List (Option V)}{H H':Hp}{s:Shared}{h':Heap}
theorem Cx.Ok.nofr(O:X.Ok)(e:X.base.get? b=some o):b∉X.fs:=λh=>by
 have:=(O.funs.mem h).1
 rw[e]at this;cases this
theorem ao.bs(I:ao X pins σ H s):∀b o,X.base.get? b=some o->s.heap.get? b=some o/\H b=none:=λb o e=>
 #[I.base.keep b o (I.ok.bs b o e).1 (I.ok.bs b o e).2 (I.ok.nofr e) (I.ok.noex b o e),I.base.free b o (I.ok.bs b o e).1 (I.ok.bs b o e).2 (I.ok.noex b o e)]
theorem ao.bk(I:ao X pins σ H s):∀b o,X.base.get? b=some o->s.heap.get? b=some o:=λb o e=>(I.bs b o e).1
theorem ao.mod(I:ao X pins σ H s):Mod X.K X.mg X.base:=I.ok.mod
theorem ao.kIn(I:ao X pins σ H s):X.K.In s.heap:=I.ok.mod.kin.keeps I.bk
theorem ao.lt(I:ao X pins σ H s):X.env.locals < s.heap.objs.size:=let #[_,h,_]:=I.loc;h.lt
theorem ao.sz(I:ao X pins σ H s):X.s₀.heap.objs.size<=s.heap.objs.size:=DV I.ok.above (F8 I.lt)
theorem ao.nofs(I:ao X pins σ H s)(h:s.heap.objs.size<=a):a∉X.fs:=λb=>by
 obtain⟨_,o,c,_⟩:=I.ok.funs.mem b
 exact absurd (DW (DO c) (DV I.sz h)) (EG _)
theorem ao.cne(I:ao X pins σ H s):∀x c,X.env.cells.lookup x=some c->c≠X.env.locals:=λx c e z=>by
 obtain⟨v,o,b,d⟩:=I.cell x c e
 obtain⟨m,⟨O,E,f,h,a,_⟩,_⟩:=I.loc
 rw[z,h]at b;cases b;rw[a]at d;cases d
theorem ao.funs(I:ao X pins σ H s):s.heap.FunFrames X.base X.outer:=by
 have all:∀(l:List Env),(∀b∈ie l,b∈X.fs)->X.s₀.heap.FunFrames X.base l->s.heap.FunFrames X.base l:=by
  intro l
  induction l with
  |nil=>intro _ _;trivial
  |cons E r i=>
   intro d f
   obtain⟨g,⟨L,o,h,j,k,m⟩,n⟩:=f
   have a:L∈X.fs:=d L (by unfold ie;rw[List.filterMap_cons,h];exact List.mem_cons_self)
   obtain⟨S,e⟩:=I.base.slot L o k (I.ok.frf L a) a λz=>I.ok.exfs L z a
   exact#[g,#[L,_,h,j,e,m],i (λb c=>d b (by unfold ie;rw[List.filterMap_cons,h];exact List.mem_cons_of_mem _ c)) n]
 exact all X.outer (λ_ c=>c) I.ok.funs
theorem ao.stack(I:ao X pins σ H s):s.heap.FunFrames X.base X.stack:=by
 rcases I.ok.stk with e | ⟨e,h⟩
 ·rw[e];exact I.funs
 ·rw[e]
  obtain⟨m,a,_⟩:=I.loc
  refine .cons (by rw[I.ok.kind];decide) h a ?_ I.funs
  exact Heap.get?_none_of_le (DV I.ok.bsz I.ok.above)
theorem ao.stkSub(I:ao X pins σ H s):∀b∈ie X.stack,b∈X.env.locals::X.fs:=λb h=>by
 rcases I.ok.stk with e | ⟨e,a⟩
 ·rw[e]at h;exact D9 _ h
 ·rw[e]at h
  unfold ie at h
  rw[HK,a]at h
  exact h
theorem ao.stkFree(I:ao X pins σ H s):∀b∈ie X.stack,H b=none:=λb hb=>by
 rcases List.mem_cons.mp (I.stkSub b hb) with e |hb
 ·rw[e];exact I.free
 ·obtain⟨_,o,h,_⟩:=I.ok.funs.mem hb
  exact I.base.free b o h (I.ok.frf b hb) λz=>I.ok.exfs b z hb
theorem ao.step{g':Array GenState}{d':Drawn}{ch:List Addr}(I:ao X pins σ H s)
  (a:∀b∈ch,(b∈X.ex∨X.s₀.heap.objs.size<=b)/\b≠X.env.locals/\(∀x c,X.env.cells.lookup x=some c->c≠b)/\∀p∈X.pn++pins,p.1≠b)
  (K:∀b o,b≠X.env.locals->b∉X.fs->b∉ch->s.heap.get? b=some o->H b=none->h'.get? b=some o)
  (S:∀b o,b≠X.env.locals->b∈X.fs->b∉ch->s.heap.get? b=some o->H b=none->∃J,h'.get? b=some { o with slots:=J }) (f:∀b o,b∉ch->s.heap.get? b=some o->H b=none->H' b=none)
  (t:∀b o,b∉ch->s.heap.get? b=some o->∃O,h'.get? b=some O)
  (T:∀b j,H b=some (.tup j)->H' b=some (.tup j)) (F:∀b o u,H b=some (.frz o u)->H' b=some (.frz o u)) (B:∀b P,H b=some (.tbl P)->∃M,H' b=some (.tbl (P++M)))
  (ns:∀m,s.heap.Ns X.env.locals m->h'.Ns X.env.locals m) (L:el X.prog X.w H' h') (hg:AllBare g'):
  ao X pins σ H' { s with heap:=h',gens:=g',drawn:=d',toks:=t' }:=by
 have D:∀b o,X.s₀.heap.get? b=some o->b≠X.env.locals:=λb o e=>DS (DW (DO e) I.ok.above)
 have g:∀b o,X.s₀.heap.get? b=some o->b∉X.ex->b∉ch:=λb o e h y=>by
  rcases(a b y).1 with z |z
  ·exact h z
  ·exact absurd (DW (DO e) z) (EG _)
 have C:∀x c,X.env.cells.lookup x=some c->∀v,s.heap.IsCell c v->h'.IsCell c v:=λx c e v #[o,A,Q]=>by
  have N:c∉ch:=λz=>(a c z).2.2.1 x c e Z
  by_cases U:c∈X.fs
  ·obtain⟨J,q⟩:=S c o (I.cne x c e) U N A (I.freeC x c e)
   exact#[_,q,Q]
  ·exact#[o,K c o (I.cne x c e) U N A (I.freeC x c e),Q]
 refine#[I.ok,I.os,hg,#[λb o e n y h=>?_,λb o e n y h=>?_,λb o e n h=>?_,λb o e h=>?_,λb j e=>T b j (I.base.tups b j e),λb o j e=>F b o j (I.base.frzs b o j e),λb P e=>?_],?_,λx c e=>?_,?_,λx c e=>?_,λp W=>?_,L,I.len]
 ·exact K b o (D b o e) y (g b o e h) (I.base.keep b o e n y h) (I.base.free b o e n h)
 ·obtain⟨J,E⟩:=I.base.slot b o e n y h
  obtain⟨R,G⟩:=S b _ (D b o e) y (g b o e h) E (I.base.free b o e n h)
  exact#[R,G]
 ·obtain⟨O,E⟩:=I.base.there b o e h
  exact f b O (g b o e h) E (I.base.free b o e n h)
 ·obtain⟨O,E⟩:=I.base.there b o e h
  exact t b O (g b o e h) E
 ·obtain⟨m1,E⟩:=I.base.tbls b P e
  obtain⟨m2,G⟩:=B b _ E
  exact#[m1++m2,by rw[G,Array.append_assoc]]
 ·obtain⟨m,hn,hl⟩:=I.loc
  refine#[m,ns m hn,λi x v E G e3=>?_]
  obtain⟨u,r,l⟩:=hl i x v E G e3
  refine#[u,r,?_]
  rcases l with l | ⟨k,c,e,z⟩
  ·exact .inl l
  ·exact .inr #[k,c,e,C x c e _ z]
 ·obtain⟨v,z⟩:=I.cell x c e
  exact#[v,C x c e v z]
 ·obtain⟨m,⟨o,_,_,A,_⟩,_⟩:=I.loc
  exact f _ o (λz=>(a _ z).2.1 Z) A I.free
 ·obtain⟨v,o,A,Q⟩:=I.cell x c e
  exact f c o (λz=>(a c z).2.2.1 x c e Z) A (I.freeC x c e)
 ·obtain⟨e,n,Y,nf,d⟩:=I.pin p W
  have N:p.1∉ch:=λz=>(a p.1 z).2.2.2 p W Z
  exact#[K p.1 p.2 Y nf N e n,f p.1 p.2 N e n,Y,nf,d]
theorem ao.un{t':Nat}(I:ao X pins σ H s)(u:Un X.fs [] H H' s.heap h')(a:el X.prog X.w H' h'):ao X pins σ H' { s with heap:=h',toks:=t' }:=by
 obtain⟨m,⟨o,j,k,f,r⟩,_⟩:=id I.loc
 obtain⟨S,g⟩:=u.any f I.free IN
 exact I.step (g':=s.gens) (d':=s.drawn) (ch:=[]) (λ_ z=>nomatch z) (λb o _ c _ e n=>u.keep b o e n c IN) (λb o _ c _ e n=>u.slot b o e n c IN) (λb o _ e n=>u.free b o e n IN) (λb o _ e=>u.there b o e IN) u.tups u.frzs u.tbls (λM i=>by
  obtain⟨O,E,d,h,R⟩:=i
  rw[f]at h;cases h
  exact#[_,E,d,g,R]) a I.bare
theorem ao.call{g':Array GenState}{t':Nat}{d':Drawn}{ch:List Addr}(I:ao X pins σ H s)(u:Un (ie X.stack) ch H H' s.heap h')(f:el X.prog X.w H' h')(k:AllBare g')
  (a:∀b∈ch,(b∈X.ex∨X.s₀.heap.objs.size<=b)/\b≠X.env.locals/\(∀x c,X.env.cells.lookup x=some c->c≠b)/\∀p∈X.pn++pins,p.1≠b):
  ao X pins σ H' { s with heap:=h',gens:=g',drawn:=d',toks:=t' }:=by
 obtain⟨m,⟨o,t,v,j,r⟩,_⟩:=id I.loc
 obtain⟨S,g⟩:=u.any j I.free λz=>(a _ z).2.1 Z
 exact I.step (ch:=ch) a (λb o g l h e n=>u.keep b o e n (λz=>(List.mem_cons.mp (I.stkSub b z)).elim g l) h) (λb o _ _ h e n=>u.any e n h) (λb o h e n=>u.free b o e n h) (λb o h e=>u.there b o e h) u.tups u.frzs u.tbls (λM q=>by
  obtain⟨O,E,i,d,R⟩:=q
  rw[j]at d;cases d
  exact#[_,E,i,g,R]) f k
theorem ao.turned{t':Nat}{it:Addr}(I:ao X pins σ H s)(k:∀b o,b≠it->s.heap.get? b=some o->h'.get? b=some o)(d:H it=none)(a:it≠X.env.locals)
  (f:it∈X.ex∨X.s₀.heap.objs.size<=it) (g:∀x c,X.env.cells.lookup x=some c->c≠it) (i:∀p∈X.pn++pins,p.1≠it):ao X pins σ H { s with heap:=h',toks:=t' }:=by
 have N:∀b u,H b=some u->b≠it:=λb u e z=>by rw[z,d]at e;cases e
 refine I.step (g':=s.gens) (d':=s.drawn) (ch:=[it]) (λb j=>?_) (λb o _ _ h e _=>k b o (λz=>h (by simp [z])) e) (λb o _ _ h e _=>#[o.slots,k b o (λz=>h (by simp [z])) e]) (λ_ _ _ _ n=>n)
  (λb o h e=>#[o,k b o (λz=>h (by simp [z])) e]) (λ_ _ e=>e) (λ_ _ _ e=>e) (λb P e=>#[(List.toArray []),by rw[e];simp]) (λm l=>?_) (λb u e=>?_) I.bare
 ·have e:b=it:=by simpa using j
  subst e
  exact#[f,a,g,i]
 ·obtain⟨o,E,t,w,r⟩:=l
  exact#[o,E,t,k _ o (Eg a) w,r]
 ·refine(I.hok b u e).stay (λc v h q=>k c v ?_ q) (λ_ q=>q) λ_ _ q=>q
  rcases h with z |z
  ·rw[z];exact N b u e
  ·exact N c _ z
theorem ao.tok(I:ao X pins σ H s)(t:Nat):ao X pins σ H { s with toks:=t }:=I.un (h':=s.heap) (t':=t) Un.refl I.hok
theorem ao.kept{t':Nat}(I:ao X pins σ H s)(k:∀b u,s.heap.get? b=some u->h'.get? b=some u):ao X pins σ H { s with heap:=h',toks:=t' }:=I.un (Un.kept k) (I.hok.kept k)
theorem ao.laid{a:Addr}{o:HO}{t':Nat}(I:ao X pins σ H s)(k:∀b u,s.heap.get? b=some u->h'.get? b=some u)(h:s.heap.objs.size<=a)(n:aG X.prog X.w (af H a o) h' a o):
  ao X pins σ (af H a o) { s with heap:=h',toks:=t' }:=I.un (Un.laid k h (I.hok.fresh h)) (I.hok.laid k h n)
theorem ao.write{x e:Addr}{o:HO}{t':Nat}(I:ao X pins σ H s)(m:Ab (H x))(a:e=x∨H e=some (.own x))(k:∀b u,b≠e->s.heap.get? b=some u->h'.get? b=some u)(h:∃u,h'.get? e=some u)
  (n:aG X.prog X.w (af H x o) h' x o):ao X pins σ (af H x o) { s with heap:=h',toks:=t' }:=I.un (Un.write m a k h) (I.hok.write m a k h n)
theorem ao.pins_of{pins':List (Addr×Obj)}(I:ao X pins σ H s)(h:∀p∈pins',s.heap.get? p.1=some p.2/\H p.1=none/\p.1≠X.env.locals/\p.1∉X.fs/\∀v,p.2.data≠ .cell v):ao X pins' σ H s:=
 #[I.ok,I.os,I.bare,I.base,I.loc,I.cell,I.free,I.freeC,λp a=>(List.mem_append.mp a).elim (λz=>I.pin p (EU _ z)) (h p),I.hok,I.len]
theorem Q0{N:List Str}(h:N.Nodup){i j:Nat}{x:Str}(a:N[i]?=some x)(b:N[j]?=some x):i=j:=by
 obtain⟨c,e⟩:=List.getElem?_eq_some_iff.mp a
 obtain⟨d,E⟩:=List.getElem?_eq_some_iff.mp b
 exact(List.getElem_inj h).mp (e.trans E.symm)
theorem K6{v:V}{Q:Unit->Shared->Prop}(I:ao X pins σ H s)(hN:X.N.Nodup)(L:X.N[i]?=some x)(l:nS X.env.scope x)(r:ax v u)
  (h:∀s',ao X pins (σ.set i (some v)) H s'->(∃a,Heap.SameBut a s.heap s'.heap/\(a=X.env.locals∨X.env.cells.lookup x=some a))->Q () s') (hf:X.fn x=true∨X.env.scope.names.lookup x=some .local:=by first |exact .inl Z |exact .inr Z |assumption):wpAny M A (storeName X.env x u) Q E s:=by
 obtain⟨m,hn,hl⟩:=id I.loc
 have O:(X.env.scope.kind== .class||(X.env.scope.kind== .module&&X.env.locals != X.env.globals))=false:=by rw[I.ok.kind];rfl
 have D:i < σ.length:=by rw[I.len];exact(List.getElem?_eq_some_iff.mp L).1
 have F:=I.cne
 have t:∀{a:Addr} {h':Heap},(∃o,s.heap.get? a=some o/\H a=none)->Heap.SameBut a s.heap h'->el X.prog X.w H h':=λ{a h'} ha f b ob e=>by
  obtain⟨_,_,B⟩:=ha
  refine(I.hok b ob e).stay (λc W hc q=>(f.2 c ?_).trans q) (λ_ q=>q) λ_ _ q=>q
  rintro rfl
  rcases hc with rfl |hc
  ·rw[B]at e;cases e
  ·rw[B]at hc;cases hc
 rcases l with hk |hk
 ·refine wpAny_storeName_local hk hn (λh' h0 f=>?_) O
  obtain⟨oL,_,_,h1,_⟩:=id hn
  refine h _ #[I.ok,I.os,I.bare,#[λb o e n G l=>?_,λb o e n G l=>?_,I.base.free,λb o e l=>?_,I.base.tups,I.base.frzs,I.base.tbls],#[_,h0,λj y v' g C e3=>?_],λy c e=>?_,I.free,I.freeC,λp hp=>?_,t #[oL,h1,I.free] f,by simpa using I.len] #[_,f,.inl Z]
  ·exact(f.2 b (DS (DW (DO e) I.ok.above))).trans (I.base.keep b o e n G l)
  ·obtain⟨sl,g⟩:=I.base.slot b o e n G l
   exact#[sl,(f.2 b (DS (DW (DO e) I.ok.above))).trans g]
  ·obtain⟨o',g⟩:=I.base.there b o e l
   exact#[o',(f.2 b (DS (DW (DO e) I.ok.above))).trans g]
  ·by_cases J:j=i
   ·subst J
    rw[L]at g;cases g
    rw[Gs D]at C
    cases C
    exact#[u,r,.inl #[hk,IN]]
   ·rw[FE (Eg J)]at C
    obtain⟨u',r',q⟩:=hl j y v' g C e3
    refine#[u',r',?_]
    rcases q with ⟨k,e⟩ | ⟨k,c,e,z⟩
    ·refine .inl #[k,?_]
     have:y≠x:=λe=>J (Q0 hN g (e▸L))
     simp [this,e]
    ·exact .inr #[k,c,e,z.sameBut f (F y c e)]
  ·obtain⟨W,z⟩:=I.cell y c e
   exact#[W,z.sameBut f (F y c e)]
  ·obtain⟨e,n,U,nf,d⟩:=I.pin p hp
   exact#[(f.2 p.1 U).trans e,n,U,nf,d]
 ·have K:X.fn x=true:=by
   rcases hf with z |z
   ·exact z
   ·rw[z]at hk;cases hk
  obtain⟨c,hc⟩:=I.ok.has x (.inl hk)
  obtain⟨W,z⟩:=I.cell x c hc
  refine wpAny_storeName_cell I.ok.kind hk hc z (λh' P f=>?_)
  obtain⟨oc,R,S⟩:=id z
  refine h { s with heap:=h' } #[I.ok,I.os,I.bare,#[λb o e n G l=>?_,λb o e n G l=>?_,I.base.free,λb o e l=>?_,I.base.tups,I.base.frzs,I.base.tbls],#[m,hn.sameBut f (Eg (F x c hc)),λj y v' g C e3=>?_],λy Y e=>?_,I.free,I.freeC,λp hp=>?_,t #[oc,R,I.freeC x c hc] f,by simpa using I.len] #[c,f,.inr hc]
  ·exact(f.2 b (DS (DW (DO e) (I.ok.cab x c K hc)))).trans (I.base.keep b o e n G l)
  ·obtain⟨sl,g⟩:=I.base.slot b o e n G l
   exact#[sl,(f.2 b (DS (DW (DO e) (I.ok.cab x c K hc)))).trans g]
  ·obtain⟨o',g⟩:=I.base.there b o e l
   exact#[o',(f.2 b (DS (DW (DO e) (I.ok.cab x c K hc)))).trans g]
  ·by_cases J:j=i
   ·subst J
    rw[L]at g;cases g
    rw[Gs D]at C
    cases C
    exact#[u,r,.inr #[.inl hk,c,hc,P]]
   ·rw[FE (Eg J)]at C
    obtain⟨u',r',q⟩:=hl j y v' g C e3
    refine#[u',r',?_]
    rcases q with q | ⟨k,Y,e,z'⟩
    ·exact .inl q
    ·refine .inr #[k,Y,e,z'.sameBut f ?_]
     rintro rfl
     exact J (Q0 hN g (I.ok.inj _ _ _ e hc▸L))
  ·by_cases T:Y=c
   ·subst T;exact#[_,P]
   ·obtain⟨w2,z2⟩:=I.cell y Y e
    exact#[w2,z2.sameBut f T]
  ·obtain⟨e,n,U,nf,d⟩:=I.pin p hp
   refine#[(f.2 p.1 ?_).trans e,n,U,nf,d]
   intro q
   rw[q,R]at e
   have q':oc=p.2:=Eo e
   exact d W (by rw[<- q'];exact S)
theorem zq{Q:Unit->Shared->Prop}(I:ao X pins σ H s)(a:X.N.Nodup)(b:X.N[i]?=some x)(c:nS X.env.scope x)(r:ax v u)
  (h:∀S,ao X pins (σ.set i (some v)) H S->Q () S) (d:X.fn x=true∨X.env.scope.names.lookup x=some .local:=by first |exact .inl Z |exact .inr Z |assumption):wpAny M A (storeName X.env x u) Q E s:=
 K6 I a b c r (λS e _=>h S e) d
theorem ao.call'{S:Shared}{ch:List Addr}(I:ao X pins σ H s)(d:S.os=s.os)(u:Un (ie X.stack) ch H H' s.heap S.heap)(h:el X.prog X.w H' S.heap)(f:AllBare S.gens)
  (a:∀b∈ch,(b∈X.ex∨X.s₀.heap.objs.size<=b)/\b≠X.env.locals/\(∀x c,X.env.cells.lookup x=some c->c≠b)/\∀p∈X.pn++pins,p.1≠b):ao X pins σ H' S:=by
 obtain⟨h',g',d',t',o⟩:=S
 have e:o=s.os:=d
 subst e
 exact I.call (g':=g') (t':=t') (d':=d') u h f a
end
abbrev XK:=Value->Option Addr->Hp->Prop
abbrev St:=List (Option V)
abbrev VK:=V->Hp->Prop
abbrev TE:=St->Hp->VK->Prop
abbrev TT:=St->Hp->(Bool->Hp->Prop)->Prop
abbrev TA:=St->Hp->(List V->Hp->Prop)->Prop
structure a9 where
 nx:St->Hp->Prop
 rt:VK
 bk:St->Hp->Prop:=λ_ _=>False
 ct:St->Hp->Prop:=λ_ _=>False
abbrev TS:=a9->St->Hp->Prop
def EP(X:Cx)(p:List (Addr×Obj))(a:St)(Q:VK)(u:Value)(s:Shared):Prop:=∃v H,ao X p a H s/\ax v u/\Q v H
def TP(X:Cx)(p:List (Addr×Obj))(a:St)(Q:Bool->Hp->Prop)(b:Bool)(s:Shared):Prop:=∃H,ao X p a H s/\Q b H
def AP(X:Cx)(p:List (Addr×Obj))(a:St)(Q:List V->Hp->Prop)(u:List Value)(s:Shared):Prop:=∃v H,ao X p a H s/\au v u/\Q v H
def SP(X:Cx)(p:List (Addr×Obj))(D:a9)(f:Flow)(s:Shared):Prop:=
 match f with
 | .next=>∃a H,ao X p a H s/\D.nx a H
 | .brk=>∃a H,ao X p a H s/\D.bk a H
 | .cont=>∃a H,ao X p a H s/\D.ct a H
 | .ret u=>∃v a H,ao X p a H s/\ax v u/\D.rt v H
def PE(X:Cx)(e:Expr)(t:TE):Prop:=
 ∀(p:List (Addr×Obj)) (s:Shared) (a:St) (H:Hp) (Q:VK),ao X p a H s->t a H Q->wpAny (model X.prog X.w) X.A (eval e X.env) (EP X p a Q) X.xe s
def PT(X:Cx)(e:Expr)(t:TT):Prop:=
 ∀(p:List (Addr×Obj)) (s:Shared) (a:St) (H:Hp) (Q:Bool->Hp->Prop),ao X p a H s->t a H Q->wpAny (model X.prog X.w) X.A (isTrue e X.env (eval e X.env)) (TP X p a Q) X.xe s
def PW(X:Cx)(e:Expr)(t:TT):Prop:=
 ∀(W:Sem Value) (p:List (Addr×Obj)) (s:Shared) (a:St) (H:Hp) (Q:Bool->Hp->Prop),ao X p a H s->t a H Q->wpAny (model X.prog X.w) X.A (isTrue e X.env W) (TP X p a Q) X.xe s
theorem PW.pt{X:Cx}{e:Expr}{t:TT}(h:PW X e t):PT X e t:=h _
def PA(X:Cx)(e:List Expr)(t:TA):Prop:=
 ∀(P:Pos) (p:List (Addr×Obj)) (s:Shared) (a:St) (H:Hp) (Q:List V->Hp->Prop),ao X p a H s->t a H Q->wpAny (model X.prog X.w) X.A (spliced (backTo P (starEach e X.env))) (AP X p a Q) X.xe s
def PS(X:Cx)(st:Stmt)(t:TS):Prop:=
 ∀(p:List (Addr×Obj)) (s:Shared) (a:St) (H:Hp) (D:a9),ao X p a H s->t D a H->wpAny (model X.prog X.w) X.A (exec st X.env) (SP X p D) X.xe s
def iV(X:Cx)(st:List Stmt)(t:TS):Prop:=
 ∀(p:List (Addr×Obj)) (s:Shared) (a:St) (H:Hp) (D:a9),ao X p a H s->t D a H->wpAny (model X.prog X.w) X.A (execs st X.env) (SP X p D) X.xe s
theorem aO{b:Type}{t:Sem b}{Q q:b->Shared->Prop}{M:Model}{A:Around}{E:Value->Shared->Prop}{s:Shared}(h:wpAny M A t Q E s)(H:∀a s,Q a s->q a s):wpAny M A t q E s:=EK h H λ_ _ x=>x
section
variable {X:Cx}
def aS(i:Nat):TE:=λa H Q=>∃v,a[i]?=some (some v)/\Q v H
def tC(v:V):TE:=λ_ H Q=>Q v H
theorem yf(j:X.N[i]?=some x)(k:BC X.env.scope x)(b:(x==("__debug__":Str))=false:=by decide)(d:(x==("__classdict__":Str))=false:=by decide):PE X (.Name x n) (aS i):=by
 intro p s o H Q I h
 obtain⟨v,e,h⟩:=h
 obtain⟨m,q,t⟩:=I.loc
 obtain⟨u,r,l⟩:=t i x v j e k
 have f:EP X p o Q u s:=#[v,H,I,r,h]
 rcases l with ⟨hk,w⟩ | ⟨hk,c,g,a⟩
 ·exact wpAny_Name (wpAny_loadName_local I.ok.kind hk q w f) b
 ·rcases hk with hk |hk
  ·exact wpAny_Name (wpAny_loadName_cell I.ok.kind hk g a f) b
  ·exact wpAny_Name (wpAny_loadName_free I.ok.kind hk g a f d) b
theorem jf{i j p}:PE X (.Constant (.int i) j p) (tC (.int i)):=λ_ _ _ H _ I h=>wpAny_Constant_int #[.int i,H,I.tok _,#[_,Z],h]
theorem Ju{b j p}:PE X (.Constant (.bool b) j p) (tC (.bl b)):=λ_ _ _ H _ I h=>Constant_bool #[.bl b,H,I,Z,h]
theorem XA{j p}:PE X (.Constant .none j p) (tC .non):=λ_ _ _ H _ I h=>Constant_none #[.non,H,I,Z,h]
theorem jk{x j p}:PE X (.Constant (.str x) j p) (tC (.str x)):=λ_ _ _ H _ I h=>Calls.Constant_str #[.str x,H,I.tok _,#[_,Z],h]
def Gl(X:Cx)(x:Str):Prop:=X.env.kindOf x=some .globalImplicit
theorem zd{Q:Value->Shared->Prop}(I:ao X p e H s)(a:Gl X x)(b:X.mg x=some u)(h:Q u s)
  (c:(x==("__debug__":Str))=false:=by decide):wpAny (model X.prog X.w) X.A (eval (.Name x d) X.env) Q E s:=
 Calls.Name_function_global I.ok.kind a (Calls.loadGlobal_global (by rw[I.ok.glob];exact I.mod.glob.keeps I.bk) b h) c
theorem zH{Q:Value->Shared->Prop}(I:ao X p j H s)(a:Gl X x)(b:X.mg x=none)(c:bootBuiltins x=some u)(h:Q u s)
  (d:x≠"__name__":=by decide) (e:(x==("__debug__":Str))=false:=by decide):wpAny (model X.prog X.w) X.A (eval (.Name x f) X.env) Q E s:=by
 obtain⟨m,g,i⟩:=I.mod.blt
 exact Calls.Name_function_global I.ok.kind a (Calls.loadGlobal_builtin (by rw[I.ok.glob];exact I.mod.glob.keeps I.bk) b (by rw[I.ok.blt];exact g.keeps I.bk) ((i x d).trans c) h) e
theorem qO{v:V}(a:Gl X x)(b:X.mg x=some u)(r:ax v u)(c:(x==("__debug__":Str))=false:=by decide):PE X (.Name x p) (tC v):=
 λ_ _ _ H _ I h=>zd I a b #[v,H,I,r,h] c
theorem tY{v:V}(a:Gl X x)(b:X.mg x=none)(c:bootBuiltins x=some u)(r:ax v u)(d:x≠"__name__":=by decide)(e:(x==("__debug__":Str))=false:=by decide):PE X (.Name x p) (tC v):=
 λ_ _ _ H _ I h=>zH I a b c #[v,H,I,r,h] d e
variable {a b:Expr}{ta tb:TE}{pos:Pos}
def PC(X:Cx)(o:CmpOp)(a b:Expr)(t:TE):Prop:=
 ∀(p:List (Addr×Obj)) (s:Shared) (d:St) (H:Hp) (Q:VK),ao X p d H s->t d H Q->
  wpAny (model X.prog X.w) X.A (eval a X.env) (λv S=>wpAny (model X.prog X.w) X.A (eval b X.env) (λu c=>wpAny (model X.prog X.w) X.A (compareOp o v u) (EP X p d Q) X.xe c) X.xe S) X.xe s
def CT(ta:TE):TE:=λc H Q=>ta c H λx h=>Q (.bl (decide (x= .non))) h
theorem ax.none_iff(r:ax x v):(v==Value.none)=decide (x= .non):=by
 cases x with
 |non=>cases r;rfl
 |bl _=>cases r;rfl
 |int _=>obtain⟨t,rfl⟩:=r;rfl
 |str _=>obtain⟨t,rfl⟩:=r;rfl
 |byt _=>obtain⟨t,rfl⟩:=r;rfl
 |flt _=>obtain⟨t,rfl⟩:=r;rfl
 |ref _=>cases r;rfl
 |ty _=>cases r;rfl
theorem ya{j p}(c:PE X a ta):PC X .Is a (.Constant .none j p) (CT ta):=by
 intro P s d H Q I h
 refine aO (c P s d H _ I h) λv S z=>?_
 obtain⟨x,e,i,r,q⟩:=z
 exact Constant_none (is_none_gen #[.bl _,e,i,by rw[r.none_iff];rfl,q])
def tB(t:TE):TT:=λd H Q=>t d H λx h=>∃c,x= .bl c/\Q c h
theorem ZK(h:PC X o a b t)(e:behindInMarks o b=false:=by first |exact n _ IL IL |rfl):PT X (.Compare a [o] [b] pos) (tB t):=by
 intro p s f H Q I g
 refine wpAny_isTrue_Compare1 (aO (h p s f H _ I g) λv S e=>aO e λu m i=>aO i λc w z=>?_) e
 obtain⟨x,j,k,r,l⟩:=z
 obtain⟨d,rfl,q⟩:=l
 cases r
 exact Gy #[j,k,q]
theorem XB(h:PE X e t)(c:∀w,isTrue e X.env w=(do let v <- w;standAt e.pos;holding [v] (truthy v)):=by intro _;rfl):PT X e (tB t):=by
 intro p s f H Q I g
 refine isTrue_plain (aO (h p s f H _ I g) λv S z=>?_) (c _)
 obtain⟨x,i,j,r,k⟩:=z
 obtain⟨d,rfl,q⟩:=k
 cases r
 exact Gy #[i,j,q]
variable {tA tB':TT}{rest:List Expr}
def CM(t u:TT):TT:=λd H Q=>t d H λc h=>if c=true then u d h Q else Q false h
def Dv(t u:TT):TT:=λd H Q=>t d H λc h=>if c=true then Q true h else u d h Q
def CU(t:TT):TT:=λd H Q=>t d H λc h=>Q (!c) h
theorem zD(d:PT X a tA):PW X (.BoolOp .And [a] pos) tA:=by
 intro w p s f H Q I h
 refine isTrue_and (aO (d p s f H Q I h) λc S e=>?_)
 cases c with
 |true=>exact isTrue_and_nil e
 |false=>exact e
theorem Jj(d:PT X a tA):PW X (.BoolOp .Or [a] pos) tA:=by
 intro w p s f H Q I h
 refine isTrue_or (aO (d p s f H Q I h) λc S e=>?_)
 cases c with
 |false=>exact isTrue_or_nil e
 |true=>exact e
theorem qf(f:PT X a tA)(g:PW X (.BoolOp .And (b::rest) pos) tB'):PW X (.BoolOp .And (a::b::rest) pos) (CM tA tB'):=by
 intro w p s d H Q I h
 refine isTrue_and (aO (f p s d H _ I h) λc S z=>?_)
 obtain⟨e,i,q⟩:=z
 cases c with
 |true=>exact g w p S d e Q i q
 |false=>exact#[e,i,q]
theorem KW(f:PT X a tA)(g:PW X (.BoolOp .Or (b::rest) pos) tB'):PW X (.BoolOp .Or (a::b::rest) pos) (Dv tA tB'):=by
 intro w p s d H Q I h
 refine isTrue_or (aO (f p s d H _ I h) λc S z=>?_)
 obtain⟨e,i,q⟩:=z
 cases c with
 |true=>exact#[e,i,q]
 |false=>exact g w p S d e Q i q
theorem XC(d:PT X a tA):PT X (.UnaryOp .Not a pos) (CU tA):=by
 intro p s e H Q I h
 exact isTrue_not (d p s e H (λc f=>Q (!c) f) I h)
def Bl(ta tb:TE):TE:=λd H Q=>ta d H λx h=>∃c,x= .bl c/\if c=true then tb d h Q else Q (.bl false) h
theorem ye(h:PE X a t):PE X (.BoolOp o [a] pos) t:=λp s c H Q I d=>BoolOp_one (h p s c H Q I d)
theorem yb(f:PE X a ta)(g:PE X (.BoolOp .And (b::rest) pos) tb):PE X (.BoolOp .And (a::b::rest) pos) (Bl ta tb):=by
 intro p s d H Q I h
 refine BoolOp_and (aO (f p s d H _ I h) λv S z=>?_)
 obtain⟨x,e,i,r,q⟩:=z
 obtain⟨c,rfl,q⟩:=q
 cases r
 refine Gy ?_
 cases c with
 |true=>exact g p S d e Q i q
 |false=>exact#[.bl false,e,i,Z,q]
def Du(t:TT)(ta tb:TE):TE:=λd H Q=>t d H λc h=>if c=true then ta d h Q else tb d h Q
theorem zb(g:PT X c tA)(j:PE X a ta)(k:PE X b tb):PE X (.IfExp c a b pos) (Du tA ta tb):=by
 intro p s e H Q I h
 refine wpAny_IfExp (aO (g p s e H _ I h) λd S z=>?_)
 obtain⟨f,i,q⟩:=z
 cases d with
 |true=>exact j p S e f Q i q
 |false=>exact k p S e f Q i q
end
def aC(K:Frag)(H:Hp)(a:Addr)(x:List V):Prop:=
 Rd H a (.lst x)∨
  ∃(o:Obj) (i:Array Value) (n:Nat),K.lookup a=some o/\o.cls= .type "list"/\o.dict=none/\o.data= .seq i n/\i.size<=sizeLine/\au x i.toList
def aA(K:Frag)(H:Hp)(a:Addr)(x:List V):Prop:=
 Rd H a (.tup x)∨
  ∃(o:Obj) (i:Array Value) (n:Nat),K.lookup a=some o/\o.cls= .type "tuple"/\o.data= .seq i n/\i.size<=sizeLine/\au x i.toList
noncomputable def B0:Value->Option V
 | .none=>some .non
 | .bool b=>some (.bl b)
 | .int i _=>some (.int i)
 | .str x _=>some (.str x)
 | .bytes b _=>some (.byt b)
 | .float b _=>some (.flt b)
 | .ref a=>some (.ref a)
 | .type n=>some (.ty n)
 |_=>none
theorem ax.abs(r:ax x u):B0 u=some x:=by
 cases x with
 |non=>cases r;rfl
 |bl _=>cases r;rfl
 |int _=>obtain⟨t,rfl⟩:=r;rfl
 |str _=>obtain⟨t,rfl⟩:=r;rfl
 |byt _=>obtain⟨t,rfl⟩:=r;rfl
 |flt _=>obtain⟨t,rfl⟩:=r;rfl
 |ref _=>cases r;rfl
 |ty _=>cases r;rfl
theorem ax.inj{x:V}(r:ax x u)(q:ax y u):x=y:=Eo (r.abs.symm.trans q.abs)
theorem au.inj:∀{x y:List V} {u:List Value},au x u->au y u->x=y
 |_,_,_,.nil,.nil=>rfl
 |_,_,_,.cons r t,.cons R T=>by rw[r.inj R,au.inj t T]
section
variable {X:Cx}{pins:List (Addr×Obj)}{σ:St}{H:Hp}{s:Shared}{a:Addr}{xs ys:List V}
theorem aC.of{K:Frag}(h:H a=some (.lst xs)):aC K H a xs:=.inl (.inl h)
theorem aA.of{K:Frag}(h:H a=some (.tup xs)):aA K H a xs:=.inl (.inl h)
theorem ao.list(I:ao X pins σ H s)(h:aC X.K H a xs):∃i:List Value,au xs i/\PlainL s.heap a i.toArray/\xs.length<=sizeLine:=by
 rcases h with h | ⟨o,i,n,b,c,d,f,g,r⟩
 ·obtain⟨z,i,n,r,e⟩:=h.ok I.hok
  exact#[i,r,#[_,n,e,Z,Z,Z],z]
 ·refine#[i.toList,r,#[o,n,I.kIn a o b,c,d,by simpa using f],?_]
  have e:=r.length
  simp only[D6]at e
  omega
theorem ao.tuple(I:ao X pins σ H s)(h:aA X.K H a xs):∃i:List Value,au xs i/\IsTup s.heap a i.toArray/\xs.length<=sizeLine:=by
 rcases h with h | ⟨o,i,n,b,c,d,f,r⟩
 ·obtain⟨z,i,r,p⟩:=h.ok I.hok
  exact#[i,r,p,z]
 ·refine#[i.toList,r,#[o,I.kIn a o b,c,n,by simpa using d],?_]
  have e:=r.length
  simp only[D6]at e
  omega
theorem ao.list_inj(I:ao X pins σ H s)(h:aC X.K H a xs)(c:aC X.K H a ys):xs=ys:=by
 obtain⟨b,r,⟨o,n,e,_,_,d⟩,_⟩:=I.list h
 obtain⟨i,R,⟨O,N,E,_,_,D⟩,_⟩:=I.list c
 rw[e]at E;cases E
 rw[d]at D
 injection D with f _
 have:b=i:=by simpa using EO Array.toList f
 subst this
 exact r.inj R
theorem ao.tuple_inj(I:ao X pins σ H s)(h:aA X.K H a xs)(c:aA X.K H a ys):xs=ys:=by
 obtain⟨b,r,⟨o,e,_,n,d⟩,_⟩:=I.tuple h
 obtain⟨i,R,⟨O,E,_,N,D⟩,_⟩:=I.tuple c
 rw[e]at E;cases E
 rw[d]at D
 injection D with f _
 have:b=i:=by simpa using EO Array.toList f
 subst this
 exact r.inj R
end
noncomputable abbrev Cx.wish(X:Cx)(E:Value->Shared->Prop):Cx:={ X with xe:=E }
noncomputable abbrev Cx.nox(X:Cx):Cx:=X.wish λ_ _=>False
theorem Cx.Ok.wish{X:Cx}(o:X.Ok)(E:Value->Shared->Prop):(X.wish E).Ok:=
 #[o.mod,o.kind,o.glob,o.blt,o.above,o.inj,o.has,o.cab,o.hd,o.frames,o.stk,o.exf,o.bs,o.bsz,o.noex,o.exfs,o.funs,o.frf]
theorem Cx.Ok.unwish{X:Cx}(o:(X.wish E).Ok):X.Ok:=
 #[o.mod,o.kind,o.glob,o.blt,o.above,o.inj,o.has,o.cab,o.hd,o.frames,o.stk,o.exf,o.bs,o.bsz,o.noex,o.exfs,o.funs,o.frf]
section
variable {X:Cx}{pins:List (Addr×Obj)}{σ:St}{H:Hp}{s:Shared}{E:Value->Shared->Prop}
theorem ao.wish(I:ao X pins σ H s)(E:Value->Shared->Prop):ao (X.wish E) pins σ H s:=#[I.ok.wish E,I.os,I.bare,I.base,I.loc,I.cell,I.free,I.freeC,I.pin,I.hok,I.len]
theorem ao.unwish(I:ao (X.wish E) pins σ H s):ao X pins σ H s:=#[I.ok.unwish,I.os,I.bare,I.base,I.loc,I.cell,I.free,I.freeC,I.pin,I.hok,I.len]
theorem SP.unwish(h:SP (X.wish E) pins D f c):SP X pins D f c:=by
 cases f with
 |next=>obtain⟨a,b,I,q⟩:=h;exact#[a,b,I.unwish,q]
 |brk=>obtain⟨a,b,I,q⟩:=h;exact#[a,b,I.unwish,q]
 |cont=>obtain⟨a,b,I,q⟩:=h;exact#[a,b,I.unwish,q]
 |ret u=>obtain⟨v,a,b,I,r,q⟩:=h;exact#[v,a,b,I.unwish,r,q]
theorem iV.nox{st:List Stmt}(h:iV X.nox st t):iV X st t:=λpins s σ H D I a=>
 EK (h pins s σ H D (I.wish _) a) (λ_ _ q=>q.unwish) λ_ _ z=>False.elim z
end
section
variable {X:Cx}{st:Stmt}{rest:List Stmt}{t u:TS}{e:Expr}{te:TE}{pos:Pos}
def rH:TS:=λD a H=>D.nx a H
def fQ(t u:TS):TS:=λD a H=>t { D with nx:=u D } a H
theorem jm:iV X [] rH:=λ_ _ a H _ I h=>Gu #[a,H,I,h]
theorem jd(b:PS X st t)(c:iV X rest u):iV X (st::rest) (fQ t u):=by
 intro p s d H D I h
 refine IA (aO (b p s d H { D with nx:=u D } I h) λf S q=>?_)
 cases f with
 |next=>
  obtain⟨a,g,i,q⟩:=q
  exact c p S a g D i q
 |ret v=>exact q
 |brk=>exact q
 |cont=>exact q
theorem jg(a:PS X st t):iV X [st] t:=by
 intro p s b H D I h
 refine IA (aO (a p s b H D I h) λf S q=>?_)
 cases f with
 |next=>exact Gu q
 |ret v=>exact q
 |brk=>exact q
 |cont=>exact q
theorem ao.quiet(I:ao X p a H s):interactive X.env=false:=by simp [interactive,I.ok.kind]
def ni(te:TE):TS:=λD a H=>te a H λ_ h=>D.nx a h
theorem jL(b:PE X e te)(c:swapsWith e none pos.line X.env=pure false:=by rfl):PS X (.Expr e pos) (ni te):=by
 intro p s a H D I h
 exact wpAny_Expr_any (aO (b p s a H _ I h) λv S #[x,d,i,r,q]=>#[a,d,i,q]) I.quiet c
def eh(te:TE):TS:=λD a H=>te a H D.rt
theorem jl(b:PE X e te):PS X (.Return (some e) pos) (eh te):=by
 intro p s a H D I h
 exact wpAny_Return_some (aO (b p s a H _ I h) λv S #[x,c,i,r,q]=>#[x,a,c,i,r,q])
def iS(c:TT)(t u:TS):TS:=λD a H=>c a H λb h=>if b=true then t D a h else u D a h
theorem jv{c:Expr}{a b:List Stmt}{T:TT}(j:PT X c T)(k:iV X a t)(l:iV X b u):PS X (.If c a b pos) (iS T t u):=by
 intro p s f H D I h
 refine wpAny_If (aO (j p s f H _ I h) λd S z=>?_)
 obtain⟨g,i,q⟩:=z
 cases d with
 |true=>exact k p S f g D i q
 |false=>exact l p S f g D i q
end
abbrev TG:=V->St->Hp->(St->Hp->Prop)->Prop
abbrev rW:=List V->St->Hp->(St->Hp->Prop)->Prop
def PG(X:Cx)(T:Expr)(t:TG):Prop:=
 ∀(p:List (Addr×Obj)) (s:Shared) (b:St) (H:Hp) (v:V) (u:Value) (Q:St->Hp->Prop),ao X p b H s->ax v u->t v b H Q->
  wpAny (model X.prog X.w) X.A (assign T X.env u) (λ_ S=>∃a h,ao X p a h S/\Q a h) X.xe s
def yY(X:Cx)(T:List Expr)(t:rW):Prop:=
 ∀(p:List (Addr×Obj)) (s:Shared) (b:St) (H:Hp) (v:List V) (u:List Value) (Q:St->Hp->Prop),ao X p b H s->au v u->t v b H Q->
  wpAny (model X.prog X.w) X.A (assignInOrder ((assignEach T X.env).map (·.2)) u) (λ_ S=>∃a h,ao X p a h S/\Q a h) X.xe s
abbrev wm:=V->V->V->Hp->(Hp->Prop)->Prop
def Ae(X:Cx)(t:wm):Prop:=
 ∀(p:List (Addr×Obj)) (s:Shared) (a:St) (H:Hp) (o i v:V) (O I u:Value) (Q:Hp->Prop),ao X p a H s->ax o O->ax i I->ax v u->t o i v H Q->
  wpAny (model X.prog X.w) X.A (setItem O I u) (λ_ S=>∃h,ao X p a h S/\Q h) X.xe s
abbrev Bz:=V->V->Hp->VK->Prop
def C6(X:Cx)(o:Operator)(t:Bz):Prop:=
 ∀(p:List (Addr×Obj)) (s:Shared) (a:St) (H:Hp) (x y:V) (v u:Value) (Q:VK),ao X p a H s->ax x v->ax y u->t x y H Q->
  wpAny (model X.prog X.w) X.A (inplaceOp o v u) (EP X p a Q) X.xe s
section
variable {X:Cx}{pos:Pos}
def bg(i:Nat):TG:=λv a H Q=>Q (a.set i (some v)) H
theorem js{i:Nat}{x:Str}(a:X.N.Nodup)(b:X.N[i]?=some x)(c:nS X.env.scope x)(d:X.fn x=true∨X.env.scope.names.lookup x=some .local:=by first |exact .inl Z |exact .inr Z |assumption):PG X (.Name x pos) (bg i):=by
 intro p s f H v u Q I r h
 exact wpAny_assign_Name (zq I a b c r (λS e=>#[_,H,e,h]) d)
def sN:rW:=λv a H Q=>v=[]/\Q a H
def dO(t:TG)(u:rW):rW:=λV b H Q=>∃v r,V=v::r/\t v b H λa h=>u r a h Q
theorem kc:yY X [] sN:=by
 intro p s a H v u Q I r h
 obtain⟨e,h⟩:=h
 subst e
 cases r
 exact assignInOrder_nil #[a,H,I,h]
theorem jy(b:PG X e t)(c:yY X E u)
  (d:(assignEach (e::E) X.env).map (·.2)=assign e X.env::(assignEach E X.env).map (·.2):=by rfl):yY X (e::E) (dO t u):=by
 intro p s f H V U Q I r h
 obtain⟨v,k,g,h⟩:=h
 subst g
 cases r with
 |cons r R=>
  rw[d]
  refine assignInOrder_cons (aO (b p s f H _ _ _ I r h) λ_ S z=>?_)
  obtain⟨a,i,j,q⟩:=z
  exact c p S a i _ _ Q j R q
def sO(K:Frag)(n:Nat)(t:rW):TG:=λv b H Q=>∃a x,v= .ref a/\aA K H a x/\x.length=n/\t x b H Q
theorem zi{n:Nat}(g:X.calm=true)(h:yY X E t)
  (i:(assignEach E X.env).length=n:=by rfl) (c:(assignEach E X.env).findIdx? (·.1)=none:=by rfl):PG X (.Tuple E k pos) (sO X.K n t):=by
 intro p s f H v u Q I r d
 obtain⟨a,x,j,l,m,d⟩:=d
 subst j
 cases r
 obtain⟨q,R,w,B⟩:=I.tuple l
 refine assign_Tuple_tuple (I.ok.hd g) w (by simp [i,<- m,R.length]) c λy z=>?_
 have A:ao X p f H { s with heap:=y }:=I.kept (t':=s.toks) λb o e=>z b o (DS (DO e)) e
 exact h p _ f H x _ Q A (by simpa using R) d
def wK(T b:TE)(t:wm):TG:=λv a H Q=>T a H λo h=>b a h λi c=>t o i v c λd=>Q a d
theorem zS{o i:Expr}{T c:TE}{t:wm}(d:PE X o T)(e:PE X i c)(f:Ae X t)
  (g:∀v,assign (.Subscript o i pos) X.env v=(do
   let O <- holding [v] (eval o X.env)
   let a <- holding [v,O] (eval i X.env)
   standAt pos
   holding [v,O,a] (setItem O a v)
   release [v,O,a] []):=by intro _;rfl):PG X (.Subscript o i pos) (wK T c t):=by
 intro p s b H v u Q I r h
 rw[g]
 refine DG (D8 (aO (d p s b H _ I h) λO S z=>?_))
 obtain⟨x,j,k,R,q⟩:=z
 refine DG (D8 (aO (e p S b j _ k q) λa l z=>?_))
 obtain⟨y,m,n,w,A⟩:=z
 refine DG (FY (DG (D8 (aO (f p l b m x y v O a u _ n R w r A) λ_ E z=>?_))))
 obtain⟨B,C,D⟩:=z
 exact wpAny_release #[b,B,C,D]
def dZ(t:TE)(g:TG):TS:=λD a H=>t a H λx h=>g x a h D.nx
theorem kN{t e:Expr}{T:TE}{g:TG}(b:PE X e T)(c:PG X t g)(d:swapsWithSole [t] e pos.line X.env=pure false:=by rfl)(f:swappedStores [t] e X.env=pure none:=by rfl)
  (i:(assignEach [t] X.env).map (·.2)=[assign t X.env]:=by rfl):PS X (.Assign [t] e pos) (dZ T g):=by
 intro p s a H D I h
 refine wpAny_Assign_stores (aO (b p s a H _ I h) λv S z=>?_) d f
 obtain⟨x,j,k,r,Q⟩:=z
 rw[i]
 exact aO (c p S a j x v _ k r Q) λ_ l q=>q
theorem kO{i:Nat}{x:Str}{e:Expr}{t:TE}{p:Pos}(a:X.N.Nodup)(b:X.N[i]?=some x)(c:nS X.env.scope x)(d:PE X e t)(f:swapsWith e (some (.Name x p)) pos.line X.env=pure false:=by rfl)(g:X.fn x=true∨X.env.scope.names.lookup x=some .local:=by first |exact .inl Z |exact .inr Z |assumption):
  PS X (.Assign [.Name x p] e pos) (dZ t (bg i)):=by
 intro P s j H D I h
 refine wpAny_Assign_Name (aO (d P s j H _ I h) λv S z=>?_) f
 obtain⟨y,k,l,r,q⟩:=z
 exact zq l a b c r (λn m=>#[_,k,m,q]) g
def CN(i:Nat)(t:TE)(T:Bz):TS:=λD a H=>∃x,a[i]?=some (some x)/\t a H λy h=>T x y h λz b=>D.nx (a.set i (some z)) b
theorem yi{i:Nat}(q:X.N.Nodup)(g:X.N[i]?=some x)(f:nS X.env.scope x)(t:PE X e T)(B:C6 X o C)(E:X.fn x=true∨X.env.scope.names.lookup x=some .local:=by first |exact .inl Z |exact .inr Z |assumption):
  PS X (.AugAssign (.Name x j) o e pos) (CN i T C):=by
 intro p s n H D I h
 obtain⟨v,F,h⟩:=h
 obtain⟨m,J,K⟩:=I.loc
 have V:BC X.env.scope x:=by rcases f with k |k;exact .inl k;exact .inr (.inl k)
 obtain⟨u,r,l⟩:=K i x v g F V
 refine wpAny_AugAssign_Name ?_
 have G:wpAny (model X.prog X.w) X.A (eval e X.env) (λw S=>wpAny (model X.prog X.w) X.A (inplaceOp o u w) (λr d=>wpAny (model X.prog X.w) X.A (storeName X.env x r) (λ_=>SP X p D .next) X.xe d) X.xe S) X.xe s:=by
  refine aO (t p s n H _ I h) λw L a=>?_
  obtain⟨y,M,O,R,Q⟩:=a
  refine aO (B p L n M v y u w _ O r R Q) λz s2 a=>?_
  obtain⟨zv,P,U,W,Y⟩:=a
  exact zq U q g f W (λs3 I3=>#[_,P,I3,Y]) E
 rcases l with ⟨hk,hm⟩ | ⟨hk,c,hc,b⟩
 ·exact wpAny_loadName_local I.ok.kind hk J hm G
 ·rcases hk with hk |hk
  ·exact wpAny_loadName_cell I.ok.kind hk hc b G
  ·rcases f with k |k
   ·have:X.env.scope.names.lookup x=some .free:=hk
    rw[k]at this;cases this
   ·have:X.env.scope.names.lookup x=some .free:=hk
    rw[k]at this;cases this
def Dm(f:Int->Int->Int):Bz:=λx y H Q=>∃i j,x= .int i/\y= .int j/\Q (.int (f i j)) H
theorem wQ:C6 X .Add (Dm λi j=>i+j):=by
 intro p s a H x y v u Q I r R h
 obtain⟨i,j,e,E,q⟩:=h
 subst e;subst E
 obtain⟨t,rfl⟩:=r
 obtain⟨T,rfl⟩:=R
 exact iadd_int #[.int _,H,I.tok _,#[_,Z],q]
end
section
variable {X:Cx}{pos:Pos}
def rJ(c:TT)(t:TS):TS:=λD a H=>∃W:Nat->St->Hp->Prop,(∃m,W m a H)/\∀m a H,W m a H->
 c a H λb h=>if b=true then ∃N:St->Hp->Prop,(∀d e,N d e->∃M,M < m/\W M d e)/\t { D with nx:=N,ct:=N,bk:=D.nx } a h else D.nx a h
theorem Q1(o:PassesOwn (model X.prog X.w) X.A X.env X.xe)(E:PT X c T)(F:iV X B G):PS X (.While c B [] pos) (rJ T G):=by
 intro p s J H D I h
 obtain⟨W,⟨M,K⟩,t⟩:=h
 refine wpAny_While (codeAny_whileLoop (λn S=>∃e r,ao X p e r S/\W n e r) ?_ M #[J,H,I,K])
 rintro n L ⟨d,u,O,P⟩
 refine FS o (aO (E p L d u _ O (t n d u P)) λb R z=>?_)
 obtain⟨x,y,q⟩:=z
 cases b with
 |true=>
  obtain⟨N,C,q⟩:=q
  rw[D0 Z]
  refine FS o (aO (F p R d x _ y q) λf U Q=>?_)
  cases f with
  |next=>
   obtain⟨a,g,i,j⟩:=Q
   obtain⟨m,k,l⟩:=C a g j
   exact#[m,k,a,g,i,l]
  |cont=>
   obtain⟨a,g,i,j⟩:=Q
   obtain⟨m,k,l⟩:=C a g j
   exact#[m,k,a,g,i,l]
  |brk=>exact Q
  |ret v=>exact Q
 |false=>
  rw[D1 DR]
  exact Gu #[d,x,y,q]
end
structure It where
 go:Nat->Hp->Prop
 yld:Nat->Hp->V->Hp->Prop
 stop:Nat->Hp->Prop
def eP(X:Cx)(P:List (Addr×Obj))(H:Hp)(b:Addr):Prop:=
 H b=none/\b≠X.env.locals/\b∉X.fs/\(b∈X.ex∨X.s₀.heap.objs.size<=b)/\(∀x c,X.env.cells.lookup x=some c->c≠b)/\∀p∈X.pn++P,p.1≠b
theorem ao.fpOk{X:Cx}{d:Hp}(I:ao X a i H s)(h:s.heap.objs.size<=b)(f:d b=none):eP X a d b:=by
 refine#[f,Ez (DW I.lt h),I.nofs h,.inr (DV I.sz h),λx c e z=>?_,λp g z=>?_]
 ·obtain⟨v,q⟩:=I.cell x c e
  exact absurd (DW q.lt (by rw[z];exact h)) (EG _)
 ·exact absurd (DW (DO (I.pin p g).1) (by rw[z];exact h)) (EG _)
structure lK(P:Program)(w:World)(K:Frag)(tg:Expr)(J:It)(fp:List Addr)(it:Addr)(tn:Nat->Heap->Prop):Prop where
 mem:it∈fp
 obj:∀i h,tn i h->∀b∈fp,∃o,h.get? b=some o/\∀v,o.data≠ .cell v
 keep:∀i h h',tn i h->(∀b∈fp,∀o,h.get? b=some o->h'.get? b=some o)->tn i h'
 item:∀(X:Cx),X.prog=P->X.w=w->X.K=K->X.calm=true->∀(i:Nat) (pins:List (Addr×Obj)) (s:Shared) (σ:St) (H:Hp) (E:Value->Shared->Prop),ao X pins σ H s->(∀b∈fp,eP X pins H b)->tn i s.heap->J.go i H->
  wpAny (model P w) X.A (pyNext (.ref it)) (λr s1=>∃u,r=some u/\
   wpAny (model P w) X.A (letOwnedTupleGo tg (.ref it) u) (λ_ s2=>∃x H',ao X pins σ H' s2/\ax x u/\J.yld i H x H'/\tn (i+1) s2.heap/\∀b∈fp,H' b=none) E s1) E s
 done:∀(X:Cx),X.prog=P->X.w=w->X.K=K->X.calm=true->∀(i:Nat) (pins:List (Addr×Obj)) (s:Shared) (σ:St) (H:Hp) (E:Value->Shared->Prop),ao X pins σ H s->(∀b∈fp,eP X pins H b)->tn i s.heap->J.stop i H->
  wpAny (model P w) X.A (pyNext (.ref it)) (λr s1=>r=none/\ao X pins σ H s1) E s
 self:∀(A:Around) (i:Nat) (s:Shared) (Q:Value->Shared->Prop) (E:Value->Shared->Prop),tn i s.heap->Q (.ref it) s->wpAny (model P w) A (pyIter (.ref it)) Q E s
abbrev TI:=St->Hp->(It->Hp->Prop)->Prop
def C5(X:Cx)(p:List (Addr×Obj))(a:St)(T:Expr)(R:It->Hp->Prop)(i:Value)(s:Shared):Prop:=
 ∃(I:Addr) (f:List Addr) (t:Nat->Heap->Prop) (J:It) (H:Hp),i= .ref I/\ao X p a H s/\lK X.prog X.w X.K T J f I t/\t 0 s.heap/\(∀b∈f,eP X p H b)/\R J H
def PI(X:Cx)(t iter:Expr)(W:TI):Prop:=
 ∀(p:List (Addr×Obj)) (s:Shared) (a:St) (H:Hp) (R:It->Hp->Prop),ao X p a H s->W a H R->
  wpAny (model X.prog X.w) X.A (eval iter X.env) (λv S=>wpAny (model X.prog X.w) X.A (pyIter v) (C5 X p a t R) X.xe S) X.xe s
theorem Yl{s : Shared}{n : String}{Q : Unit -> Shared -> Prop}(a : s.heap.get? i = some o)(b : o.cls = .type n)(c : o.data = .fields v)
    (d : ["enumerate", "zip", "dict_itemiterator", "dict_reverseitemiterator", "odict_iterator", "itertools.zip_longest", "itertools.pairwise"].contains n = false) (H : Q () s) : wpAny M A (letOwnedTupleGo t (.ref i) u) Q E s := by
  unfold letOwnedTupleGo
  cases t <;> first
    | exact DH H
    | (cases u <;> first
        | exact DH H
        | (refine DG (wpAny_load a ?_)
           rw [b, c]
           show wpAny M A (if (["enumerate", "zip", "dict_itemiterator", "dict_reverseitemiterator", "odict_iterator", "itertools.zip_longest", "itertools.pairwise"].contains n && v[0]? == some (rawInt _)) = true then _ else _) Q E s
           rw [D1 (by intro h; rw [d, Bool.false_and] at h; cases h)]
           exact DH H))
noncomputable def vj(K:Frag)(a:Addr):It:=
 #[λi H=>∃X x,aC K H a X/\X[i]?=some x,λi H x h=>h=H/\∀X,aC K H a X->X[i]?=some x,λi H=>∃X,aC K H a X/\X.length<=i]
noncomputable def sh(K:Frag)(a:Addr):It:=
 #[λi H=>∃X x,aA K H a X/\X[i]?=some x,λi H x h=>h=H/\∀X,aA K H a X->X[i]?=some x,λi H=>∃X,aA K H a X/\X.length<=i]
noncomputable def sg(lo:Int)(n:Nat):It:=#[λi _=>i < n,λi H x h=>h=H/\x= .int (lo+i),λi _=>n<=i]
theorem YU{P:Program}{K:Frag}(a g:Addr):lK P w K tg (vj K a) [g] g (λi h=>h.IsListIter g a i) where
 mem:=by simp
 obj:=λi h st b j=>by
  have e:b=g:=by simpa using j
  subst e
  obtain⟨o,e,c,d⟩:=st
  exact#[o,e,λv z=>by rw[d]at z;cases z]
 keep:=λi h l st k=>st.at λo e=>k g IN o e
 item:=by
  intro X q r t L i f s M H E I m st y
  subst q r t
  obtain⟨N,x,n,A⟩:=y
  obtain⟨B,R,p,O⟩:=I.list n
  obtain⟨u,Q,T⟩:=R.get A
  obtain⟨F,C,U,D,G,J⟩:=m g IN
  refine wpAny_pyNext_list_item st p.isList (x:=u) (by simpa using Q) λl S V=>?_
  have W:ao X f M H { s with heap:=l }:=I.turned (t':=s.toks) (λb o j e=>(V.2 b j).trans e) F C D G J
  obtain⟨o,e,c,d⟩:=id S
  exact#[u,Z,Yl (s:={ s with heap:=l }) e c d IL #[x,H,W,T,#[Z,λys Y=>by rw[I.list_inj Y n];exact A],S,λb j=>(m b j).1]]
 done:=by
  intro X q r t L i f s M H E I m st y
  subst q r t
  obtain⟨N,n,A⟩:=y
  obtain⟨B,R,p,O⟩:=I.list n
  obtain⟨F,C,U,D,G,J⟩:=m g IN
  have hl:=R.length
  exact wpAny_pyNext_list_end (I.ok.hd L) st p.isList (by simp;omega) λl eb=>#[Z,I.turned (t':=s.toks) (λb o j e=>eb b o j e) F C D G J]
 self:=λ_ _ _ _ _ st h=>wpAny_pyIter_listiter st h
theorem XF{P:Program}{K:Frag}(a g:Addr):lK P w K tg (sh K a) [g] g (λi h=>h.IsTupleIter g a i) where
 mem:=by simp
 obj:=λi h st b j=>by
  have e:b=g:=by simpa using j
  subst e
  obtain⟨o,e,c,d⟩:=st
  exact#[o,e,λv z=>by rw[d]at z;cases z]
 keep:=λi h m st k=>st.at λo e=>k g IN o e
 item:=by
  intro X r t y L i f s M H E I n st A
  subst r t y
  obtain⟨N,x,q,B⟩:=A
  obtain⟨l,R,p,O⟩:=I.tuple q
  obtain⟨u,Q,T⟩:=R.get B
  obtain⟨F,C,U,D,G,J⟩:=n g IN
  refine wpAny_pyNext_tuple_item st (show s.heap.IsTuple a l.toArray from p) (x:=u) (by simpa using Q) λm S V=>?_
  have W:ao X f M H { s with heap:=m }:=I.turned (t':=s.toks) (λb o j e=>(V.2 b j).trans e) F C D G J
  obtain⟨o,e,c,d⟩:=id S
  exact#[u,Z,Yl (s:={ s with heap:=m }) e c d IL #[x,H,W,T,#[Z,λys Y=>by rw[I.tuple_inj Y q];exact B],S,λb j=>(n b j).1]]
 done:=by
  intro X r t y L i f s M H E I n st A
  subst r t y
  obtain⟨N,q,B⟩:=A
  obtain⟨l,R,p,O⟩:=I.tuple q
  obtain⟨F,C,U,D,G,J⟩:=n g IN
  have hl:=R.length
  exact wpAny_pyNext_tuple_end (I.ok.hd L) st (show s.heap.IsTuple a l.toArray from p) (by simp;omega) λm eb=>#[Z,I.turned (t':=s.toks) (λb o j e=>eb b o j e) F C D G J]
 self:=λ_ _ _ _ _ st h=>wpAny_pyIter_tupleiter st h
theorem XG{P:Program}{K:Frag}(a:Addr)(lo:Int)(n:Nat):lK P w K M (sg lo n) [a] a (λi h=>IsRangeIter h a (lo+(i:Nat)*1) ((n:Int) - (i:Nat)) 1) where
 mem:=by simp
 obj:=λi h st b c=>by
  have e:b=a:=by simpa using c
  subst e
  exact#[_,st,λv z=>by
   have B:Data.fields _=Data.cell v:=z
   cases B]
 keep:=λi h d st k=>k a IN _ st
 item:=by
  intro X g j l m i p s A H E I f st q
  subst g j l
  obtain⟨F,r,C,u,x,y⟩:=f a IN
  have W:=Walks.range (prog:=X.prog) (w:=X.w) (I.ok.hd m) a lo 1 n
  refine W.item i s _ _ q st λv d T D S G=>?_
  obtain⟨t,rfl⟩:=D
  have J:ao X p A H { s with heap:=d,toks:=T }:=I.turned (λb o c e=>G b o (by simpa using c) e) F r u x y
  refine#[_,Z,Yl (s:={ s with heap:=d,toks:=T }) (n:="range_iterator") S Z Z IL #[.int (lo+i),H,J,#[t,?_],#[Z,Z],S,λb c=>(f b c).1]]
  rw[Int.mul_one]
 done:=by
  intro X g j l m i p s A H E I f st q
  subst g j l
  obtain⟨F,r,C,u,x,y⟩:=f a IN
  exact wpAny_pyNext_range_end (I.ok.hd m) st (by have:n<=i:=q;omega) λd L=>#[Z,I.turned (t':=s.toks) (λb o c e=>L b o c e) F r u x y]
 self:=λ_ _ _ _ _ st h=>wpAny_pyIter_rangeiter st h
section
variable {X:Cx}{tg:Expr}
def vF(K:Frag)(t:TE):TI:=λb H R=>t b H λx h=>∃a,x= .ref a/\(∃c,aC K h a c)/\R (vj K a) h
def Cm(K:Frag)(t:TE):TI:=λb H R=>t b H λx h=>∃a,x= .ref a/\(∃c,aA K h a c)/\R (sh K a) h
theorem zT(c:PE X l t):PI X tg l (vF X.K t):=by
 intro P s d H R I h
 refine aO (c P s d H _ I h) λv S z=>?_
 obtain⟨x,f,i,r,Q⟩:=z
 obtain⟨a,e,⟨m,g⟩,q⟩:=Q
 subst e
 cases r
 obtain⟨j,n,p,u⟩:=i.list g
 refine Hk p.isList ?_
 refine#[S.heap.objs.size,[S.heap.objs.size],_,_,f,Z,i.kept (t':=S.toks) λb o e=>DI _ e,YU a _,#[_,DP _ Z,Z,Z],λb k=>?_,q]
 have e:b=S.heap.objs.size:=by simpa using k
 subst e
 exact i.fpOk (DN _) (i.hok.fresh (DN _))
theorem zI(d:PE X l t):PI X tg l (Cm X.K t):=by
 intro P s f H R I h
 refine aO (d P s f H _ I h) λv S z=>?_
 obtain⟨x,g,i,r,Q⟩:=z
 obtain⟨a,e,⟨m,j⟩,q⟩:=Q
 subst e
 cases r
 obtain⟨c,n,p,u⟩:=i.tuple j
 refine Gv (show S.heap.IsTuple a c.toArray from p) ?_
 refine#[S.heap.objs.size,[S.heap.objs.size],_,_,g,Z,i.kept (t':=S.toks) λb o e=>DI _ e,XF a _,#[_,DP _ Z,Z,Z],λb k=>?_,q]
 have e:b=S.heap.objs.size:=by simpa using k
 subst e
 exact i.fpOk (DN _) (i.hok.fresh (DN _))
theorem o0{R:It->Hp->Prop}{lo:Int}(I:ao X p a H s)(c: -(2 ^ 62)<=lo)(d:lo < 2 ^ 62)(f: -(2 ^ 62)<=h)(g:h < 2 ^ 62)
  (q:R (sg lo (h - lo).toNat) H):wpAny (model X.prog X.w) X.A (pyIter (.ref s.heap.objs.size)) (C5 X p a tg R) E { s with heap:=s.heap.push { cls:=.type "range",data:=.fields (List.toArray [.int lo t,.int h u,.int 1 v]) },toks:=T }:=by
 refine wpAny_pyIter_range (IsRange.new ..) (small_one c d f g) ?_
 have i:ao X p a H { s with heap:=s.heap.push { cls:=.type "range",data:=.fields (List.toArray [.int lo t,.int h u,.int 1 v]) },toks:=T }:=I.kept λb o e=>DI _ e
 refine#[(s.heap.push { cls:=.type "range",data:=.fields (List.toArray [.int lo t,.int h u,.int 1 v]) }).objs.size,[(s.heap.push { cls:=.type "range",data:=.fields (List.toArray [.int lo t,.int h u,.int 1 v]) }).objs.size],_,_,H,Z,
  i.kept (t':=T) λb o e=>DI _ e,XG _ lo (h - lo).toNat,?_,λb j=>?_,q]
 ·have k:lo+((0:Nat):Int)*1=lo:=by simp
  have l:(((h - lo).toNat:Nat):Int) - ((0:Nat):Int)=Builtin.Range.rangeSize lo h 1:=by rw[rangeSize_one];split<;>omega
  show IsRangeIter _ _ (lo+((0:Nat):Int)*1) ((((h - lo).toNat:Nat):Int) - ((0:Nat):Int)) 1
  rw[k,l]
  exact DP _ Z
 ·have e:b=(s.heap.push { cls:=.type "range",data:=.fields (List.toArray [.int lo t,.int h u,.int 1 v]) }).objs.size:=by simpa using j
  subst e
  exact i.fpOk (DN _) (i.hok.fresh (DN _))
def Ay(t:TA):TI:=λa H R=>t a H λv h=>∃j:Int,v=[.int j]/\ -(2 ^ 62)<=j/\j < 2 ^ 62/\R (sg 0 j.toNat) h
theorem j3{a:Expr}{T:TA}{p P:Pos}(c:Gl X "range")(d:X.mg "range"=none)(f:PA X [a] T)(g:starEach [a] X.env=[(false,eval a X.env)]:=by rfl):PI X tg (.Call (.Name "range" p) [a] [] P) (Ay T):=by
 intro b s i H R I h
 refine Call_ (zH I c d boot_range (Ew (aO (f P b s i H _ I h) λu S z=>?_) g Z))
 obtain⟨v,o,k,l,Q⟩:=z
 obtain⟨j,e,Q,m,q⟩:=Q
 subst e
 cases l with
 |cons r n=>
  cases n
  obtain⟨t,rfl⟩:=r
  exact call_range_1 (o0 k IM IM Q m (by simpa using q))
def yM(w:TI)(g:TG)(t:TS):TS:=λD a H=>w a H λJ d=>∃W:Nat->Nat->St->Hp->Prop,(∃m,W 0 m a d)/\∀i m a H,W i m a H->
 (J.stop i H/\D.nx a H)∨(J.go i H/\∃N:St->Hp->Prop,(∀b h,N b h->∃M,M < m/\W (i+1) M b h)/\∀x h,J.yld i H x h->g x a h λc e=>t { D with nx:=N,ct:=N,bk:=D.nx } c e)
noncomputable def ip(f:List Addr)(h:Heap):List (Addr×Obj):=f.filterMap λb=>(h.get? b).map λo=>(b,o)
theorem kY{h:Heap}(H:b∈f)(e:h.get? b=some o):(b,o)∈ip f h:=List.mem_filterMap.mpr #[b,H,by rw[e];rfl]
theorem YV(H:p∈ip f h):p.1∈f/\h.get? p.1=some p.2:=by
 obtain⟨b,a,e⟩:=List.mem_filterMap.mp H
 cases q:h.get? b with
 |none=>rw[q]at e;cases e
 |some o=>
  rw[q]at e
  have E:(b,o)=p:=Eo e
  subst E
  exact#[a,q]
theorem ao.pinned(I:ao X a c H s)(g:∀b∈f,eP X a H b)(i:∀b∈f,∃o,s.heap.get? b=some o/\∀v,o.data≠ .cell v):ao X (a++ip f s.heap) c H s:=
 I.pins_of λp j=>(List.mem_append.mp j).elim (λz=>I.pin p (DZ _ z)) λz=>by
  obtain⟨h,e⟩:=YV z
  obtain⟨F,k,l,_⟩:=g p.1 h
  obtain⟨o,E,d⟩:=i p.1 h
  rw[e]at E;cases E
  exact#[e,F,k,l,d]
theorem ao.unpinned(I:ao X (a++c) b H s):ao X a b H s:=I.pins_of λp h=>I.pin p (DZ _ (EU _ h))
theorem j6{iter:Expr}{B:List Stmt}{wi:TI}{g:TG}{tb:TS}{P:Pos}(C:PassesOwn (model X.prog X.w) X.A X.env X.xe)(hc:X.calm=true)(hi:PI X tg iter wi)(hg:PG X tg g)(c:iV X B tb)
  (hs:∀x,foldedSetIterable iter X.env x=pure x:=by intro _;rfl):PS X (.For tg iter B [] P) (yM wi g tb):=by
 intro p s σ H D I h
 refine wpAny_For (aO (hi p s σ H _ I h) λv s1 h1=>aO h1 λi0 s2 h2=>?_) hs
 obtain⟨it,F,tn,J,H2,e,I2,T,O,f2,W,⟨m0,w0⟩,E⟩:=h2
 subst e
 have S:∀{t:Hp},(∀b∈F,t b=none)->∀b∈F,eP X p t b:=λhn b c=>#[hn b c,(f2 b c).2]
 refine codeAny_forLoop_any (λn s'=>∃i j t,ao X p j t s'/\tn i s'.heap/\(∀b∈F,t b=none)/\W i n j t) ?_ m0 #[0,σ,H2,I2,O,λb c=>(f2 b c).1,w0]
 rintro n s3 ⟨i,k,M,I3,G,K,w3⟩
 rcases E i n k M w3 with ⟨stop,qn⟩ | ⟨go,N,hN,step⟩
 ·refine FS C (aO (T.done X Z Z Z hc i p s3 k M X.xe I3 (S K) G stop) λr s4 z=>?_)
  obtain⟨R,I4⟩:=z
  subst R
  exact Gu #[k,M,I4,qn]
 ·refine FS C (aO (T.item X Z Z Z hc i p s3 k M X.xe I3 (S K) G go) λr s4 z=>?_)
  obtain⟨u,R,h4⟩:=z
  subst R
  refine FS C (aO h4 λ_ s5 z=>?_)
  obtain⟨x,H5,I5,r5,y5,y,U⟩:=z
  have V:=I5.pinned (S U) (T.obj _ _ y)
  refine FS C (aO (hg _ s5 k H5 x u _ V r5 (step x H5 y5)) λ_ s6 z=>?_)
  obtain⟨Y,H6,I6,q6⟩:=z
  refine FS C (aO (c _ s6 Y H6 _ I6 q6) λf s7 Q=>?_)
  have again:∀{a:St} {l:Hp},ao X (p++ip F s5.heap) a l s7->N a l->∃m,m < n/\∃i j t,ao X p j t s7/\tn i s7.heap/\(∀b∈F,t b=none)/\W i m j t:=λ{a l} q L=>by
   obtain⟨m',hm,w7⟩:=hN a l L
   refine#[m',hm,i+1,a,l,q.unpinned,T.keep _ _ _ y λb c o e=>(q.pin (b,o) (DZ _ (DZ _ (kY c e)))).1,λb c=>?_,w7]
   obtain⟨o,e,d⟩:=T.obj _ _ y b c
   exact(q.pin (b,o) (DZ _ (DZ _ (kY c e)))).2.1
  cases f with
  |next=>obtain⟨a,l,q,L⟩:=Q;exact again q L
  |cont=>obtain⟨a,l,q,L⟩:=Q;exact again q L
  |brk=>obtain⟨a,l,q,Q⟩:=Q;exact#[a,l,q.unpinned,Q]
  |ret v=>obtain⟨x7,a,l,q,r7,Q⟩:=Q;exact#[x7,a,l,q.unpinned,r7,Q]
end
theorem oi{K:Frag}{a:Addr}{X:List V}{g:TG}{t:TS}{D:a9}{b:St}{H:Hp}(Pv:Nat->St->Hp->Prop)(k:Pv 0 b H)(l:∀i b H,i<=X.length->Pv i b H->aC K H a X)
  (n:∀i x b H,X[i]?=some x->Pv i b H->g x b H λc j=>t { D with nx:=Pv (i+1),ct:=Pv (i+1),bk:=D.nx } c j) (o:∀b H,Pv X.length b H->D.nx b H):
  ∃W:Nat->Nat->St->Hp->Prop,(∃m,W 0 m b H)/\∀i m b H,W i m b H->
   ((vj K a).stop i H/\D.nx b H)∨((vj K a).go i H/\∃N:St->Hp->Prop,(∀d h,N d h->∃M,M < m/\W (i+1) M d h)/\∀x h,(vj K a).yld i H x h->g x b h λc j=>t { D with nx:=N,ct:=N,bk:=D.nx } c j):=by
 refine#[λi m b H=>m=X.length - i/\i<=X.length/\Pv i b H,#[X.length,IN,DX _,k],?_]
 rintro i m b H ⟨rfl,r,p⟩
 have q:=l i b H r p
 by_cases f:i < X.length
 ·refine .inr #[#[X,X[i],q,by simp [f]],Pv (i+1),λd h P=>#[X.length - (i+1),IM,Z,f,P],λx h y=>?_]
  obtain⟨e,y⟩:=y
  subst e
  exact n i x b _ (y X q) p
 ·have e:i=X.length:=by omega
  subst e
  exact .inl #[#[X,q,DN _],o b H p]
theorem sM{K:Frag}{a:Addr}{X:List V}{g:TG}{t:TS}{D:a9}{b:St}{H:Hp}(Pv:Nat->St->Hp->Prop)(k:Pv 0 b H)(l:∀i b H,i<=X.length->Pv i b H->aA K H a X)
  (n:∀i x b H,X[i]?=some x->Pv i b H->g x b H λc j=>t { D with nx:=Pv (i+1),ct:=Pv (i+1),bk:=D.nx } c j) (o:∀b H,Pv X.length b H->D.nx b H):
  ∃W:Nat->Nat->St->Hp->Prop,(∃m,W 0 m b H)/\∀i m b H,W i m b H->
   ((sh K a).stop i H/\D.nx b H)∨((sh K a).go i H/\∃N:St->Hp->Prop,(∀d h,N d h->∃M,M < m/\W (i+1) M d h)/\∀x h,(sh K a).yld i H x h->g x b h λc j=>t { D with nx:=N,ct:=N,bk:=D.nx } c j):=by
 refine#[λi m b H=>m=X.length - i/\i<=X.length/\Pv i b H,#[X.length,IN,DX _,k],?_]
 rintro i m b H ⟨rfl,r,p⟩
 have q:=l i b H r p
 by_cases f:i < X.length
 ·refine .inr #[#[X,X[i],q,by simp [f]],Pv (i+1),λd h P=>#[X.length - (i+1),IM,Z,f,P],λx h y=>?_]
  obtain⟨e,y⟩:=y
  subst e
  exact n i x b _ (y X q) p
 ·have e:i=X.length:=by omega
  subst e
  exact .inl #[#[X,q,DN _],o b H p]
theorem K7{lo:Int}{n:Nat}{g:TG}{t:TS}{D:a9}{a:St}{H:Hp}(Pv:Nat->St->Hp->Prop)(j:Pv 0 a H)
  (k:∀i a H,i < n->Pv i a H->g (.int (lo+i)) a H λb f=>t { D with nx:=Pv (i+1),ct:=Pv (i+1),bk:=D.nx } b f) (l:∀a H,Pv n a H->D.nx a H):
  ∃W:Nat->Nat->St->Hp->Prop,(∃m,W 0 m a H)/\∀i m a H,W i m a H->
   ((sg lo n).stop i H/\D.nx a H)∨((sg lo n).go i H/\∃N:St->Hp->Prop,(∀c h,N c h->∃M,M < m/\W (i+1) M c h)/\∀x h,(sg lo n).yld i H x h->g x a h λb f=>t { D with nx:=N,ct:=N,bk:=D.nx } b f):=by
 refine#[λi m a H=>m=n - i/\i<=n/\Pv i a H,#[n,IN,DX _,j],?_]
 rintro i m a H ⟨rfl,o,p⟩
 by_cases d:i < n
 ·refine .inr #[d,Pv (i+1),λc h P=>#[n - (i+1),IM,Z,d,P],λx h y=>?_]
  obtain⟨e,y⟩:=y
  subst e y
  exact k i a _ d p
 ·have e:i=n:=by omega
  subst e
  exact .inl #[DN _,l a H p]
abbrev R2:=V->V->Hp->VK->Prop
def gc(X:Cx)(f:Value->Value->Sem Value)(r:R2):Prop:=
 ∀(p:List (Addr×Obj)) (s:Shared) (a:St) (H:Hp) (x y:V) (v u:Value) (Q:VK),ao X p a H s->ax x v->ax y u->r x y H Q->
  wpAny (model X.prog X.w) X.A (f v u) (EP X p a Q) X.xe s
def BY(X:Cx)(f:Value->Sem Value)(r:V->Hp->VK->Prop):Prop:=
 ∀(p:List (Addr×Obj)) (s:Shared) (a:St) (H:Hp) (x:V) (v:Value) (Q:VK),ao X p a H s->ax x v->r x H Q->
  wpAny (model X.prog X.w) X.A (f v) (EP X p a Q) X.xe s
def dB(X:Cx)(f:Value)(r:List V->Hp->VK->Prop):Prop:=
 ∀(p:List (Addr×Obj)) (s:Shared) (a:St) (H:Hp) (x:List V) (u:List Value) (Q:VK),ao X p a H s->au x u->r x H Q->
  wpAny (model X.prog X.w) X.A (call f u) (EP X p a Q) X.xe s
def BX(X:Cx)(r:V->Hp->(Bool->Hp->Prop)->Prop):Prop:=
 ∀(p:List (Addr×Obj)) (s:Shared) (a:St) (H:Hp) (x:V) (v:Value) (Q:Bool->Hp->Prop),ao X p a H s->ax x v->r x H Q->
  wpAny (model X.prog X.w) X.A (truthy v) (TP X p a Q) X.xe s
def dG(r:R2)(t T:TE):TE:=λa H Q=>t a H λx h=>T a h λy b=>r x y b Q
def Dw(r:V->Hp->VK->Prop)(t:TE):TE:=λa H Q=>t a H λx h=>r x h Q
def rI(C:Int->Int->Prop)(g:Int->Int->V):R2:=λx y H Q=>∃i j,x= .int i/\y= .int j/\C i j/\Q (g i j) H
def um(g:Int->Int->V):R2:=λx y H Q=>∃i j,x= .int i/\y= .int j/\Q (g i j) H
def rU(g:Int->V):V->Hp->VK->Prop:=λx H Q=>∃i,x= .int i/\Q (g i) H
section
variable {X:Cx}{a b c:Expr}{ta tb tc:TE}{pos:Pos}
theorem wz(k:PE X a ta)(l:PE X b tb){R:V->V->Hp->Prop}(I:ao X p e H s)
  (h:ta e H λx j=>tb e j λy d=>R x y d)  {f:Value->Value->Sem Value}
  (m:∀v u i x y d,ao X p e d i->ax x v->ax y u->R x y d->wpAny (model X.prog X.w) X.A (f v u) Q X.xe i):
  wpAny (model X.prog X.w) X.A (eval a X.env) (λv S=>wpAny (model X.prog X.w) X.A (eval b X.env) (λu g=>wpAny (model X.prog X.w) X.A (f v u) Q X.xe g) X.xe S) X.xe s:=by
 refine aO (k p s e H _ I h) λv n z=>?_
 obtain⟨x,j,o,r,q⟩:=z
 refine aO (l p n e j _ o q) λu i z=>?_
 obtain⟨y,d,t,B,C⟩:=z
 exact m v u i x y d t r B C
theorem ju{o:Operator}{r:R2}(d:gc X (binaryOp o) r)(e:PE X a ta)(f:PE X b tb):PE X (.BinOp a o b pos) (dG r ta tb):=by
 intro p s g H Q I h
 exact wpAny_BinOp (wz e f I h λv u S x y i j R k q=>d p S g i x y v u Q j R k q)
theorem vL(e:BY X (unaryOp o) r)(f:PE X a ta):PE X (.UnaryOp o a pos) (Dw r ta):=by
 intro p s d H Q I h
 exact UnaryOp_ (aO (f p s d H _ I h) λv S #[x,g,i,R,q]=>e p S d g x v Q i R q)
theorem BG{f:Value->Value->Sem Value}{C:Int->Int->Prop}{g:Int->Int->Int}
  (rule:∀(i j:Int) (t u:Tok) (s:Shared) (Q:Value->Shared->Prop) (E:Value->Shared->Prop),C i j->Q (.int (g i j) s.toks) { s with toks:=s.toks+1 }->wpAny (model X.prog X.w) X.A (f (.int i t) (.int j u)) Q E s):
  gc X f (rI C λi j=>.int (g i j)):=by
 intro p s e H x y v u Q I r R h
 obtain⟨i,j,rfl,rfl,d,q⟩:=h
 obtain⟨t,rfl⟩:=r
 obtain⟨T,rfl⟩:=R
 exact rule i j t T s _ _ d #[.int (g i j),H,I.tok _,#[_,Z],q]
theorem AR{f:Value->Value->Sem Value}{g:Int->Int->Int}
  (rule:∀(i j:Int) (t u:Tok) (s:Shared) (Q:Value->Shared->Prop) (E:Value->Shared->Prop),Q (.int (g i j) s.toks) { s with toks:=s.toks+1 }->wpAny (model X.prog X.w) X.A (f (.int i t) (.int j u)) Q E s):
  gc X f (um λi j=>.int (g i j)):=by
 intro p s d H x y v u Q I r R h
 obtain⟨i,j,rfl,rfl,q⟩:=h
 obtain⟨t,rfl⟩:=r
 obtain⟨T,rfl⟩:=R
 exact rule i j t T s _ _ #[.int (g i j),H,I.tok _,#[_,Z],q]
theorem xT{f:Value->Value->Sem Value}{g:Int->Int->Bool}
  (rule:∀(i j:Int) (t u:Tok) (s:Shared) (Q:Value->Shared->Prop) (E:Value->Shared->Prop),Q (.bool (g i j)) s->wpAny (model X.prog X.w) X.A (f (.int i t) (.int j u)) Q E s):
  gc X f (um λi j=>.bl (g i j)):=by
 intro p s d H x y v u Q I r R h
 obtain⟨i,j,rfl,rfl,q⟩:=h
 obtain⟨t,rfl⟩:=r
 obtain⟨T,rfl⟩:=R
 exact rule i j t T s _ _ #[.bl (g i j),H,I,Z,q]
def BN(i j:Int):Prop:=0<=j/\j<=1000000/\i.natAbs < 2 ^ 64
def rY(i j:Int):Prop:=(-(2 ^ 64) < i/\i < 2 ^ 64)∨(-(2 ^ 64) < j/\j < 2 ^ 64)
theorem rY.ok(h:rY i j):IntMulOk i j:=by
 rcases h with ⟨H,d⟩ | ⟨H,d⟩
 ·exact .of_left (intBits_le_64 H d)
 ·exact .of_right (intBits_le_64 H d)
theorem jV:gc X (binaryOp .Add) (um λi j=>.int (i+j)):=AR λ_ _ _ _ _ _ _ q=>add_int q
theorem kP:gc X (binaryOp .Sub) (um λi j=>.int (i - j)):=AR λ_ _ _ _ _ _ _ q=>sub_int q
theorem zj:gc X (binaryOp .Mult) (rI rY λi j=>.int (i*j)):=BG λ_ _ _ _ _ _ _ h q=>mul_int q h.ok
theorem kX:gc X (binaryOp .Mod) (rI (λ_ j=>0 < j) λi j=>.int (i % j)):=BG λi j _ _ _ _ _ h q=>by
 have H:(0:Int) < j:=h
 exact mod_int' IM (by rw[Int.fmod_eq_emod_of_nonneg i IM];exact q)
theorem Qv:gc X (binaryOp .Pow) (rI BN λi j=>.int (i ^ j.toNat)):=BG λ_ _ _ _ _ _ _ h q=>pow_int_small h.1 h.2.1 h.2.2 q
theorem Dy{f:Value->Sem Value}{g:Int->Int}
  (rule:∀(i:Int) (t:Tok) (s:Shared) (Q:Value->Shared->Prop) (E:Value->Shared->Prop),Q (.int (g i) s.toks) { s with toks:=s.toks+1 }->wpAny (model X.prog X.w) X.A (f (.int i t)) Q E s):
  BY X f (rU λi=>.int (g i)):=by
 intro p s d H x v Q I r h
 obtain⟨i,rfl,q⟩:=h
 obtain⟨t,rfl⟩:=r
 exact rule i t s _ _ #[.int (g i),H,I.tok _,#[_,Z],q]
theorem ZL:BY X (unaryOp .USub) (rU λi=>.int (-i)):=Dy λ_ _ _ _ _ q=>neg_int q
end
noncomputable def A5:V->V->Bool
 | .non,.non=>true | .non,.int _=>true | .int _,.non=>true | .non,.bl _=>true | .bl _,.non=>true | .non,.str _=>true | .str _,.non=>true
 | .int _,.int _=>true | .bl _,.bl _=>true | .str _,.str _=>true | .byt _,.byt _=>true
 | .int _,.str _=>true | .str _,.int _=>true | .bl _,.str _=>true | .str _,.bl _=>true
 |_,_=>false
def AY:R2:=λx y H Q=>A5 x y=true/\Q (.bl (decide (x=y))) H
def Dr:R2:=λx y H Q=>A5 x y=true/\Q (.bl (!decide (x=y))) H
theorem Yr:decide (V.int i=V.int j)=(i==j):=by
 rw[Hs]
 simp
theorem ZM:decide (V.bl i=V.bl j)=(i==j):=by
 rw[Hs]
 simp
theorem Ys:decide (V.str i=V.str j)=(i==j):=by
 rw[Hs]
 simp
theorem Yt:decide (V.byt i=V.byt j)=(i.toList==j.toList):=by
 rw[Hs]
 cases i
 cases j
 simp
section
variable {X:Cx}{a b c:Expr}{ta tb tc:TE}{pos:Pos}
theorem jI{Q:VK}(I:ao X p d H s)(q:Q (.bl k) H)(e:k=f):EP X p d Q (.bool f) s:=by
 subst e
 exact#[.bl k,H,I,Z,q]
theorem qK:gc X (compareOp .Eq) AY:=by
 intro p s e H x y v u Q I R r h
 obtain⟨d,q⟩:=h
 cases x with
 |non=>
  cases R
  cases y with
  |non=>cases r;exact PySem.EqNone.eq_none_none (jI I q IN)
  |bl j=>cases r;exact PySem.EqNone.eq_none_bool (jI I q IN)
  |int j=>obtain⟨T,rfl⟩:=r;exact PySem.EqNone.eq_none_int (jI I q IN)
  |str j=>obtain⟨T,rfl⟩:=r;exact PySem.EqNone.eq_none_str (jI I q IN)
  |_=>exact absurd (show false=true from d) DR
 |bl i=>
  cases R
  cases y with
  |non=>cases r;exact PySem.EqNone.eq_bool_none (jI I q IN)
  |bl j=>cases r;exact eq_bool (jI I q ZM)
  |str j=>obtain⟨T,rfl⟩:=r;exact PySem.EqMixed.eq_bool_str (jI I q IN)
  |_=>exact absurd (show false=true from d) DR
 |int i=>
  obtain⟨t,rfl⟩:=R
  cases y with
  |non=>cases r;exact PySem.EqNone.eq_int_none (jI I q IN)
  |int j=>obtain⟨T,rfl⟩:=r;exact eq_int (jI I q Yr)
  |str j=>obtain⟨T,rfl⟩:=r;exact PySem.EqMixed.eq_int_str (jI I q IN)
  |_=>exact absurd (show false=true from d) DR
 |str i=>
  obtain⟨t,rfl⟩:=R
  cases y with
  |non=>cases r;exact PySem.EqNone.eq_str_none (jI I q IN)
  |bl j=>cases r;exact PySem.EqMixed.eq_str_bool (jI I q IN)
  |int j=>obtain⟨T,rfl⟩:=r;exact PySem.EqMixed.eq_str_int (jI I q IN)
  |str j=>obtain⟨T,rfl⟩:=r;exact eq_str (jI I q Ys)
  |_=>exact absurd (show false=true from d) DR
 |byt i=>
  obtain⟨t,rfl⟩:=R
  cases y with
  |byt j=>obtain⟨T,rfl⟩:=r;exact PySem.W.eq_bytes (jI I q Yt)
  |_=>exact absurd (show false=true from d) DR
 |_=>cases y<;>exact absurd (show false=true from d) DR
theorem KY:gc X (compareOp .NotEq) Dr:=by
 intro p s e H x y v u Q I R r h
 obtain⟨d,q⟩:=h
 cases x with
 |non=>
  cases R
  cases y with
  |non=>cases r;exact PySem.EqNone.ne_none_none (jI I q IN)
  |bl j=>cases r;exact PySem.EqNone.ne_none_bool (jI I q IN)
  |int j=>obtain⟨T,rfl⟩:=r;exact PySem.EqNone.ne_none_int (jI I q IN)
  |str j=>obtain⟨T,rfl⟩:=r;exact PySem.EqNone.ne_none_str (jI I q IN)
  |_=>exact absurd (show false=true from d) DR
 |bl i=>
  cases R
  cases y with
  |non=>cases r;exact PySem.EqNone.ne_bool_none (jI I q IN)
  |bl j=>cases r;exact ne_bool (jI I q (EO not ZM))
  |str j=>obtain⟨T,rfl⟩:=r;exact PySem.EqMixed.ne_bool_str (jI I q IN)
  |_=>exact absurd (show false=true from d) DR
 |int i=>
  obtain⟨t,rfl⟩:=R
  cases y with
  |non=>cases r;exact PySem.EqNone.ne_int_none (jI I q IN)
  |int j=>obtain⟨T,rfl⟩:=r;exact ne_int (jI I q (EO not Yr))
  |str j=>obtain⟨T,rfl⟩:=r;exact PySem.EqMixed.ne_int_str (jI I q IN)
  |_=>exact absurd (show false=true from d) DR
 |str i=>
  obtain⟨t,rfl⟩:=R
  cases y with
  |non=>cases r;exact PySem.EqNone.ne_str_none (jI I q IN)
  |bl j=>cases r;exact PySem.EqMixed.ne_str_bool (jI I q IN)
  |int j=>obtain⟨T,rfl⟩:=r;exact PySem.EqMixed.ne_str_int (jI I q IN)
  |str j=>obtain⟨T,rfl⟩:=r;exact ne_str (jI I q (EO not Ys))
  |_=>exact absurd (show false=true from d) DR
 |byt i=>
  obtain⟨t,rfl⟩:=R
  cases y with
  |byt j=>obtain⟨T,rfl⟩:=r;exact PySem.W.ne_bytes (jI I q (EO not Yt))
  |_=>exact absurd (show false=true from d) DR
 |_=>cases y<;>exact absurd (show false=true from d) DR
theorem Jv:gc X (compareOp .Lt) (um λi j=>.bl (decide (i < j))):=xT λ_ _ _ _ _ _ _ q=>lt_int q
theorem qL:gc X (compareOp .Gt) (um λi j=>.bl (decide (j < i))):=xT λ_ _ _ _ _ _ _ q=>gt_int q
theorem ZF:gc X (compareOp .GtE) (um λi j=>.bl (decide (j<=i))):=xT λ_ _ _ _ _ _ _ q=>ge_int q
theorem aD(b:Expr)(h:o≠ .In:=by decide)(H:o≠ .NotIn:=by decide):behindInMarks o b=false:=by
 have e:(o==CmpOp.In)=false:=by cases o<;>first |rfl |exact absurd Z h
 have E:(o==CmpOp.NotIn)=false:=by cases o<;>first |rfl |exact absurd Z H
 cases b<;>simp [behindInMarks,e,E]
theorem qP(d:gc X (compareOp o) r)(e:PE X a ta)(f:PE X b tb)(g:behindInMarks o b=false):PE X (.Compare a [o] [b] pos) (dG r ta tb):=by
 intro p s i H Q I h
 exact wpAny_Compare1 (wz e f I h λv u S x y j k R l q=>d p S i j x y v u Q k R l q) g
def il(t:TE):TT:=λd H Q=>t d H λx h=>∃k,x= .bl k/\Q k h
theorem jA{o:CmpOp}{r:R2}(f:gc X (compareOp o) r)(g:PE X a ta)(i:PE X b tb)(j:behindInMarks o b=false):PT X (.Compare a [o] [b] pos) (il (dG r ta tb)):=by
 intro p s d H Q I h
 refine wpAny_isTrue_Compare1 (aO (g p s d H _ I h) λv S #[x,l,m,R,q]=>aO (i p S d l _ m q) λu n #[y,t,w,A,B]=>
  aO (f p n d t x y v u _ w R A B) λc G #[z,C,D,E,k,e,F]=>?_) j
 subst e
 cases E
 exact Gy #[C,D,F]
def Ag(K:Frag)(x:V)(H:Hp)(k:Bool):Prop:=
 match x with
 | .non=>k=false
 | .bl b=>k=b
 | .int i=>k=(i != 0)
 | .str y=>y.length<=sizeLine/\k=((y.length:Int) != 0)
 | .byt y=>y.size<=sizeLine/\k=((y.size:Int) != 0)
 | .ref p=>(∃d,aC K H p d/\k=!d.isEmpty)∨(∃d,aA K H p d/\k=!d.isEmpty)∨∃e,H p=some (.dK e)/\k=!e.isEmpty
 |_=>False
theorem XH{d:Type}{k:List (d×V)}{v:List (d×Value)}(r:KV k v):(!v.isEmpty)=!k.isEmpty:=by
 cases r<;>rfl
theorem Km(r:au x i):(!i.toArray.isEmpty)=!x.isEmpty:=by
 cases r<;>simp
theorem dP:(sizeLine:Nat) < 2 ^ 63:=by rw[HS];decide
theorem yO:BX X (λx H Q=>∃k,Ag X.K x H k/\Q k H):=by
 intro o s B H x v Q I R h
 obtain⟨k,e,q⟩:=h
 have C:=dP
 have D:sizeLine=16777216:=HS
 cases x with
 |non=>
  cases R
  have E:k=false:=e
  subst E
  exact truthy_none #[H,I,q]
 |bl b=>
  cases R
  have E:k=b:=e
  subst E
  exact Gy #[H,I,q]
 |int i=>
  obtain⟨t,rfl⟩:=R
  have E:k=(i != 0):=e
  subst E
  exact PySem.P.truthy_int #[H,I,q]
 |str y=>
  obtain⟨t,rfl⟩:=R
  obtain⟨z,E⟩:y.length<=sizeLine/\k=((y.length:Int) != 0):=e
  subst E
  exact PySem.P.truthy_str IM #[H,I.tok _,q]
 |byt y=>
  obtain⟨t,rfl⟩:=R
  obtain⟨z,E⟩:y.size<=sizeLine/\k=((y.size:Int) != 0):=e
  subst E
  exact PySem.W.truthy_bytes IM #[H,I.tok _,q]
 |ref p=>
  cases R
  have E:(∃g,aC X.K H p g/\k=!g.isEmpty)∨(∃g,aA X.K H p g/\k=!g.isEmpty)∨∃d,H p=some (.dK d)/\k=!d.isEmpty:=e
  rcases E with ⟨g,j,E⟩ | ⟨g,j,E⟩ | ⟨d,j,E⟩
  ·subst E
   obtain⟨l,r,n,u⟩:=I.list j
   have f:=r.length
   exact wpAny_truthy_list n.isList (by simp only[DQ];omega) #[H,I.tok _,by rw[Km r];exact q]
  ·subst E
   obtain⟨l,r,n,u⟩:=I.tuple j
   have f:=r.length
   exact truthy_tuple n (by simp only[DQ];omega) #[H,I.tok _,by rw[Km r];exact q]
  ·subst E
   obtain⟨u,A,V,r,m⟩:d.length<=sizeLine/\(p==sysModules)=false/\∃V,KV d V/\s.heap.DictOf (aL X.prog X.w) p V:=I.hok p _ j
   have f:d.length=V.length:=Paired.length r
   exact wpAny_truthy_dict A m IM #[H,I.tok _,by rw[XH r];exact q]
 |_=>exact(show False from e).elim
theorem oY(f:PE X a ta)(g:∀w,isTrue a X.env w=(do let v <- w;standAt a.pos;holding [v] (truthy v))):
  PT X a (λd H Q=>ta d H λx e=>∃k,Ag X.K x e k/\Q k e):=by
 intro p s d H Q I h
 exact isTrue_plain (aO (f p s d H _ I h) λv S #[x,i,j,r,q]=>yO p S d i x v Q j r q) (g _)
theorem zB:gc X (binaryOp .Add) (λx y H Q=>∃i j,x= .str i/\y= .str j/\i.length+j.length<=sizeLine/\Q (.str (i++j)) H):=by
 intro p s e H x y v u Q I r R h
 obtain⟨i,j,rfl,rfl,d,q⟩:=h
 obtain⟨t,rfl⟩:=r
 obtain⟨T,rfl⟩:=R
 exact add_str (λT f=>#[.str (i++j),H,I.tok _,#[_,Z],q]) d
theorem dW(r:au [x] U):∃u,U=[u]/\ax x u:=by
 cases r with
 |cons R d=>cases d;exact#[_,Z,R]
theorem Bq(r:au [x,y] U):∃u w,U=[u,w]/\ax x u/\ax y w:=by
 cases r with
 |cons R d=>
  cases d with
  |cons e f=>cases f;exact#[_,_,Z,R,e]
theorem Jp:dB X (.type "int") (λx H Q=>(∃i,x=[.int i]/\Q (.int i) H)∨∃k,x=[.bl k]/\Q (.int (if k then 1 else 0)) H):=by
 intro p s d H x U Q I r h
 rcases h with ⟨i,rfl,q⟩ | ⟨k,rfl,q⟩
 ·obtain⟨u,rfl,t,rfl⟩:=dW r
  exact call_int_int #[.int i,H,I,#[_,Z],q]
 ·obtain⟨u,rfl,R⟩:=dW r
  cases R
  exact call_int_bool #[.int (if k then 1 else 0),H,I.tok _,#[_,Z],q]
end
structure lJ(h:Heap)(x dx C:Addr)(mA:Str->Option Value):Prop where
 obj:h.get? x=some (instObj C dx)
 ns:h.Ns1 dx mA
 ne:dx≠x
theorem YW{h:Heap}(n:h.Ns1 d m):∃O,h.get? d=some O/\∀name,lookIn name O=some (m name):=by
 obtain⟨o,E,j,b,c,f,_,g⟩:=n
 refine#[o,b,λname=>?_]
 have e:=g name
 unfold nsFind findBy at e
 rw[<- Array.find?_toList]at e
 unfold lookIn
 rw[c]
 dsimp only
 split
 ·rename_i y q
  rw[q]at e
  exact EO some e
 ·rename_i q
  rw[q]at e
  have a:E.toList.any (·.refKey)=false:=by
   rw[List.any_eq_false]
   intro y i
   obtain⟨z,t,H⟩:=f y (Array.mem_toList_iff.mp i)
   simp [DictEntry.refKey,H]
  have A:¬E.toList.any (·.refKey)=true:=by rw[a];exact DR
  rw[D1 A]
  exact EO some e
theorem lJ.look(I:lJ h x d C m):∃o,PySem.W.InstAt h x (instObj C d) C (some o)/\∀name,lookIn name o=some (m name):=
 let #[o,H,a]:=YW I.ns
 #[o,#[I.obj,Z,Z,H],a]
section
variable {prog:Program}{w:World}{A:Around}{E:Value->Shared->Prop}{s:Shared}{K:Frag}{x dx C f:Addr}{mA:Str->Option Value}{name:Str}{v:Value}
theorem sP{Q:Value->Shared->Prop}(X:K.In s.heap)(I:lJ s.heap x dx C mA)(a:plainGet K C name=true)(b:hasDictIn K C=true)
  (c:findIn K (.ref C) name=some none) (d:mA name=some v) (H:PySem.W.handedIn v=true) (h:Q v { s with toks:=s.toks+1 }):
  wpAny (model prog w) A (getAttr (.ref x) name e) Q E s:=by
 obtain⟨o,J,g⟩:=I.look
 exact PySem.W.get_value X J (HI a).1 (PySem.W.findObj_own b c Z (by rw[g,d])) H h
theorem om{Q:Value×List Value->Shared->Prop}(X:K.In s.heap)(I:lJ s.heap x dx C mA)(H:plainGet K C name=true)
  (a:findIn K (.ref C) name=some (some (.ref f))) (b:isFn K (.ref f)=true) (c:mA name=none) (h:Q (.ref f,[.ref x]) s):
  wpAny (model prog w) A (getMethod (.ref x) name p) Q E s:=by
 obtain⟨o,J,d⟩:=I.look
 exact PySem.W.method_fn X J (HI H).1 (HI H).2 a (beq_iff_eq.mp b) (by show(lookIn name o).map (·.isSome)=some false;rw[d,c];rfl) h
theorem uN{Q:Unit->Shared->Prop}(X:K.In s.heap)(I:lJ s.heap x dx C mA)
  (k:findIn K (.ref C) "__setattr__"=some (some (.builtin "object.__setattr__"))) (l:PySem.W.plainOver K C=true) (m:PySem.W.takerIn K C name=some none) (n:hasDictIn K C=true)
  (o:PySem.Within mA N) (p:N.length<=sizeLine)
  (h:∀d,lJ d x dx C (λy=>if y=name then some v else mA y)->Heap.SameBut dx s.heap d->Q () { s with heap:=d,toks:=s.toks+2 }):
  wpAny (model prog w) A (setAttr (.ref x) name v) Q E s:=by
 obtain⟨O,J,B⟩:=I.look
 refine PySem.W.set_plain X J k (PySem.W.osa_open (s:={ s with toks:=s.toks+1 }) (r:=none) X J l m λb=>?_)
 obtain⟨D,q,e⟩:=PySem.W.any_some n
 have t:s.heap.get? x=some #[.ref C,some dx,.plain,(List.toArray [])]:=I.obj
 refine DG (DH (DG (DG (HQ t (DG (PySem.W.Looks.here (s:={ s with toks:=s.toks+1 }) (PySem.W.looks_clsIn X q) ?_))))))
 rw[e]
 refine DH (a:=some dx) (DG (DH (DG ?_)))
 refine wpAny_nsSet1 (s:={ s with toks:=s.toks+1 }) I.ns λd H c=>?_
 obtain⟨F,u,z,g,i,j⟩:=H.count (PySem.Within.cons name v o)
 refine DG (wpAny_lookBehind g (by rw[i];exact pastItsLine_dict (DV j (by rw[El];omega))) ?_)
 exact DH (h _ #[(c.2 _ (Eg I.ne)).trans I.obj,H,I.ne] c)
theorem oy{R:Result->Shared->Prop}(X:K.In s.heap)(H:PySem.W.makesIn K C=true)
  (b:findIn K (.ref C) "__init__"=some (some (.ref f))) (c:typeIn K (.ref f)=some (.type "function"))
  (h:codeAny (model prog w) (A.under (.builtin "type.__call__" #[.ref C::a,k])) (.call (.ref f) #[.ref (s.heap.objs.size+1)::a,k]) (PySem.W.InitBack (s.heap.objs.size+1) R)
   { s with heap:=(s.heap.push emptyDict).push (instObj C s.heap.objs.size) }):
  codeAny (model prog w) A (.call (.ref C) #[a,k]) R s:=by
 obtain⟨e,g,d,t,os⟩:=s
 exact PySem.W.make_core (PySem.W.makes_of X H) (PySem.W.looks_findIn X b) (λS=>PySem.W.bind_fn X S c) (.inl Z) h
end
noncomputable def dQ(f:Str)(v:V):List (Str×V)->List (Str×V)
 | []=>[(f,v)]
 | (g,x)::r=>if g=f then (g,v)::r else (g,x)::dQ f v r
theorem Jy(f g:Str)(v:V):∀F:List (Str×V),(dQ f v F).lookup g=if g=f then some v else F.lookup g
 | []=>by
  show List.lookup g [(f,v)]=_
  by_cases h:g=f
  ·have H:(g==f)=true:=beq_iff_eq.mpr h
   simp only[List.lookup,H,D0 h]
  ·have H:(g==f)=false:=beq_eq_false_iff_ne.mpr h
   simp only[List.lookup,H,D1 h]
 | (k,x)::r=>by
  have i:=Jy f g v r
  rw[show dQ f v ((k,x)::r)=(if k=f then (k,v)::r else (k,x)::dQ f v r) from Z]
  by_cases a:k=f
  ·rw[D0 a]
   by_cases h:g=k
   ·have H:(g==k)=true:=beq_iff_eq.mpr h
    simp only[List.lookup,H,D0 (h.trans a)]
   ·have H:(g==k)=false:=beq_eq_false_iff_ne.mpr h
    simp only[List.lookup,H,D1 (λe:g=f=>h (e.trans a.symm))]
  ·rw[D1 a]
   by_cases h:g=k
   ·have H:(g==k)=true:=beq_iff_eq.mpr h
    simp only[List.lookup,H,D1 (λe:g=f=>a (h.symm.trans e))]
   ·have H:(g==k)=false:=beq_eq_false_iff_ne.mpr h
    simp only[List.lookup,H]
    exact i
theorem Jq(f:Str)(v:V):∀F:List (Str×V),f∈(dQ f v F).map (·.1)/\∀g,g∈F.map (·.1)->g∈(dQ f v F).map (·.1)
 | []=>#[by simp [dQ],λg h=>by simp at h]
 | (k,x)::r=>by
  obtain⟨i,I⟩:=Jq f v r
  rw[show dQ f v ((k,x)::r)=(if k=f then (k,v)::r else (k,x)::dQ f v r) from Z]
  by_cases H:k=f
  ·rw[D0 H]
   subst H
   exact#[IN,λg h=>by simpa using h]
  ·rw[D1 H]
   refine#[?_,λg h=>?_]
   ·rw[ES]
    exact D9 _ i
   ·rw[ES]at h ⊢
    rcases List.mem_cons.mp h with e |e
    ·exact List.mem_cons.mpr (.inl e)
    ·exact D9 _ (I g e)
theorem Jz(f:Str)(v:V):∀F:List (Str×V),(dQ f v F).length<=F.length+1
 | []=>by simp [dQ]
 | (k,x)::r=>by
  have i:=Jz f v r
  rw[show dQ f v ((k,x)::r)=(if k=f then (k,v)::r else (k,x)::dQ f v r) from Z]
  by_cases h:k=f
  ·rw[D0 h,El,El];omega
  ·rw[D1 h,El,El];omega
theorem dy.some_of{v:V}{o:Option Value}(r:dy (some v) o):∃u,o=some u/\ax v u:=by
 cases o with
 |none=>exact(show False from r).elim
 |some u=>exact#[u,Z,r]
theorem dy.none_of(r:dy none o):o=none:=by
 cases o with
 |none=>rfl
 |some u=>exact(show False from r).elim
theorem YX(r:ax v u):PySem.W.handedIn u=true:=by
 cases v with
 |non=>cases (show u=Value.none from r);rfl
 |bl b=>cases (show u=Value.bool b from r);rfl
 |int i=>obtain⟨t,e⟩:=(show ∃t,u=Value.int i t from r);cases e;rfl
 |str x=>obtain⟨t,e⟩:=(show ∃t,u=Value.str x t from r);cases e;rfl
 |byt b=>obtain⟨t,e⟩:=(show ∃t,u=Value.bytes b t from r);cases e;rfl
 |flt b=>obtain⟨t,e⟩:=(show ∃t,u=Value.float b t from r);cases e;rfl
 |ref a=>cases (show u=Value.ref a from r);rfl
 |ty n=>cases (show u=Value.type n from r);rfl
section
variable {P:Program}{w:World}{H H':Hp}{h h':Heap}{a C dx:Addr}{fs fs':List (Str×V)}
theorem JL(b:el P w H h)(e:H a=some (.ins C dx fs)):∃m,lJ h a dx C m/\(∀f,dy (fs.lookup f) (m f))/\PySem.Within m (fs.map (·.1))/\fs.length<=1000/\H dx=some (.own a):=by
 obtain⟨d,z,N,o,m,n,r,q⟩:=(show aG P w H h a (.ins C dx fs) from b a _ e)
 exact#[m,#[o,n,N],r,q,z,d]
end
structure nq(K:Frag)(C:Addr):Prop where
 pg:plainGet K C Str.empty=true
 hd:hasDictIn K C=true
 po:PySem.W.plainOver K C=true
 sa:findIn K (.ref C) "__setattr__"=some (some (.builtin "object.__setattr__"))
theorem nq.get{K:Frag}(c:nq K C)(f:Str):plainGet K C f=true:=c.pg
def bj(K:Frag)(C:Addr)(f:Str):Prop:=findIn K (.ref C) f=some none
theorem bj.taker{K:Frag}(n:bj K C f):PySem.W.takerIn K C f=some none:=by
 unfold PySem.W.takerIn
 rw[show findIn K (.ref C) f=some none from n]
 rfl
structure bN(K:Frag)(C:Addr)(m:Str)(f:Addr):Prop where
 at_:findIn K (.ref C) m=some (some (.ref f))
 fn:isFn K (.ref f)=true
 kp:keepIn K (.ref f)=true
section
variable {X:Cx}{pins:List (Addr×Obj)}{σ:St}{H:Hp}{s:Shared}{a C dx:Addr}{fs:List (Str×V)}{f:Str}{v:V}{A:Around}{E:Value->Shared->Prop}
theorem Kn{Q:Value->Shared->Prop}(I:ao X pins σ H s)(e:H a=some (.ins C dx fs))(c:nq X.K C)(n:bj X.K C f)(l:fs.lookup f=some v)
  (h:∀u S,ao X pins σ H S->ax v u->Q u S):wpAny (model X.prog X.w) A (getAttr (.ref a) f b) Q E s:=by
 obtain⟨m,O,r,_,_,_⟩:=JL I.hok e
 obtain⟨u,d,R⟩:=dy.some_of (v:=v) (o:=m f) (by rw[<- l];exact r f)
 exact sP I.kIn O (c.get f) c.hd n d (YX R) (h u _ (I.tok _) R)
theorem Ko{Q:Value×List Value->Shared->Prop}(I:ao X pins σ H s)(e:H a=some (.ins C dx fs))(c:nq X.K C)(k:bN X.K C m g)(l:fs.lookup m=none)
  (h:Q (.ref g,[.ref a]) s):wpAny (model X.prog X.w) A (getMethod (.ref a) m p) Q E s:=by
 obtain⟨M,O,r,_,_,_⟩:=JL I.hok e
 have b:M m=none:=dy.none_of (by rw[<- l];exact r m)
 exact om I.kIn O (c.get m) k.at_ k.fn b h
theorem Kq{Q:Unit->Shared->Prop}(I:ao X pins σ H s)(e:H a=some (.ins C dx fs))(c:nq X.K C)(n:bj X.K C f)(F:fs.length < 1000)(R:ax y u)
  (h:∀S,ao X pins σ (af H a (.ins C dx (dQ f y fs))) S->Q () S):wpAny (model X.prog X.w) A (setAttr (.ref a) f u) Q E s:=by
 obtain⟨m,O,r,W,_,i⟩:=JL I.hok e
 have j:(fs.map (·.1)).length<=sizeLine:=by rw[DK,HS];omega
 refine uN I.kIn O c.sa c.po n.taker c.hd W j λk d l=>h _ ?_
 have p:∃o,k.get? dx=some o:=let #[o,_,_,t,_]:=d.ns;#[o,t]
 refine I.write (x:=a) (e:=dx) (by rw[e];exact True.intro) (.inr i) (λb q B z=>(l.2 b B).trans z) p ?_
 refine#[by rw[jj O.ne];exact i,?_,O.ne,d.obj,_,d.ns,λg=>?_,λg D=>?_]
 ·have:=Jz f y fs;omega
 ·show dy ((dQ f y fs).lookup g) (if g=f then some u else m g)
  rw[Jy]
  by_cases q:g=f
  ·rw[D0 q,D0 q];exact R
  ·rw[D1 q,D1 q];exact r g
 ·by_cases q:g=f
  ·rw[q];exact(Jq f y fs).1
  ·refine(Jq f y fs).2 g (W g λz=>D ?_)
   show(if g=f then some u else m g)=none
   rw[D1 q];exact z
theorem ao.made(I:ao X pins σ H s):ao X pins σ (af (af H s.heap.objs.size (.own (s.heap.objs.size+1))) (s.heap.objs.size+1) (.ins C s.heap.objs.size []))
  { s with heap:=(s.heap.push emptyDict).push (instObj C s.heap.objs.size) }:=by
 have c:(s.heap.push emptyDict).get? s.heap.objs.size=some emptyDict:=DP s.heap Z
 have d:((s.heap.push emptyDict).push (instObj C s.heap.objs.size)).get? (s.heap.objs.size+1)=some (instObj C s.heap.objs.size):=by
  have:=DP (s.heap.push emptyDict) (o:=instObj C s.heap.objs.size) Z
  rwa [Ey]at this
 have g:(s.heap.push emptyDict).Ns s.heap.objs.size (λ_=>none):=#[emptyDict,(List.toArray []),_,c,Z,(λe h=>absurd h IN),λ_=>Z]
 have i:=I.laid (a:=s.heap.objs.size) (o:=.own (s.heap.objs.size+1)) (h':=s.heap.push emptyDict) (t':=s.toks) (λb u q=>DI _ q) (DN _) #[_,c]
 refine i.laid (a:=s.heap.objs.size+1) (o:=.ins C s.heap.objs.size []) (t':=s.toks) (λb u q=>DI _ q) (Hh (Ey _ _)) ?_
 have n:s.heap.objs.size≠s.heap.objs.size+1:=DS (ET _)
 refine#[by rw[jj n,jc],DX _,n,d,λ_=>none,(Heap.Ns1.of_empty g).at λo q=>DI _ q,λ_=>True.intro,λy j=>absurd Z j]
theorem sy{f:Str}{s:Shared}(c:attributeBase e f b (eval e b)=eval e b)
  (h:wpAny (model p w) A (eval e b) (λo S=>wpAny (model p w) A (getAttr o f true) Q E S) E s):wpAny (model p w) A (eval (.Attribute e f d) b) Q E s:=
 Attribute_any_ h (by rw[arm_eval_Attribute,c])
end
def CS(K:Frag)(t:TE)(f:Str):TE:=λb H Q=>t b H λx h=>∃a C d F v,x= .ref a/\h a=some (.ins C d F)/\nq K C/\bj K C f/\F.lookup f=some v/\Q v h
def CC(K:Frag)(t T:TE)(f:Str):TS:=λD b H=>T b H λy c=>t b c λx h=>∃a C d F,x= .ref a/\h a=some (.ins C d F)/\nq K C/\bj K C f/\F.length < 1000/\
 D.nx b (af h a (.ins C d (dQ f y F)))
def Aa(X:Cx)(o:Operator)(r:V->V->Hp->VK->Prop):Prop:=
 ∀(p:List (Addr×Obj)) (s:Shared) (a:St) (H:Hp) (x y:V) (u v:Value) (Q:VK),ao X p a H s->ax x u->ax y v->r x y H Q->wpAny (model X.prog X.w) X.A (inplaceOp o u v) (EP X p a Q) X.xe s
def uu(K:Frag)(t T:TE)(r:V->V->Hp->VK->Prop)(f:Str):TS:=λD b H=>t b H λx h=>∃a C g c v,x= .ref a/\h a=some (.ins C g c)/\nq K C/\bj K C f/\c.lookup f=some v/\
 T b h λy i=>r v y i λz e=>∃d F,e a=some (.ins C d F)/\F.length < 1000/\D.nx b (af e a (.ins C d (dQ f z F)))
section
variable {X:Cx}{o e value:Expr}{f:Str}{pos pos' tpos:Pos}{ta tv:TE}
theorem zk(b:PE X e ta)(d:attributeBase e f X.env (eval e X.env)=eval e X.env):PE X (.Attribute e f pos) (CS X.K ta f):=by
 intro p s g H Q I h
 refine sy d (aO (b p s g H _ I h) λu S z=>?_)
 obtain⟨x,i,j,r,a,C,D,F,v,E,k,c,n,l,q⟩:=z
 subst E
 obtain rfl:u=Value.ref a:=r
 exact Kn j k c n l λU t m R=>#[v,i,m,R,q]
theorem qC(d:PE X o ta)(g:PE X value tv)(i:swapsWith value (some (.Attribute o f pos')) pos.line X.env=pure false):PS X (.Assign [.Attribute o f pos'] value pos) (CC X.K ta tv f):=by
 intro p s b H D I h
 refine plainObj_wpAny_Assign_Attribute (aO (g p s b H _ I h) λu S #[y,j,k,r,q]=>aO (d p S b j _ k q) λO w z=>?_) i
 obtain⟨x,A,m,R,a,C,B,F,E,t,c,n,l,Q⟩:=z
 subst E
 obtain rfl:O=Value.ref a:=R
 exact Kq m t c n l r λG v=>#[b,_,v,Q]
theorem YY{O:Operator}{r:V->V->Hp->VK->Prop}(i:PE X o ta)(j:PE X value tv)(g:Aa X O r):PS X (.AugAssign (.Attribute o f tpos) O value pos) (uu X.K ta tv r f):=by
 intro p s d H D I h
 refine wpAny_AugAssign_AttributeAny (aO (i p s d H _ I h) λk s1 b=>?_)
 obtain⟨x,m,t,R,a,C,dx,fs,v,w,A,c,n,l,q⟩:=b
 subst w
 obtain rfl:k=Value.ref a:=R
 refine Kn t A c n l λu S B F=>aO (j p S d m _ B q) λW G #[y,J,L,M,Q]=>aO (g p G d J v y u W _ L F M Q) λw4 s4 b=>?_
 obtain⟨z,H3,N,P,T,U,E,Y,q4⟩:=b
 exact Kq N E c n Y P λs5 I5=>#[d,_,I5,q4]
def Cu:V->V->Hp->VK->Prop:=λx y H Q=>∃i j,x= .int i/\y= .int j/\Q (.int (i+j)) H
theorem wP:Aa X .Add Cu:=by
 rintro p s a H x y u v Q I r R ⟨i,j,rfl,rfl,q⟩
 obtain⟨t,rfl⟩:=(show ∃t,u=Value.int i t from r)
 obtain⟨T,rfl⟩:=(show ∃T,v=Value.int j T from R)
 exact PyProof.Rows.iadd_int #[.int (i+j),H,I.tok _,#[_,Z],q]
end
section
variable {X:Cx}{pins:List (Addr×Obj)}{σ:St}{H:Hp}{s:Shared}{A:Around}{E:Value->Shared->Prop}{Q:Value->Shared->Prop}{c:Value}{b:Bool}
inductive eS(K:Frag)(H:Hp):V->Value->Prop where
 |non:eS K H .non (.type "NoneType")
 |bl (x:Bool):eS K H (.bl x) (.type "bool")
 |int (i:Int):eS K H (.int i) (.type "int")
 |str (x:Str):eS K H (.str x) (.type "str")
 |flt (x:UInt64):eS K H (.flt x) (.type "float")
 |lst {a:Addr} {xs:List V} (e:H a=some (.lst xs)):eS K H (.ref a) (.type "list")
 |frz {a:Addr} {o:Obj} {xs:List V} (e:H a=some (.frz o (.lst xs))):eS K H (.ref a) (.type "list")
 |tup {a:Addr} {xs:List V} (e:H a=some (.tup xs)):eS K H (.ref a) (.type "tuple")
 |dK {a:Addr} {kvs:List (aV×V)} (e:H a=some (.dK kvs)):eS K H (.ref a) (.type "dict")
 |dT {a:Addr} {kvs:List (List aV×V)} (e:H a=some (.dT kvs)):eS K H (.ref a) (.type "dict")
 |ins {a C dx:Addr} {fs:List (Str×V)} (e:H a=some (.ins C dx fs)) (cl:nq K C) (ha:findIn K (.ref C) "__class__"=some (some (.builtin "object.__class__")))
   (hn:specialIn K (.builtin "object.__class__") "__get__"=some (some (.builtin "getset_descriptor.__get__"))) (htk:PySem.W.takesIn K (.builtin "object.__class__")=some true)
   (hm:mroIn K C (.type "object")=some true):eS K H (.ref a) (.ref C)
theorem YZ(I:ao X pins σ H s)(r:ax x u)(T:eS X.K H x t)(e:kitOne X.K t c=some b)(h:∀v,Q (.bool b) { s with toks:=v }):
  wpAny (model X.prog X.w) A (call (.builtin "isinstance") [u,c]) Q E s:=by
 cases T with
 |non=>cases (show u=Value.none from r);exact GZ PySem.W.kitx_none I.kIn True.intro e (λz=>nomatch z) h
 |bl y=>cases (show u=Value.bool y from r);exact GZ PySem.W.kitx_bool I.kIn True.intro e (λz=>nomatch z) h
 |int i=>obtain⟨t,q⟩:=(show ∃t,u=Value.int i t from r);cases q;exact GZ PySem.W.kitx_int I.kIn True.intro e (λz=>nomatch z) h
 |str y=>obtain⟨t,q⟩:=(show ∃t,u=Value.str y t from r);cases q;exact GZ PySem.W.kitx_str I.kIn True.intro e (λz=>nomatch z) h
 |flt y=>obtain⟨t,q⟩:=(show ∃t,u=Value.float y t from r);cases q;exact GZ PySem.W.kitx_float I.kIn True.intro e (λz=>nomatch z) h
 | @lst a g d=>
  cases (show u=Value.ref a from r)
  obtain⟨_,_,n,_,f⟩:=(show aG X.prog X.w H s.heap a (.lst g) from I.hok a _ d)
  exact GZ PySem.W.kitx_list I.kIn #[_,f,Z] e (λz=>nomatch z) h
 | @frz a B g d=>
  cases (show u=Value.ref a from r)
  obtain⟨_,_,_,n,_,f⟩:=(show aG X.prog X.w H s.heap a (.frz B (.lst g)) from I.hok a _ d)
  exact GZ PySem.W.kitx_list I.kIn #[_,f,Z] e (λz=>nomatch z) h
 | @tup a g d=>
  cases (show u=Value.ref a from r)
  obtain⟨_,_,_,p⟩:=(show aG X.prog X.w H s.heap a (.tup g) from I.hok a _ d)
  obtain⟨o,f,j,_⟩:=p
  exact GZ PySem.W.kitx_tuple I.kIn #[o,f,j] e (λz=>nomatch z) h
 | @dK a k d=>
  cases (show u=Value.ref a from r)
  obtain⟨_,_,V,_,p⟩:=(show aG X.prog X.w H s.heap a (.dK k) from I.hok a _ d)
  obtain⟨o,D,F,f,j,_⟩:=p
  exact GZ PySem.W.kitx_dict I.kIn #[o,f,j.1] e (λz=>nomatch z) h
 | @dT a k d=>
  cases (show u=Value.ref a from r)
  obtain⟨_,_,g,_,o,D,F,f,j,_⟩:=(show aG X.prog X.w H s.heap a (.dT k) from I.hok a _ d)
  exact GZ PySem.W.kitx_dict I.kIn #[o,f,j.1] e (λz=>nomatch z) h
 | @ins a C N P d m G L l M=>
  cases (show u=Value.ref a from r)
  obtain⟨R,O,_⟩:=JL I.hok d
  obtain⟨S,J,_⟩:=O.look
  exact GZ (PySem.W.kitx_own (m.get _) m.hd G L l M) I.kIn J e (λz=>nomatch z) h
end
structure bo(k:Nat)(A:Around):Prop where
 hd:A.handled=none
 dp:A.depth+3*k+5 < recursionLimit
 un:A.units+16*k+200 < cLine
theorem bo.mono(r:bo k A)(h:j<=k):bo j A:=#[r.hd,by have:=r.dp;omega,by have:=r.un;omega]
theorem bo.deeper(r:bo (k+1) A)(e:Env):bo k (A.deeper e):=
 #[r.hd,by have:=r.dp;show A.depth+1+3*k+5 < _;omega,by have:=r.un;show A.units+3+16*k+200 < _;omega]
theorem XI{A:Around}:(A.under (.builtin "type.__call__" #[.ref C::u,k])).depth=A.depth+1:=by
 first |rfl |simp [Around.under,Code.weight,Code.isCreation,Code.isGuard,Code.isCaller,Code.frames,Code.isFrame,guardIds]
theorem XJ{A:Around}:(A.under (.builtin "type.__call__" #[.ref C::u,k])).units=A.units+1:=by
 first |rfl |simp [Around.under,Code.cUnits,Code.frames,Code.isFrame]
theorem bo.make(r:bo (k+1) A)(C:Addr)(u:List Value)(K:List (Str×Value)):bo k (A.under (.builtin "type.__call__" #[.ref C::u,K])):=
 #[r.hd,by have:=r.dp;rw[XI];omega,by have:=r.un;rw[XJ];omega]
theorem bo.depth(r:bo k A):A.depth < recursionLimit:=by have:=r.dp;omega
theorem bo.units(r:bo k A):A.units+64 < cLine:=by have:=r.un;omega
def aI:TA:=λ_ H Q=>Q [] H
def al(t:TE)(T:TA):TA:=λa H Q=>t a H λx h=>T a h λX b=>Q (x::X) b
section
variable {X:Cx}{e:Expr}{es:List Expr}{te:TE}{t:TA}{pos:Pos}
theorem jb:PA X [] aI:=λ_ _ _ _ H Q I h=>FK #[[],H,I,.nil,h]
theorem ja(b:PE X e te)(c:PA X es t)(d:starEach (e::es) X.env=(false,eval e X.env)::starEach es X.env:=by rfl):PA X (e::es) (al te t):=by
 intro pos p s a H Q I h
 rw[d]
 show wpAny _ _ (spliced ((false,eval e X.env)::backTo pos (starEach es X.env))) _ _ s
 refine Fg (aO (b p s a H _ I h) λu S z=>?_)
 obtain⟨x,f,i,r,q⟩:=z
 exact aO (c pos p S a f _ i q) λU m #[g,j,k,R,l]=>#[x::g,j,k,.cons r R,l]
def bK(t:TA):TE:=λa H Q=>t a H λx h=>x.length<=sizeLine/\∀p,h p=none->Q (.ref p) (af h p (.tup x))
def lr(t:TA):TE:=λa H Q=>t a H λx h=>x.length<=sizeLine/\∀p,h p=none->Q (.ref p) (af h p (.lst x))
theorem jh{x}(h:PA X es t):PE X (.Tuple es x pos) (bK t):=by
 intro p s c H Q I d
 refine wpAny_Tuple_spliced (aO (h pos p s c H _ I d) λU S #[f,a,i,r,z,q]=>#[by rw[<- r.length];exact z,?_])
 have g:a S.heap.objs.size=none:=i.hok.fresh (DN _)
 refine#[.ref S.heap.objs.size,af a S.heap.objs.size (.tup f),i.laid (t':=S.toks) (λb u e=>DI _ e) (DN _) ?_,Z,q _ g]
 exact#[z,U,r,#[_,DP _ Z,Z,_,Z]]
theorem jC(h:PA X es t):PE X (.List es pos) (lr t):=by
 intro p s c H Q I d
 refine wpAny_List_spliced (aO (h pos p s c H _ I d) λU S #[x,a,i,r,z,q]=>#[by rw[<- r.length];exact z,?_])
 have f:a S.heap.objs.size=none:=i.hok.fresh (DN _)
 refine#[.ref S.heap.objs.size,af a S.heap.objs.size (.lst x),i.laid (t':=S.toks) (λb u e=>DI _ e) (DN _) ?_,Z,q _ f]
 exact#[z,U,0,r,DP _ Z]
end
abbrev Sp:=List V->Hp->VK->XK->Prop
abbrev nj:=List Env->Hp->Shared->XK->Value->Shared->Prop
structure lG(P:Program)(w:World)(K:Frag)(mg:Str->Option Value)(base:Heap)(A:Around)(outer:List Env)(s:Shared)(H:Hp):Prop where
 frames:A.frames=some outer
 mod:Mod K mg base
 bs:∀b o,base.get? b=some o->s.heap.get? b=some o/\H b=none
 bsz:base.objs.size<=s.heap.objs.size
 funs:s.heap.FunFrames base outer
 frf:∀b∈ie outer,H b=none
 hok:el P w H s.heap
 bare:AllBare s.gens
def CE(o:List Env)(P:Program)(w:World)(H:Hp)(s:Shared)(Q:VK)(u:Value)(S:Shared):Prop:=
 ∃v h,S.os=s.os/\AllBare S.gens/\Un (ie o) [] H h s.heap S.heap/\el P w h S.heap/\ax v u/\Q v h
def CR(C:nj)(o:List Env)(P:Program)(w:World)(H:Hp)(s:Shared)(Q:VK)(E:XK)(r:Result)(S:Shared):Prop:=
 match r with
 | .ok (.ret u)=>CE o P w H s Q u S
 | .ok _=>False
 | .error e=>C o H s E e S
structure aj(P:Program)(w:World)(K:Frag)(mg:Str->Option Value)(base:Heap)(CX:nj)(k:Nat)(f:Addr)(fd:FuncData)(ps:List Str)(sp:Sp):Prop where
 len:∀vs H Q E,sp vs H Q E->vs.length=ps.length
 run:∀(A:Around) (outer:List Env) (s:Shared) (H:Hp) (args:Args) (us:List Value) (vs:List V) (Q:VK) (E:XK),bo k A->lG P w K mg base A outer s H->BindsTo s fd args (ps.zip us)->au vs us->sp vs H Q E->
  codeAny (model P w) A (.call (.ref f) args) (CR CX outer P w H s Q E) s
theorem lG.make{P:Program}{K:Frag}(e:lG P w K m b A o s H)(C:Addr)(u:List Value)(k:List (Str×Value)):
  lG P w K m b (A.under (.builtin "type.__call__" #[.ref C::u,k])) o s H:=#[by first |exact e.frames | (simpa [Around.under,Code.envs,Code.isFrame,pushEnvs] using e.frames),e.mod,e.bs,e.bsz,e.funs,e.frf,e.hok,e.bare]
section
variable {X:Cx}{pins:List (Addr×Obj)}{σ:St}{H:Hp}{s s':Shared}
theorem ao.env0(I:ao X pins σ H s):lG X.prog X.w X.K X.mg X.base X.A X.stack s H:=
 #[I.ok.frames,I.ok.mod,I.bs,DV I.ok.bsz I.sz,I.stack,I.stkFree,I.hok,I.bare]
theorem ao.after(I:ao X pins σ H s)(h:CE X.stack X.prog X.w H s Q u s'):EP X pins σ Q u s':=by
 obtain⟨v,c,os,B,U,a,r,q⟩:=h
 obtain⟨e,g,d,t,o⟩:=s'
 obtain rfl:o=s.os:=os
 exact#[v,c,I.call (h':=e) (g':=g) (d':=d) (t':=t) (ch:=[]) U a B (λb z=>absurd z IN),r,q]
end
def dD(s:Sp)(d:List V)(E:XK)(t:TA):TE:=λa H Q=>t a H λv h=>s (v++d) h Q E
def rG(C:Addr)(m:Str)(s:Sp)(d:List V)(E:XK)(T:TE)(t:TA):TE:=λb H Q=>T b H λx h=>∃a D f,x= .ref a/\h a=some (.ins C D f)/\f.lookup m=none/\
 t b h λv c=>s (x::(v++d)) c Q E
def Bn(C:Addr)(s:Sp)(D:List V)(E:XK)(t:TA):TE:=λa H Q=>t a H λb h=>∀x d,h x=none->h d=none->d≠x->
 s (.ref x::(b++D)) (af (af h d (.own x)) x (.ins C d [])) (λv c=>v= .non/\Q (.ref x) c) E
def aw(K:Frag)(f:FuncData)(p:List Str)(d:List Value):Prop:=
 ∀(s:Shared) (u:List Value),K.In s.heap->(u++d).length=p.length->BindsTo s f #[u,[]] (p.zip (u++d))
theorem aw.all{K:Frag}{p:List Str}(h:∀u:List Value,u.length=p.length->bindArgs f #[u,[]]=pure (p.zip u)):aw K f p []:=λs u _ H=>by
 rw[Ge]at H ⊢
 exact .of_eq (h u H)
def cX(C:nj)(X:Cx)(E:XK):Prop:=∀(p:List (Addr×Obj)) (a:St) (H:Hp) (s:Shared) (e:Value) (S:Shared),ao X p a H s->C X.stack H s E e S->X.xe e S
section
variable {X:Cx}{CX:nj}{k:Nat}{f C:Addr}{fd:FuncData}{ps:List Str}{sp:Sp}{dvs:List V}{ds:List Value}{E:XK}{x m:Str}{p pos apos:Pos}{e o:Expr}{es:List Expr}{ta:TE}{t:TA}
theorem Qw{us:List Value}{vs:List V}(F:aj X.prog X.w X.K X.mg X.base CX k f fd ps sp)(d:bo k X.A)(g:aw X.K fd ps ds)(i:au dvs ds)(j:cX CX X E)
  (I:ao X a c H s) (r:au vs us) (h:sp (vs++dvs) H Q E):wpAny (model X.prog X.w) X.A (call (.ref f) us) (EP X a c Q) X.xe s:=by
 have R:au (vs++dvs) (us++ds):=r.append i
 have l:(us++ds).length=ps.length:=by rw[<- R.length];exact F.len _ _ _ _ h
 refine wpAny_call (Gg (F.run X.A X.stack s H #[us,[]] (us++ds) (vs++dvs) Q E d I.env0 (g s us I.kIn l) R h) λr S b=>?_)
 cases r with
 |error e=>exact j a c H s e S I b
 |ok n=>
  cases n with
  |ret u=>exact I.after b
  |next=>exact False.elim b
  |brk=>exact False.elim b
  |cont=>exact False.elim b
theorem ky(F:aj X.prog X.w X.K X.mg X.base CX k f fd ps sp)(c:bo k X.A)(d:Gl X x)(g:X.mg x=some (.ref f))(j:keepIn X.K (.ref f)=true)(l:aw X.K fd ps ds)(n:au dvs ds)(u:cX CX X E)
  (v:PA X (e::es) t) (a:(x==("__debug__":Str))=false:=by decide) (y:starEach (e::es) X.env=(false,eval e X.env)::starEach es X.env:=by rfl) (b:(backTo pos (starEach es X.env)).any (·.1)=false:=by rfl):
  PE X (.Call (.Name x p) (e::es) [] pos) (dD sp dvs E t):=by
 intro P s z H Q I h
 refine EF (zd I d g ?_ a)
 refine Iu (h₀:=X.base) I.ok.mod.kin j (aO (v pos P s z H _ I h) λU S #[B,D,i,r,q]=>#[i.kIn,?_]) y b
 exact Qw F c l n u i r q
theorem kQ(v:PE X o ta)(c:nq X.K C)(g:bN X.K C m f)(F:aj X.prog X.w X.K X.mg X.base CX k f fd ps sp)(y:bo k X.A)(B:aw X.K fd ps ds)(D:au dvs ds)(G:cX CX X E)(J:PA X (e::es) t)
  (b:starEach (e::es) X.env=(false,eval e X.env)::starEach es X.env:=by rfl) (d:(backTo pos (starEach es X.env)).any (·.1)=false:=by rfl)
  (L:eval (.Call (.Attribute o m apos) (e::es) [] pos) X.env=(do
   let O <- eval o X.env
   standAt apos.atName
   let (f,first) <- holding [O] (getMethod O m pl)
   callWith pos f first (backTo pos (starEach (e::es) X.env)) (backToKw pos (keywordEach [] X.env))):=by rfl):
  PE X (.Call (.Attribute o m apos) (e::es) [] pos) (rG C m sp dvs E ta t):=by
 intro P s i H Q I h
 refine Ht (pl:=pl) (aO (v P s i H _ I h) λu S z=>?_) L
 obtain⟨x,M,j,R,a,W,Y,N,T,l,q⟩:=z
 subst N
 obtain rfl:u=Value.ref a:=R
 refine Ko j T c g l ?_
 refine Iu (first:=[.ref a]) (h₀:=X.base) I.ok.mod.kin g.kp (aO (J pos P S i M _ j q) λus s2 #[vs,H2,n,r,U]=>#[n.kIn,?_]) b d
 exact Qw (us:=.ref a::us) (vs:=.ref a::vs) F y B D G n (.cons Z r) U
theorem oR(d:PE X o ta)(c:nq X.K C)(b:bN X.K C m f)(F:aj X.prog X.w X.K X.mg X.base CX k f fd ps sp)(g:bo k X.A)(j:aw X.K fd ps ds)(n:au dvs ds)(r:cX CX X E)
  (v:eval (.Call (.Attribute o m apos) [] [] pos) X.env=(do
   let O <- eval o X.env
   standAt apos.atName
   let (f,first) <- holding [O] (getMethod O m pl)
   callWith pos f first (backTo pos (starEach [] X.env)) (backToKw pos (keywordEach [] X.env))):=by rfl):
  PE X (.Call (.Attribute o m apos) [] [] pos) (rG C m sp dvs E ta aI):=by
 intro P s y H Q I h
 refine Ht (pl:=pl) (aO (d P s y H _ I h) λu S z=>?_) v
 obtain⟨x,G,i,R,a,J,L,B,D,l,q⟩:=z
 subst B
 obtain rfl:u=Value.ref a:=R
 refine Ko i D c b l ?_
 exact PySem.W.callWith_K0 (first:=[.ref a]) i.kIn b.kp (Qw (us:=[.ref a]) (vs:=[.ref a]) F g j n r i (.cons Z .nil) q)
structure Mk(K:Frag)(C f:Addr):Prop where
 makes:PySem.W.makesIn K C=true
 init:findIn K (.ref C) "__init__"=some (some (.ref f))
 fn:isFn K (.ref f)=true
 kp:keepIn K (.ref C)=true
theorem pd(M:Mk X.K C f)(F:aj X.prog X.w X.K X.mg X.base CX k f fd ps sp)(l:bo (k+1) X.A)(n:aw X.K fd ps ds)(q:au dvs ds)
  (y:cX CX X E) (I:ao X b c H s) (r:au g U)
  (h:∀x d,H x=none->H d=none->d≠x->sp (.ref x::(g++dvs)) (af (af H d (.own x)) x (.ins C d [])) (λv z=>v= .non/\Q (.ref x) z) E):
  wpAny (model X.prog X.w) X.A (call (.ref C) U) (EP X b c Q) X.xe s:=by
 have j:=h (s.heap.objs.size+1) s.heap.objs.size (I.hok.fresh (Ff _)) (I.hok.fresh (DN _)) (DS (ET _))
 have i:=ao.made (C:=C) I
 have R:au (V.ref (s.heap.objs.size+1)::(g++dvs)) (Value.ref (s.heap.objs.size+1)::(U++ds)):=.cons Z (r.append q)
 have B:(Value.ref (s.heap.objs.size+1)::U++ds).length=ps.length:=by
  have e:=R.length
  rw[F.len _ _ _ _ j]at e
  exact e.symm
 refine wpAny_call (oy (f:=f) I.kIn M.makes M.init (beq_iff_eq.mp M.fn) (Gg (F.run _ X.stack _ _ #[Value.ref (s.heap.objs.size+1)::U,[]] (Value.ref (s.heap.objs.size+1)::(U++ds)) _ _ E (l.make C U [])
  (i.env0.make C U []) (n _ (Value.ref (s.heap.objs.size+1)::U) i.kIn B) R j) λr S a=>?_))
 cases r with
 |error e=>exact y b c _ _ e S i a
 |ok D=>
  cases D with
  |ret u=>
   obtain⟨v,G,J,L,N,O⟩:=i.after a
   subst N
   exact#[L,#[V.ref (s.heap.objs.size+1),G,J,Z,O]]
  |next=>exact False.elim a
  |brk=>exact False.elim a
  |cont=>exact False.elim a
theorem Yu(M:Mk X.K C f)(F:aj X.prog X.w X.K X.mg X.base CX k f fd ps sp)(c:bo (k+1) X.A)(d:Gl X x)(g:X.mg x=some (.ref C))(j:aw X.K fd ps ds)(l:au dvs ds)(n:cX CX X E)
  (u:PA X (e::es) t) (a:(x==("__debug__":Str))=false:=by decide) (v:starEach (e::es) X.env=(false,eval e X.env)::starEach es X.env:=by rfl) (b:(backTo pos (starEach es X.env)).any (·.1)=false:=by rfl):
  PE X (.Call (.Name x p) (e::es) [] pos) (Bn C sp dvs E t):=by
 intro P s y H Q I h
 refine EF (zd I d g ?_ a)
 refine Iu (h₀:=X.base) I.ok.mod.kin M.kp (aO (u pos P s y H _ I h) λU S #[z,B,i,r,q]=>#[i.kIn,?_]) v b
 exact pd M F c j l n i r q
end
structure ak(N P:List Str)(sc:Scope):Prop where
 kind:sc.kind= .function
 co:sc.isCoroutine=false
 gen:sc.isGenerator=false
 nd:N.Nodup
 pre:N.take P.length=P
 par:∀x∈P,sc.names.lookup x=some .local∨sc.names.lookup x=some .cell
 nofree:∀y∈sc.names,y.2≠ .free
theorem K8{kindOf:Str->Option NameKind}:∀{b:List (Str×Value)} {m:Str->Option Value},(∀v,(x,v)∉b)->bindL kindOf b m x=m x
 | [],_,_=>rfl
 | (n,v)::r,m,h=>by
  unfold bindL
  rw[K8 λw H=>h w (D9 _ H)]
  split
  ·have:x≠n:=by rintro rfl;exact h v D3
   simp [this]
  ·rfl
theorem K9{kindOf:Str->Option NameKind}:∀{b:List (Str×Value)} {m:Str->Option Value},(∀v,(x,v)∉b)->bindC kindOf b m x=m x
 | [],_,_=>rfl
 | (n,v)::r,m,h=>by
  unfold bindC
  rw[K9 λw H=>h w (D9 _ H)]
  split
  ·rfl
  ·have:x≠n:=by rintro rfl;exact h v D3
   simp [this]
theorem Qa{kindOf:Str->Option NameKind}:∀{P:List Str} {V:List Value} {i:Nat} {m:Str->Option Value},P.Nodup->P[i]?=some x->V[i]?=some v->kindOf x=some .local->
  bindL kindOf (P.zip V) m x=some v
 | [],_,_,_,_,h,_,_=>by simp at h
 |_::_,[],_,_,_,_,h,_=>by simp at h
 |p::P,w::V,0,m,n,H,a,b=>by
  simp at H a;subst H;subst a
  show bindL kindOf ((p,w)::P.zip V) m p=_
  unfold bindL
  rw[K8 λv c=>(List.nodup_cons.mp n).1 (Hq c).1,D0 b]
  simp
 |p::P,w::V,i+1,m,n,H,a,b=>by
  show bindL kindOf ((p,w)::P.zip V) m x=_
  unfold bindL
  exact Qa (i:=i) (List.nodup_cons.mp n).2 (by simpa using H) (by simpa using a) b
theorem Qb{kindOf:Str->Option NameKind}:∀{P:List Str} {V:List Value} {i:Nat} {m:Str->Option Value},P.Nodup->P[i]?=some x->V[i]?=some v->kindOf x≠some .local->
  bindC kindOf (P.zip V) m x=some v
 | [],_,_,_,_,h,_,_=>by simp at h
 |_::_,[],_,_,_,_,h,_=>by simp at h
 |p::P,w::V,0,m,n,H,a,b=>by
  simp at H a;subst H;subst a
  show bindC kindOf ((p,w)::P.zip V) m p=_
  unfold bindC
  rw[K9 λv c=>(List.nodup_cons.mp n).1 (Hq c).1,D1 b]
  simp
 |p::P,w::V,i+1,m,n,H,a,b=>by
  show bindC kindOf ((p,w)::P.zip V) m x=_
  unfold bindC
  exact Qb (i:=i) (List.nodup_cons.mp n).2 (by simpa using H) (by simpa using a) b
noncomputable def fo(N:List Str)(v:List V):St:=v.map some++List.replicate (N.length - v.length) none
noncomputable def eU(C:nj)(P:Program)(w:World)(K:Frag)(mg:Str->Option Value)(base:Heap)(N:List Str)(q:Str)(S:Scope)(f:Addr)(c:Value)(A:Around)(outer:List Env)(s:Shared)(H:Hp)(E:XK):Cx where
 prog:=P
 w:=w
 K:=K
 mg:=mg
 base:=base
 A:=A.deeper (envOfC q S s.heap.objs.size f c)
 N:=N
 s₀:=s
 H₀:=H
 env:=envOfC q S s.heap.objs.size f c
 outer:=outer
 stack:=envOfC q S s.heap.objs.size f c::outer
 ex:=[]
 calm:=true
 fn:=λ_=>true
 pn:=[]
 xe:=λe b=>wpAny (model P w) (A.deeper (envOfC q S s.heap.objs.size f c)) (leaving (envOfC q S s.heap.objs.size f c) e) (λ_ a=>C outer H s E e a) (λd a=>C outer H s E d a) b
theorem Q2{s:Scope}{n:Nat}(h:s.names.lookup x=some .cell):∃c,(cellsFrom n s.names []).lookup x=some c:=by
 have q:=PySem.W.cellsFrom_some s.names n [] (.inl h)
 exact Option.isSome_iff_exists.mp q
theorem Y0{P:Program}{K:Frag}{A:Around}{l:List V}
  (S:ak N t d) (O:A.handled=none) (j:lG P w K M B A o s H) (hl:l.length=t.length) (r:au l U)
  (x:InCallC s s.heap.objs.size (bindL (envOfC Q d s.heap.objs.size f I).kindOf (t.zip U) λ_=>none) (cellsFrom (s.heap.objs.size+1) d.names []) (bindC (envOfC Q d s.heap.objs.size f I).kindOf (t.zip U) λ_=>none) T):
  ao (eU Y P w K M B N Q d f I A o s H E) [] (fo N l) H T:=by
 have R:t.length<=N.length:=by have:=EO List.length S.pre;rw[Ec]at this;omega
 obtain⟨F,tk,rfl,J⟩:=x.done
 have m:∀b:Addr,b∉(eU Y P w K M B N Q d f I A o s H E).ex:=λb z=>absurd (show b∈([]:List Addr) from z) IN
 refine#[#[j.mod,S.kind,Z,Z,DN _,λy z c F g=>?_,λy hy=>?_,λy c _ h=>?_,λ_=>O,Around.frames_deeper j.frames,.inr #[Z,Z],λb z=>absurd z (m b),j.bs,j.bsz,λb _ _=>m b,λb z=>absurd z (m b),j.funs,j.frf],
  rfl,j.bare,Un.kept J,#[_,x.toInCall.ns,λi y v F g h3=>?_],λy c h=>#[_,x.cell y c h],j.hok.fresh (DN _),λy c h=>?_,λp C=>absurd (show p∈([]:List (Addr×Obj)) from C) IN,j.hok.kept J,?_]
 ·exact name_of_addr x.apart (EY F) (EY g)
 ·have hy:d.names.lookup y=some .cell∨d.names.lookup y=some .free:=hy
  rcases hy with hy |hy
  ·exact Q2 hy
  ·exact absurd Z (S.nofree _ (EY hy))
 ·exact F8 (x.above y c (EY h))
 ·have G:i < l.length:=by
   unfold fo at g
   by_cases G:i < l.length
   ·exact G
   ·rw[Fq (by simpa using G)]at g
    rw[II]at g
    split at g<;>cases g
  have W:l[i]?=some v:=by
   unfold fo at g
   rw[Fu (by simpa using G),D4]at g
   cases e:l[i]? with
   |none=>rw[e]at g;cases g
   |some a=>rw[e]at g;cases g;rfl
  obtain⟨u,L,X⟩:=r.get W
  have C:t[i]?=some y:=by
   rw[<- S.pre,List.getElem?_take_of_lt IM];exact F
  have D:t.Nodup:=by rw[<- S.pre];exact S.nd.sublist (FD _ _)
  refine#[u,X,?_]
  rcases S.par y (D5 C) with k |k
  ·exact .inl #[k,Qa D C L k]
  ·obtain⟨c,e⟩:=Q2 (n:=s.heap.objs.size+1) k
   refine .inr #[.inl k,c,e,?_]
   have q:=x.cell y c e
   rw[Qb D C L (by show d.names.lookup y≠_;rw[k];decide)]at q
   exact q
 ·exact j.hok.fresh (F8 (x.above y c (EY h)))
 ·unfold fo
  show _=N.length
  rw[DM,DK,Hy]
  omega
theorem vE{P:Program}{K:Frag}{kV:Value}
    {G:Sp} (lk:K.lookup f=some #[oc,od,.func (fnOf name c p h a dV kV L pm an C ct),o1]) (M:codeIn K C c=true) (S:ak N T a)
  (len:∀d H Q E,G d H Q E->d.length=T.length)
  (j:∀(A:Around) (O:List Env) (s:Shared) (H:Hp) (d:List V) (Q:VK) (E:XK),bo k (A.deeper (envOfC c a s.heap.objs.size f C))->G d H Q E->
   ∃t,iV (eU U P w K Y B N c a f C A O s H E) h t/\t { nx:=λ_ i=>Q .non i,rt:=Q } (fo N d) H):
  aj P w K Y B U (k+1) f (fnOf name c p h a dV kV L pm an C ct) T G:=by
 refine#[len,λA O s H a0 us d Q E R z hb r D=>?_]
 have hl:=len _ _ _ _ D
 have KX:K.In s.heap:=z.mod.kin.keeps λb o e=>(z.bs b o e).1
 have X:s.heap.NoLimit:=z.mod.nolimit.keeps λb o e=>(z.bs b o e).1
 have l:∀y∈T.zip us,a.names.lookup y.1=some .local∨(a.names.lookup y.1=some .cell/\((cellsFrom (s.heap.objs.size+1) a.names []).lookup y.1).isSome=true):=λ#[n,v] hy=>by
  rcases S.par n (Hq hy).1 with q |q
  ·exact .inl q
  ·exact .inr #[q,PySem.W.cellsFrom_some _ _ _ (.inl q)]
 refine codeAny_call_function R.depth (KX _ _ lk) Z S.co S.gen Z (PySem.W.codeRec_of KX M) (hb _ _ _ _ ?_)
 refine wpAny_newFunctionEnv_cells S.kind l λe1 he s1 x=>?_
 subst he
 refine#[X.keeps x.toInCall.keep,codeAny_func ?_]
 obtain⟨t,ht,hq⟩:=j A O s H d Q E (R.deeper _) D
 have I:ao (eU U P w K Y B N c a f C A O s H E) [] (fo N d) H s1:=Y0 S R.hd z hl r x
 refine EK (ht [] s1 (fo N d) H _ I hq) (λfl s' m=>?_) λe s' m=>m
 have F:∀{g:St} {i:Hp} {v:V} {u:Value},ao (eU U P w K Y B N c a f C A O s H E) [] g i s'->ax v u->Q v i->CE O P w H s Q u s':=
  λ{g i v u} J rv q=>#[v,i,J.os,J.bare,J.base,J.hok,rv,q]
 cases fl with
 |ret u=>
  obtain⟨v,g,i,J,rv,q⟩:=m
  exact F J rv q
 |next=>
  obtain⟨g,i,J,q⟩:=m
  exact F (v:=V.non) (u:=Value.none) J Z q
 |brk=>
  obtain⟨_,_,_,q⟩:=m
  exact False.elim q
 |cont=>
  obtain⟨_,_,_,q⟩:=m
  exact False.elim q
section
variable {X:Cx}{x:Str}{p pos:Pos}{e:Expr}{es:List Expr}{t:TA}{id T:String}{r:List V->Hp->VK->Prop}
def BK(r:List V->Hp->VK->Prop)(t:TA):TE:=λa H Q=>t a H λv h=>r v h Q
theorem jO(d:dB X (.builtin id) r)(f:Gl X x)(g:X.mg x=none)(i:bootBuiltins x=some (.builtin id))(j:PA X (e::es) t)(k:x≠"__name__":=by decide)(a:(x==("__debug__":Str))=false:=by decide)
  (l:starEach (e::es) X.env=(false,eval e X.env)::starEach es X.env:=by rfl) (b:(backTo pos (starEach es X.env)).any (·.1)=false:=by rfl):PE X (.Call (.Name x p) (e::es) [] pos) (BK r t):=by
 intro P s c H Q I h
 refine EF (zH I f g i ?_ k a)
 exact PyProof.Rows.callWith_builtin1 (aO (j pos P s c H _ I h) λu S #[v,m,n,R,q]=>d P S c m v u Q n R q) l b
theorem jz(d:dB X (.type T) r)(f:Gl X x)(g:X.mg x=none)(i:bootBuiltins x=some (.type T))(j:PA X (e::es) t)(k:x≠"__name__":=by decide)(a:(x==("__debug__":Str))=false:=by decide)
  (l:starEach (e::es) X.env=(false,eval e X.env)::starEach es X.env:=by rfl) (b:(backTo pos (starEach es X.env)).any (·.1)=false:=by rfl):PE X (.Call (.Name x p) (e::es) [] pos) (BK r t):=by
 intro P s c H Q I h
 refine EF (zH I f g i ?_ k a)
 exact Ew (aO (j pos P s c H _ I h) λu S #[v,m,n,R,q]=>d P S c m v u Q n R q) l b
end
end L2
namespace HT
open PySem PyProof.Rows
theorem eqAt_int(A:Around)(s:Shared)(a:Int)(t:Tok)(c:Int)(u:Tok):∃e,SeqAt.EqAt A s (.int a t) (.int c u) e/\(e=true↔a=c):=
 #[(a==c),SeqAt.EqAt.int_int a t c u,IN]
section
variable {prog:Program}{w:World}{A:Around}{E:Value->Shared->Prop}{s:Shared}
theorem cat_tup{v W:List Value}{Q:Value->Shared->Prop}(m:IsTup s.heap t v.toArray)(o:IsTup s.heap b W.toArray)(i:v≠[])
  (p:W=[]->Q (.ref t) s) (q:W≠[]->Q (.ref s.heap.objs.size) { s with heap:=s.heap.push { cls:=.type "tuple",data:=.seq (v++W).toArray } })
  (g:v.length+W.length<=sizeLine):wpAny (model prog w) A (binaryOp .Add (.ref t) (.ref b)) Q E s:=by
 obtain⟨⟨cls,D,data,j⟩,c,k,n,l⟩:=id m
 obtain⟨⟨C,d,data2,S⟩,h,H,N,a⟩:=id o
 simp only at k l H a
 subst k l H a
 have e:v.toArray++W.toArray=(v++W).toArray:=by simp
 by_cases f:W=[]
 ·exact concat_meets #[_,c,Z] #[_,h,Z] IB seq_tuple_add Hd G8 (GS _ _)
   (tuple_addW1 t b v.toArray W.toArray n N D d j S (by simpa using i) (by simp [f])) #[c,h,p f]
 ·refine concat_meets #[_,c,Z] #[_,h,Z] IB seq_tuple_add Hd G8 (GS _ _)
   (tuple_addW2 t b v.toArray W.toArray n N D d j S (by simpa using i) (by simpa using f) (by rw[DQ,DQ];exact g)) #[c,h,?_]
  rw[e]
  exact q f
noncomputable def sIx(n d:Nat):Option Int->Nat
 |none=>d
 |some v=>if v < 0 then (v+(n:Int)).toNat else min v.toNat n
theorem sIx_none(n d:Nat):sIx n d none=d:=rfl
theorem sIx_nat(n d k:Nat):sIx n d (some (k:Int))=min k n:=by
 show(if (k:Int) < 0 then ((k:Int)+(n:Int)).toNat else min (k:Int).toNat n)=min k n
 rw[D1 IM,EA]
theorem yr(n d:Nat)(H:d<=n)(o:Option Int):sIx n d o<=n:=by
 cases o with
 |none=>exact H
 |some v=>
  show(if v < 0 then (v+(n:Int)).toNat else min v.toNat n)<=n
  by_cases h:v < 0
  ·rw[D0 h];omega
  ·rw[D1 h];exact Nat.min_le_right _ _
theorem Yv(v:Int)(n d:Nat):(if v < 0 then max (v+(n:Int)) 0 else min v (n:Int))=((sIx n d (some v):Nat):Int):=by
 show(if v < 0 then max (v+(n:Int)) 0 else min v (n:Int))=(((if v < 0 then (v+(n:Int)).toNat else min v.toNat n):Nat):Int)
 by_cases h:v < 0
 ·simp only[D0 h];omega
 ·simp only[D1 h];omega
theorem XL(lo h:Option Int)(n:Nat):Builtin.Slice.sliceAdjust lo h 1 (n:Int)=(((sIx n 0 lo:Nat):Int),((sIx n n h:Nat):Int)):=by
 have H:¬((1:Int) < 0):=by omega
 unfold Builtin.Slice.sliceAdjust
 simp only[H,EN]
 refine Prod.ext ?_ ?_
 ·cases lo with
  |none=>rfl
  |some v=>exact Yv v n 0
 ·cases h with
  |none=>rfl
  |some v=>exact Yv v n n
theorem XN(i j:Nat):Builtin.Slice.slicePlaces (i:Int) (j:Int) 1=j - i:=by
 unfold Builtin.Slice.slicePlaces
 have h:(1:Int) > 0:=by omega
 simp only[h,Go,Int.ediv_one]
 split<;>omega
theorem Kr{Q:Option Int->Shared->Prop}(p:IsPart v o)(h:Q o s):wpAny (model prog w) A (Builtin.Slice.slicePartIndex v) Q E s:=by
 cases p with
 |none=>exact slicePart_none h
 |int i t=>exact slicePart_int h
theorem sliceApplied_gen{lo:Option Int}{Q:Int×Int×Nat->Shared->Prop}(d:s.heap.IsSliceOf e v c .none)(p:IsPart v lo)(P:IsPart c b)
  (h:Q (((sIx n 0 lo:Nat):Int),1,sIx n n b - sIx n 0 lo) s):wpAny (model prog w) A (Builtin.Slice.sliceApplied (.ref e) (pure (n:Int))) Q E s:=by
 obtain⟨os,H,f,a⟩:=id d
 unfold Builtin.Slice.sliceApplied Builtin.Slice.sliceFields
 refine DG (DG (D7 H a (x:=v) Z (DG (D7 H a (x:=c) Z (DG (D7 H a (x:=.none) Z (DH ?_)))))))
 refine DG (slicePart_none ?_)
 show wpAny _ _ (if ((1:Int)==0)=true then _ else _) _ _ s
 rw[D1 IL]
 refine DG (Kr p (DG (Kr P (DG (DH ?_)))))
 show wpAny _ _ (match Builtin.Slice.sliceAdjust lo b 1 (n:Int) with | (lo,b)=>pure (lo,(1:Int),Builtin.Slice.slicePlaces lo b 1)) _ _ s
 rw[XL lo b n]
 show wpAny _ _ (pure (((sIx n 0 lo:Nat):Int),(1:Int),Builtin.Slice.slicePlaces ((sIx n 0 lo:Nat):Int) ((sIx n n b:Nat):Int) 1)) _ _ s
 rw[XN]
 exact DH h
theorem oX(X:Array Value)(i k:Nat):((List.range k).filterMap λ(m:Nat)=>X[((i:Int)+(m:Int)*1).toNat]?).toArray=((X.toList.drop i).take k).toArray:=by
 have e:(λ(m:Nat)=>X[((i:Int)+(m:Int)*1).toNat]?)=λm=>X[i+m]?:=by
  funext m
  have:((i:Int)+(m:Int)*1).toNat=i+m:=by omega
  rw[this]
 rw[e]
 have:=pick_run X i k
 rw[List.filterMap_map]at this
 have a:((λx=>X[x]?) ∘ λx=>i+x)=λm=>X[i+m]?:=rfl
 rw[a]at this
 rw[this]
theorem getItem_tuple_cut{lo:Option Int}{Q:Value->Shared->Prop}(ht:IsTup s.heap t items)(hs:s.heap.IsSliceOf sl vl vu .none)(pl:IsPart vl lo)(pu:IsPart vu hi)
  (hw:¬(sIx items.size 0 lo=0/\sIx items.size items.size hi=items.size))
  (h:Q (.ref s.heap.objs.size) { s with heap:=s.heap.push { cls:=.type "tuple",data:=.seq ((items.toList.drop (sIx items.size 0 lo)).take (sIx items.size items.size hi - sIx items.size 0 lo)).toArray } })
  (hsz:items.size<=sizeLine):wpAny (model prog w) A (getItem (.ref t) (.ref sl)) Q E s:=by
 have htake:sizeOk (.seq ((items.toList.drop (sIx items.size 0 lo)).take (sIx items.size items.size hi - sIx items.size 0 lo)).toArray):=by
  show((items.toList.drop (sIx items.size 0 lo)).take (sIx items.size items.size hi - sIx items.size 0 lo)).toArray.size<=sizeLine
  rw[DQ,Ec,Fp,D6]
  omega
 have hj:sIx items.size items.size hi<=items.size:=yr _ _ (DN _) hi
 obtain⟨os,hos,hcs,hds⟩:=id hs
 have hTs:s.TypeIs (.ref sl) "slice":=#[os,hos,hcs]
 unfold getItem
 try with_reducible refine D8 ?_
 first |refine DG (DH ?_) |skip
 refine DG (Iq ht.typeIs IL ?_)
 refine DG (Ek (name:=Str.ofString "__getitem__") ht.typeIs FG
  (Ep FG ht.typeIs entry_tuple_getitem ?_ (args_tuple_getitem _ _)))
 show wpAny _ _ (Builtin.Tuple.tupleItemsOf (.ref t) >>= _) _ _ s
 refine DG (tupleItemsOf_ ht ?_)
 refine DG (Ft hTs ?_)
 rw[D0 IL]
 refine DG (sliceApplied_gen hs pl pu ?_)
 have hno:¬((((sIx items.size 0 lo:Nat):Int)==0&&(1:Int)==1&&(sIx items.size items.size hi - sIx items.size 0 lo)==items.size)=true):=by
  intro q
  rw[EM,EM]at q
  have q1:((sIx items.size 0 lo:Nat):Int)=0:=eq_of_beq q.1.1
  have q2:sIx items.size items.size hi - sIx items.size 0 lo=items.size:=eq_of_beq q.2
  exact hw #[IM,IM]
 show wpAny _ _ (if (((sIx items.size 0 lo:Nat):Int)==0&&(1:Int)==1&&(sIx items.size items.size hi - sIx items.size 0 lo)==items.size)=true then _ else _) _ _ s
 rw[D1 hno,oX]
 first
  |exact DG (m:=Builtin.Tuple.tupleExact _) (En (DH #[_,Z,DH h]) htake)
  |exact DG (m:=Builtin.Tuple.tupleExact _) (En (DG (DH (DH #[_,Z,DH h]))) htake)
  |exact DG (DG (m:=Builtin.Tuple.tupleExact _) (En (DH (DH #[_,Z,DH h])) htake))
  |exact DG (DG (m:=Builtin.Tuple.tupleExact _) (En (DH #[_,Z,DH h]) htake))
end
end HT
namespace L2
open PySem PySem.Spec PyProof.Rows
abbrev TO:=St->Hp->(Option Int->Hp->Prop)->Prop
def PO(X:Cx)(e:Option Expr)(t:TO):Prop:=
 ∀(p:List (Addr×Obj)) (s:Shared) (a:St) (H:Hp) (Q:Option Int->Hp->Prop),ao X p a H s->t a H Q->
  wpAny (model X.prog X.w) X.A (evalPart e X.env) (λu S=>∃o h,ao X p a h S/\IsPart u o/\Q o h) X.xe s
def iT:TO:=λ_ H Q=>Q none H
def ls(t:TE):TO:=λa H Q=>t a H λx h=>∃i,x= .int i/\Q (some i) h
section
variable {X:Cx}{e:Expr}{te:TE}{lo hi:Option Expr}{tl th:TO}{pos p2:Pos}
theorem ke:PO X none iT:=by
 intro p s a H Q I h
 rw[evalPart_none]
 exact DH #[none,H,I,.none,h]
theorem jE(h:PE X e te):PO X (some e) (ls te):=by
 intro p s a H Q I b
 rw[evalPart_some]
 refine aO (h p s a H _ I b) λu S z=>?_
 obtain⟨x,c,d,r,f⟩:=z
 obtain⟨i,rfl,q⟩:=f
 obtain⟨t,rfl⟩:=r
 exact#[some i,c,d,.int i t,q]
def By(X:Cx)(r:V->Option Int->Option Int->Hp->VK->Prop):Prop:=
 ∀(p:List (Addr×Obj)) (s:Shared) (a:St) (H:Hp) (x:V) (v b c:Value) (lo hi:Option Int) (S:Addr) (Q:VK),ao X p a H s->ax x v->s.heap.IsSliceOf S b c .none->IsPart b lo->IsPart c hi->r x lo hi H Q->
  ∃T id,typeLookup (.type T) "__getitem__"=pure (some (.builtin id))/\s.TypeIs v T/\wpAny (model X.prog X.w) X.A (getItem v (.ref S)) (EP X p a Q) X.xe s
def BL(r:V->Option Int->Option Int->Hp->VK->Prop)(te:TE)(tl th:TO):TE:=λa H Q=>te a H λx h=>tl a h λl b=>th a b λu c=>r x l u c Q
theorem jH{r:V->Option Int->Option Int->Hp->VK->Prop}(g:By X r)(i:PE X e te)(j:PO X lo tl)(k:PO X hi th):PE X (.Subscript e (.Slice lo hi none p2) pos) (BL r te tl th):=by
 intro p s a H Q I h
 refine Subscript_ (aO (i p s a H _ I h) λv m z=>?_)
 obtain⟨x,n,o,R,t⟩:=z
 refine wpAny_Slice (aO (j p m a n _ o t) λc y #[l,B,C,P,D]=>aO (k p y a B _ C D) λd S z=>?_)
 obtain⟨u,f,E,F,G⟩:=z
 rw[evalPart_none]
 refine DH ?_
 have J:ao X p a f { S with heap:=S.heap.push { cls:=.type "slice",data:=.fields (List.toArray [c,d,.none]) } }:=E.kept (t':=S.toks) λb O q=>DI _ q
 obtain⟨T,id,K,L,M⟩:=g p { S with heap:=S.heap.push { cls:=.type "slice",data:=.fields (List.toArray [c,d,.none]) } } a f x v c d l u S.heap.objs.size Q J R (Heap.IsSliceOf.new ..) P F G
 show wpAny (model X.prog X.w) X.A (subscriptTail e (.Slice lo hi none p2) v (.ref S.heap.objs.size)) (EP X p a Q) X.xe { S with heap:=S.heap.push { cls:=.type "slice",data:=.fields (List.toArray [c,d,.none]) } }
 exact tail_any (ops:=[.ref S.heap.objs.size,v]) L K M (by with_unfolding_all rfl)
noncomputable def aK(x:List V)(lo hi:Option Int):List V:=(x.drop (HT.sIx x.length 0 lo)).take (HT.sIx x.length x.length hi - HT.sIx x.length 0 lo)
theorem zc(x:List V)(lo hi:Option Int):(aK x lo hi).length<=x.length:=by
 unfold aK
 rw[Ec,Fp]
 omega
def Cz(K:Frag):V->Option Int->Option Int->Hp->VK->Prop:=λx lo hi H Q=>∃a b,x= .ref a/\aA K H a b/\
 ¬(HT.sIx b.length 0 lo=0/\HT.sIx b.length b.length hi=b.length)/\∀p,H p=none->Q (.ref p) (af H p (.tup (aK b lo hi)))
theorem yE:By X (Cz X.K):=by
 intro p s n H x v V t lo hi S Q I R j P k h
 obtain⟨a,d,rfl,l,m,q⟩:=h
 cases R
 obtain⟨i,r,f,g⟩:=I.tuple l
 have c:i.toArray.size=d.length:=by rw[DQ];exact r.length.symm
 refine#["tuple",_,PyProof.Rows.slot_tuple_getitem.lookup,f.typeIs,?_]
 refine HT.getItem_tuple_cut f j P k (by rw[c];exact m) ?_ (by rw[c];exact g)
 rw[c]
 refine#[.ref s.heap.objs.size,_,I.laid (t':=s.toks) (o:=.tup (aK d lo hi)) (λb O q=>DI _ q) (DN _) ?_,Z,q _ (I.hok.fresh (DN _))]
 exact#[DV (zc d lo hi) g,_,(r.drop (HT.sIx d.length 0 lo)).take (HT.sIx d.length d.length hi - HT.sIx d.length 0 lo),IsTup.new _ _]
def AX(K:Frag):R2:=λx y H Q=>∃a b c Y,x= .ref a/\y= .ref b/\aA K H a c/\aA K H b Y/\c≠[]/\c.length+Y.length<=sizeLine/\
 (Y=[]->Q (.ref a) H)/\(Y≠[]->∀p,H p=none->Q (.ref p) (af H p (.tup (c++Y))))
theorem au.nil_iff(r:au x u):u=[]↔x=[]:=by
 cases r with
 |nil=>simp
 |cons _ _=>simp
theorem tV:gc X (binaryOp .Add) (AX X.K):=by
 intro p s A H x y v u Q I d f h
 obtain⟨a,b,g,Y,rfl,rfl,j,k,l,c,m,n⟩:=h
 cases d
 cases f
 obtain⟨t,R,P,_⟩:=I.tuple j
 obtain⟨i,r,p2,_⟩:=I.tuple k
 refine HT.cat_tup P p2 (λz=>l (R.nil_iff.mp z)) (λz=>#[.ref a,H,I,Z,m (r.nil_iff.mp z)]) (λz=>?_) (by rw[<- R.length,<- r.length];exact c)
 refine#[.ref s.heap.objs.size,_,I.laid (t':=s.toks) (o:=.tup (g++Y)) (λb O q=>DI _ q) (DN _) ?_,Z,n (λw=>z (r.nil_iff.mpr w)) _ (I.hok.fresh (DN _))]
 exact#[by rw[DM];exact c,_,R.append r,IsTup.new _ _]
end
noncomputable def lN(n:Nat)(i:Int):Option Nat:=if 0<=i then (if i < n then some i.toNat else none) else if -(n:Int)<=i then some (i+n).toNat else none
noncomputable def du{a:Type}(x:List a)(i:Int):Option a:=(lN x.length i).bind λj=>x[j]?
theorem Yw(h:lN n i=some j):seqIndex? i n=some j/\j < n/\ -(n:Int)<=i/\i < n:=by
 unfold lN at h
 by_cases a:0<=i
 ·rw[D0 a]at h
  by_cases H:i < n
  ·rw[D0 H]at h
   have e:i.toNat=j:=Eo h
   exact#[by rw[seqIndex_of a H,e],IM,IM,H]
  ·rw[D1 H]at h;cases h
 ·rw[D1 a]at h
  by_cases H: -(n:Int)<=i
  ·rw[D0 H]at h
   have e:(i+n).toNat=j:=Eo h
   exact#[by rw[seqIndex_neg IM H,e],IM,H,IM]
  ·rw[D1 H]at h;cases h
theorem QF{a:Type}{x:List a}{v:a}(h:du x i=some v):∃j,seqIndex? i x.length=some j/\x[j]?=some v/\j < x.length/\ -(x.length:Int)<=i/\i < x.length:=by
 unfold du at h
 cases e:lN x.length i with
 |none=>rw[e]at h;cases h
 |some j=>
  rw[e]at h
  obtain⟨H,b,c,d⟩:=Yw e
  exact#[j,H,h,b,c,d]
theorem jM{a:Type}{x:List a}{j:Nat}{v:a}(h:x[j]?=some v):du x (j:Int)=some v:=by
 have H:j < x.length:=(List.getElem?_eq_some_iff.mp h).1
 have e:lN x.length (j:Int)=some j:=by
  unfold lN
  rw[D0 IM,D0 IM];simp
 unfold du;rw[e];exact h
def sq(b:Expr):Prop:=∀o i,subscripted b false o i=operate [o,i] (getItem o i)
def Bw(X:Cx)(r:R2):Prop:=
 ∀(a S:Expr) (p:List (Addr×Obj)) (s:Shared) (b:St) (H:Hp) (x y:V) (v u:Value) (Q:VK),ao X p b H s->ax x v->ax y u->r x y H Q->
  subscripted S false v u=operate [v,u] (getItem v u)->wpAny (model X.prog X.w) X.A (subscriptTail a S v u) (EP X p b Q) X.xe s
def BU(X:Cx)(id:String)(r:V->List V->Hp->VK->Prop):Prop:=
 ∀(p:List (Addr×Obj)) (s:Shared) (a:St) (H:Hp) (x:V) (b:List V) (v:Value) (u:List Value) (Q:VK),ao X p a H s->ax x v->au b u->r x b H Q->
  wpAny (model X.prog X.w) X.A (call (.builtin id) (v::u)) (EP X p a Q) X.xe s
section
variable {X:Cx}{a b:Expr}{ta tb:TE}{pos:Pos}
theorem jr{r:R2}(c:Bw X r)(d:PE X a ta)(e:PE X b tb)(f:sq b):PE X (.Subscript a b pos) (dG r ta tb):=by
 intro p s g H Q I h
 exact Subscript_ (wz d e I h λv u S x y i j R k q=>c a b p S g i x y v u Q j R k q (f _ _))
def iq(K:Frag):R2:=λx y H Q=>∃p c i v,x= .ref p/\y= .int i/\aC K H p c/\du c i=some v/\Q v H
def fu(K:Frag):R2:=λx y H Q=>∃p c i v,x= .ref p/\y= .int i/\aA K H p c/\du c i=some v/\Q v H
def yk:R2:=λx y H Q=>∃z i c,x= .str z/\y= .int i/\z.length<=sizeLine/\du z.cps.toList i=some c/\Q (.str #[(List.toArray [c])]) H
theorem jo:Bw X (iq X.K):=by
 intro V S P s k H x y v u Q I n o h l
 obtain⟨p,L,i,z,rfl,rfl,A,B,q⟩:=h
 cases n
 obtain⟨t,rfl⟩:=o
 obtain⟨d,r,e,M⟩:=I.list A
 obtain⟨j,c,C,N,D,F⟩:=QF B
 obtain⟨w,E,R⟩:=r.get C
 have G:=r.length
 have O:=dP
 have f:EP X P k Q w s:=#[z,H,I,R,q]
 by_cases m:0<=i
 ·have g:i.toNat=j:=by
   rw[seqIndex_of m F]at c
   exact Eo c
  exact item_listR e.isList m IM (by rw[g];simpa using E) f l
 ·have g:(i+(d.toArray.size:Int)).toNat=j:=by
   rw[seqIndex_neg IM D]at c
   rw[DQ,<- G]
   exact Eo c
  exact subscriptTail_builtinR (x:=w) e.isList.typeIs slot_list_getitem.lookup
   (wpAny_getItem_list_neg (Q:=λr J=>r=w/\EP X P k Q r J) e.isList IM (by rw[DQ]<;>omega) IM (by rw[g];simpa using E) #[Z,f]) l
theorem kI:Bw X (fu X.K):=by
 intro V S P s c H x y v u Q I e g h k
 obtain⟨p,D,i,z,rfl,rfl,l,m,q⟩:=h
 cases e
 obtain⟨t,rfl⟩:=g
 obtain⟨n,r,d,F⟩:=I.tuple l
 obtain⟨j,o,A,G,J,L⟩:=QF m
 obtain⟨w,E,R⟩:=r.get A
 have B:=r.length
 have M:=dP
 have f:EP X P c Q w s:=#[z,H,I,R,q]
 exact subscriptTail_builtinR (x:=w) d.typeIs slot_tuple_getitem.lookup
  (getItem_tuple (j:=j) (Q:=λr C=>r=w/\EP X P c Q r C) d IM IM (by rw[DQ,<- B];exact o) (by simpa using E) #[Z,f]) k
theorem J9:Bw X yk:=by
 intro V S p s o H x y v u Q I r R h e
 obtain⟨z,i,c,rfl,rfl,w,f,q⟩:=h
 obtain⟨t,rfl⟩:=r
 obtain⟨T,rfl⟩:=R
 obtain⟨j,d,g,A,k,l⟩:=QF f
 have m:z.cps.toList.length=z.length:=by simp [Str.length]
 rw[m]at d k l
 have B:=dP
 exact tail_any (typeIs_str s z t) slot_str_getitem.lookup (getItem_str (c:=c) (by
  have E:decide (i < -(2 ^ 63:Int))=false:=DU IM
  have n:decide (i≥2 ^ 63)=false:=DU IM
  rw[E,n,ID]) (by rw[d];simpa using g) #[.str #[(List.toArray [c])],H,I.tok _,#[_,Z],q]) e
theorem XO(i:List Value)(n j:Nat)(u:Value):Obj.mapSeq (·.setIfInBounds j u) { cls:=.type "list",data:=.seq i.toArray n }={ cls:=.type "list",data:=.seq (i.set j u).toArray n }:=by
 simp [Obj.mapSeq]
theorem ao.lst(I:ao X c d H s)(h:H p=some (.lst x)):
  ∃(i:List Value) (n:Nat),au x i/\s.heap.get? p=some { cls:=.type "list",data:=.seq i.toArray n }/\x.length<=sizeLine:=by
 obtain⟨z,i,n,r,e⟩:=I.hok p _ h
 exact#[i,n,r,e,z]
theorem ao.lstUpd{c i:List Value}{f:Obj->Obj}(I:ao X d j H s)(h:H p=some (.lst o))
  (k:s.heap.get? p=some { cls:=.type "list",data:=.seq c.toArray n }) (g:f { cls:=.type "list",data:=.seq c.toArray n }={ cls:=.type "list",data:=.seq i.toArray N }) (r:au y i) (l:y.length<=sizeLine) (t:Nat):
  ao X d j (af H p (.lst y)) { s with heap:=s.heap.update p f,toks:=t }:=by
 have e:(s.heap.update p f).get? p=some { cls:=.type "list",data:=.seq i.toArray N }:=by
  rw[Heap.get?_update_self f k (by rw[g]<;>rfl),g]
 refine I.write (x:=p) (e:=p) (by rw[h];trivial) (.inl Z) (λb u m q=>(Heap.get?_update_other _ _ (Ne.symm m)).trans q) #[_,e] ?_
 exact#[l,i,N,r,e]
def oZ:V->V->V->Hp->(Hp->Prop)->Prop:=λo i v H Q=>∃p x k j,o= .ref p/\i= .int k/\H p=some (.lst x)/\lN x.length k=some j/\Q (af H p (.lst (x.set j v)))
theorem kU:Ae X oZ:=by
 intro P s z H o i v O F u Q I R A B h
 obtain⟨p,C,k,j,rfl,rfl,l,D,q⟩:=h
 cases R
 obtain⟨t,rfl⟩:=A
 obtain⟨c,n,r,e,E⟩:=I.lst l
 obtain⟨d,G,m,w⟩:=Yw D
 have f:=r.length
 have J:=dP
 have x:ao X P z (af H p (.lst (C.set j v))) { s with heap:=s.heap.update p (Obj.mapSeq (·.setIfInBounds j u)) }:=
  I.lstUpd l e (XO c n j u) (r.set B j) (by rw[Hr];exact E) s.toks
 by_cases y:0<=k
 ·have g:k.toNat=j:=by
   rw[seqIndex_of y w]at d
   exact Eo d
  exact PySem.W.ki_setAt e y IM (by rw[DQ,<- f];exact w) (by rw[g];exact#[_,x,q])
 ·have g:(k+(c.toArray.size:Int)).toNat=j:=by
   rw[seqIndex_neg IM m]at d
   rw[DQ,<- f]
   exact Eo d
  exact PySem.W.ki_setBack e IM (by rw[DQ,<- f];exact m) IM (by rw[g];exact#[_,x,q])
theorem QO(lo H:Option Int)(n:Nat):(sliceBounds lo H none n).1=((HT.sIx n 0 lo:Nat):Int)/\(sliceBounds lo H none n).2.1=((HT.sIx n n H:Nat):Int)/\(sliceBounds lo H none n).2.2=1:=by
 refine#[?_,?_,Z]
 ·cases lo with
  |none=>simp [sliceBounds,HT.sIx]
  |some i=>
   simp only[sliceBounds,HT.sIx,Ig,show(1:Int) > 0 by decide,Go]
   by_cases h:i < 0
   ·simp only[h,Go]<;>omega
   ·simp only[h,EN]<;>omega
 ·cases H with
  |none=>simp [sliceBounds,HT.sIx]
  |some i=>
   simp only[sliceBounds,HT.sIx,Ig,show(1:Int) > 0 by decide,Go]
   by_cases h:i < 0
   ·simp only[h,Go]<;>omega
   ·simp only[h,EN]<;>omega
theorem KH(i:List Value)(lo h:Option Int):slicePick i.toArray lo h none=((i.drop (HT.sIx i.length 0 lo)).take (HT.sIx i.length i.length h - HT.sIx i.length 0 lo)).toArray:=by
 obtain⟨H,c,d⟩:=QO lo h i.toArray.size
 unfold slicePick
 rw[H,c,d]
 simp only[sliceRange_one,pick_run,DQ]<;>rfl
def yl(K:Frag):V->Option Int->Option Int->Hp->VK->Prop:=λx lo h H Q=>∃a c,x= .ref a/\aC K H a c/\∀p,H p=none->Q (.ref p) (af H p (.lst (aK c lo h)))
theorem kf:By X (yl X.K):=by
 intro p s m H x v V n lo e S Q I R g P i h
 obtain⟨a,c,rfl,j,q⟩:=h
 cases R
 obtain⟨k,r,f,l⟩:=I.list j
 have d:=r.length
 refine#["list",_,slot_list_getitem.lookup,f.isList.typeIs,?_]
 refine wpAny_getItem_list_slice f.isList g P i .none IN ?_ (by rw[DQ]<;>omega)
 rw[KH,<- d]
 refine#[.ref s.heap.objs.size,_,I.laid (t':=s.toks) (o:=.lst (aK c lo e)) (λb O q=>DI _ q) (DN _) ?_,Z,q _ (I.hok.fresh (DN _))]
 exact#[DV (zc c lo e) l,_,0,(r.drop (HT.sIx c.length 0 lo)).take (HT.sIx c.length c.length e - HT.sIx c.length 0 lo),DP _ Z]
noncomputable def cg:V->Bool
 | .non=>true
 | .bl _=>true
 | .int _=>true
 | .str _=>true
 |_=>false
noncomputable def lE:V->V->Bool
 | .non,.non=>true
 | .bl a,.bl b=>a==b
 | .bl a,.int b=>(if a then 1 else 0)==b
 | .int a,.bl b=>a==(if b then 1 else 0)
 | .int a,.int b=>a==b
 | .str a,.str b=>a==b
 |_,_=>false
theorem ZN(R:ax y u)(r:ax x v)(F:cg y=true)(f:cg x=true):SeqAt.EqAt A s u v (lE y x):=by
 cases y with
 |non=>
  cases R
  cases x with
  |non=>cases r;exact SeqAt.EqAt.same _
  |bl b=>cases r;exact SeqAt.EqAt.none_bool b
  |int b=>obtain⟨t,rfl⟩:=r;exact SeqAt.EqAt.none_int b t
  |str b=>obtain⟨t,rfl⟩:=r;exact SeqAt.EqAt.none_str b t
  |_=>exact absurd (show false=true from f) DR
 |bl a=>
  cases R
  cases x with
  |non=>cases r;exact SeqAt.EqAt.bool_none a
  |bl b=>cases r;exact SeqAt.EqAt.bool_bool a b
  |int b=>obtain⟨t,rfl⟩:=r;exact SeqAt.EqAt.bool_int a b t
  |str b=>obtain⟨t,rfl⟩:=r;exact SeqAt.EqAt.bool_str a b t
  |_=>exact absurd (show false=true from f) DR
 |int a=>
  obtain⟨T,rfl⟩:=R
  cases x with
  |non=>cases r;exact SeqAt.EqAt.int_none a T
  |bl b=>cases r;exact SeqAt.EqAt.int_bool a T b
  |int b=>obtain⟨t,rfl⟩:=r;exact SeqAt.EqAt.int_int a T b t
  |str b=>obtain⟨t,rfl⟩:=r;exact SeqAt.EqAt.int_str a T b t
  |_=>exact absurd (show false=true from f) DR
 |str a=>
  obtain⟨T,rfl⟩:=R
  cases x with
  |non=>cases r;exact SeqAt.EqAt.str_none a T
  |bl b=>cases r;exact SeqAt.EqAt.str_bool a T b
  |int b=>obtain⟨t,rfl⟩:=r;exact SeqAt.EqAt.str_int a T b t
  |str b=>obtain⟨t,rfl⟩:=r;exact SeqAt.EqAt.str_str a T b t
  |_=>exact absurd (show false=true from f) DR
 |_=>exact absurd (show false=true from F) DR
noncomputable def lM(x:V)(u:Value):Bool:=match u with
 | .none=>lE .non x
 | .bool b=>lE (.bl b) x
 | .int i _=>lE (.int i) x
 | .str z _=>lE (.str z) x
 |_=>false
theorem ZO(r:ax y u)(f:cg y=true):lM x u=lE y x:=by
 cases y with
 |non=>cases r;rfl
 |bl b=>cases r;rfl
 |int i=>obtain⟨t,rfl⟩:=r;rfl
 |str z=>obtain⟨t,rfl⟩:=r;rfl
 |_=>exact absurd (show false=true from f) DR
theorem qQ:∀{c:List V} {U:List Value},au c U->c.all cg=true->U.any (lM x)=c.any λy=>lE y x
 |_,_,.nil,_=>rfl
 |y::c,u::U,.cons r t,f=>by
  rw[IC,EM]at f
  rw[GX,GX,ZO r f.1,qQ t f.2]
theorem qh(R:ax x v)(F:cg x=true):∀{c:List V} {U:List Value},au c U->c.all cg=true->∀u∈U,SeqAt.EqAt A s u v (lM x u)
 |_,_,.nil,_=>λu hu=>by cases hu
 |y::c,u::U,.cons r t,f=>λd hu=>by
  rw[IC,EM]at f
  rcases List.mem_cons.mp hu with rfl |hu
  ·rw[ZO r f.1];exact ZN r R f.1 F
  ·exact qh R F t f.2 d hu
noncomputable def mx(x:V)(c:List V):Bool:=c.any λy=>lE y x
def BJ(K:Frag)(n:Bool):R2:=λx y H Q=>∃p c,y= .ref p/\(aC K H p c∨aA K H p c)/\cg x=true/\c.all cg=true/\Q (.bl (if n then !mx x c else mx x c)) H
theorem zh:gc X (compareOp .In) (BJ X.K false):=by
 intro d s j H x y v u Q I R e h
 obtain⟨p,k,rfl,hq,F,f,q⟩:=h
 cases e
 rcases hq with hq |hq
 ·obtain⟨i,r,P,g⟩:=I.list hq
  refine SeqAt.in_listAt (lM x) P.isList (λw c=>qh R F r f w (by simpa using c)) #[.bl _,H,I,Z,?_]
  rw[show i.toArray.any (lM x)=i.any (lM x) by simp,qQ r f]
  exact q
 ·obtain⟨i,r,P,g⟩:=I.tuple hq
  refine SeqAt.in_tupleAt (lM x) P (λw c=>qh R F r f w (by simpa using c)) #[.bl _,H,I,Z,?_]
  rw[show i.toArray.any (lM x)=i.any (lM x) by simp,qQ r f]
  exact q
theorem Jb:gc X (compareOp .NotIn) (BJ X.K true):=by
 intro d s j H x y v u Q I R e h
 obtain⟨p,k,rfl,hq,F,f,q⟩:=h
 cases e
 rcases hq with hq |hq
 ·obtain⟨i,r,P,g⟩:=I.list hq
  refine SeqAt.notIn_listAt (lM x) P.isList (λw c=>qh R F r f w (by simpa using c)) #[.bl _,H,I,Z,?_]
  rw[show i.toArray.any (lM x)=i.any (lM x) by simp,qQ r f]
  exact q
 ·obtain⟨i,r,P,g⟩:=I.tuple hq
  refine SeqAt.notIn_tupleAt (lM x) P (λw c=>qh R F r f w (by simpa using c)) #[.bl _,H,I,Z,?_]
  rw[show i.toArray.any (lM x)=i.any (lM x) by simp,qQ r f]
  exact q
theorem jK:dB X (.builtin "len") (λx H Q=>∃p y,x=[.ref p]/\(aC X.K H p y∨aA X.K H p y)/\Q (.int y.length) H):=by
 intro d s g H x U Q I r h
 obtain⟨p,y,rfl,hq,q⟩:=h
 obtain⟨u,rfl,e⟩:=dW r
 cases e
 have j:=dP
 rcases hq with hq |hq
 ·obtain⟨i,R,P,f⟩:=I.list hq
  have c:=R.length
  exact Calls.call_len_list P.isList (by simp only[DQ]<;>omega) #[.int y.length,H,I.tok _,#[s.toks+1,by rw[DQ,c]],q]
 ·obtain⟨i,R,P,f⟩:=I.tuple hq
  have c:=R.length
  exact len_tuple P (by simp only[DQ]<;>omega) #[.int y.length,H,I.tok _,#[s.toks+1,by rw[DQ,c]],q]
theorem Jc:dB X (.type "list") (λx H Q=>∃p y,x=[.ref p]/\(aC X.K H p y∨aA X.K H p y)/\∀l,H l=none->Q (.ref l) (af H l (.lst y))):=by
 intro P s z H x U Q I r h
 obtain⟨p,y,rfl,hq,q⟩:=h
 obtain⟨u,rfl,A⟩:=dW r
 cases A
 have f:∀(i:List Value),au y i->y.length<=sizeLine->∀(c:Heap) (C:Nat),(∀b O,s.heap.get? b=some O->c.get? b=some O)->
   c.get? s.heap.objs.size=some { cls:=.type "list",dict:=none,data:=.seq i.toArray C,slots:=(List.toArray []) }->EP X P z Q (.ref s.heap.objs.size) { s with heap:=c }:=λi R d c C k e=>
  #[.ref s.heap.objs.size,_,I.laid (t':=s.toks) k (DN _) (show aG X.prog X.w _ c _ (.lst y) from #[d,i,C,R,e]),Z,q _ (I.hok.fresh (DN _))]
 rcases hq with hq |hq
 ·obtain⟨i,R,j,d⟩:=I.list hq
  have g:=R.length
  obtain⟨o,m,t,n,v⟩:=j.isList
  exact call_list_seq p (.inl Z) m t v (λc C k e=>f i R d c C k e) (by simp only[DQ]<;>omega)
 ·obtain⟨i,R,j,d⟩:=I.tuple hq
  have g:=R.length
  obtain⟨o,m,t,n,v⟩:=j
  exact call_list_seq p (.inr Z) m t v (λc C k e=>f i R d c C k e) (by simp only[DQ]<;>omega)
theorem jB:dB X (.type "tuple") (λx H Q=>∃p y,x=[.ref p]/\((aC X.K H p y/\∀l,H l=none->Q (.ref l) (af H l (.tup y)))∨(aA X.K H p y/\Q (.ref p) H))):=by
 intro P s g H x U Q I r h
 obtain⟨p,y,rfl,h⟩:=h
 obtain⟨u,rfl,n⟩:=dW r
 cases n
 rcases h with ⟨d,q⟩ | ⟨d,q⟩
 ·obtain⟨i,R,f,j⟩:=I.list d
  have k:=R.length
  refine call_tuple_list f.isList (λc t=>?_) (by simp only[DQ]<;>omega)
  have m:ao X P g H { s with heap:=c }:=I.kept (t':=s.toks) t
  have v:ao X P g (af H c.objs.size (.tup y)) { s with heap:=c.push { cls:=.type "tuple",data:=.seq i.toArray } }:=
   m.laid (t':=s.toks) (λb o e=>DI _ e) (DN _) (show aG X.prog X.w _ _ _ (.tup y) from #[j,i,R,IsTup.new _ _])
  exact#[.ref c.objs.size,_,v,Z,q _ (m.hok.fresh (DN _))]
 ·obtain⟨i,R,f,j⟩:=I.tuple d
  exact call_tuple_same f #[.ref p,H,I,Z,q]
def CW(K:Frag)(T:String)(x:V)(H:Hp):Prop:=match x with
 | .str _=>T="str"
 | .int _=>T="int"
 | .ref p=>(T="list"/\∃c,aC K H p c)∨(T="tuple"/\∃o,K.lookup p=some o/\o.cls= .type "tuple"/\o.dict=none)∨
   (T="dict"/\((∃k,H p=some (.dK k))∨∃k,H p=some (.dT k)))∨(T="set"/\∃S n,H p=some (.set S n))
 |_=>False
theorem ZP(I:ao X j u H s)(r:ax x v)(d:CW X.K T x H):
  s.TypeIs v T/\∀a,v= .ref a->∃O,s.heap.get? a=some O/\O.dict=none:=by
 cases x with
 |str z=>
  obtain⟨t,rfl⟩:=r
  cases (show T="str" from d)
  exact#[typeIs_str s z t,λ_ e=>nomatch e]
 |int i=>
  obtain⟨t,rfl⟩:=r
  cases (show T="int" from d)
  exact#[typeIs_int s i t,λ_ e=>nomatch e]
 |ref p=>
  cases r
  rcases d with ⟨rfl,w,l⟩ | ⟨rfl,o,h,m,f⟩ | ⟨rfl,h⟩ | ⟨rfl,S,n,h⟩
  ·obtain⟨q,_,P,_⟩:=I.list l
   refine#[P.isList.typeIs,λa e=>?_]
   cases e
   obtain⟨o,n,e,c,f,_⟩:=P
   exact#[o,e,f]
  ·refine#[#[o,I.kIn p o h,m],λa e=>?_]
   cases e
   exact#[o,I.kIn _ o h,f]
  ·have z:∃o,s.heap.get? p=some o/\o.ExactDict:=by
    rcases h with ⟨k,h⟩ | ⟨k,h⟩
    ·obtain⟨_,_,_,_,o,_,_,e,E,_⟩:=I.hok p _ h
     exact#[o,e,E]
    ·obtain⟨_,_,_,_,o,_,_,e,E,_⟩:=I.hok p _ h
     exact#[o,e,E]
   obtain⟨o,e,E⟩:=z
   refine#[#[o,e,E.1],λa g=>?_]
   cases g
   exact#[o,e,E.2.1]
  ·obtain⟨o,_,_,_,e,E,_⟩:=I.hok p _ h
   refine#[#[o,e,E.1],λa g=>?_]
   cases g
   exact#[o,e,E.2.1]
 |_=>exact False.elim d
def CP(K:Frag)(T:String)(r:V->List V->Hp->VK->Prop)(t:TE):TE:=λc H Q=>t c H λx h=>CW K T x h/\r x [] h Q
def CO(K:Frag)(T:String)(r:V->List V->Hp->VK->Prop)(d:TE)(t:TA):TE:=λc H Q=>d c H λx h=>CW K T x h/\t c h λe f=>r x e f Q
variable {o e:Expr}{es:List Expr}{to:TE}{t:TA}{name:Str}{apos cpos:Pos}{T id:String}{r:V->List V->Hp->VK->Prop}
theorem yc(P:PlainAttrs T)(S:Slot T name id)(f:typeOf (.builtin id)=pure (.type "method_descriptor"))(j:BU X id r)(k:PE X o to)
  (c:attributeBase o name X.env (eval o X.env)=eval o X.env:=by rfl) (d:(apos.endLine==cpos.line)=true:=by rfl):PE X (.Call (.Attribute o name apos) [] [] cpos) (CP X.K T r to):=by
 intro p s g H Q I h
 refine wpAny_Call_method0_late c d (aO (k p s g H _ I h) λv l z=>?_)
 obtain⟨x,m,i,R,n,q⟩:=z
 obtain⟨u,w⟩:=ZP i R n
 exact#[T,id,P,S,f,u,w,GG Z (PySem.evalArgs_none (j p l g m x [] v [] Q i R .nil q))]
theorem kK(P:PlainAttrs T)(S:Slot T name id)(i:typeOf (.builtin id)=pure (.type "method_descriptor"))(m:BU X id r)(n:PE X o to)(q:PA X (e::es) t)
  (d:attributeBase o name X.env (eval o X.env)=eval o X.env:=by rfl)
  (g:((backTo cpos (starEach (e::es) X.env)).all (λx=>!x.1)&&(backToKw cpos (keywordEach [] X.env)).all (λx=>x.1.isSome)
   &&decide ((e::es).length+([]:List Keyword).length+(if ([]:List Keyword).isEmpty then 0 else 1) < 30))=true:=by rfl)
  (f:(apos.endLine==cpos.line)=true:=by rfl) (u:starEach (e::es) X.env=(false,eval e X.env)::starEach es X.env:=by rfl) (c:(backTo cpos (starEach es X.env)).any (·.1)=false:=by rfl):
  PE X (.Call (.Attribute o name apos) (e::es) [] cpos) (CO X.K T r to t):=by
 intro p s j H Q I h
 refine wpAny_Call_method_late d g f Z (aO (n p s j H _ I h) λv w z=>?_)
 obtain⟨x,y,k,R,A,B⟩:=z
 obtain⟨C,D⟩:=ZP k R A
 refine#[T,id,P,S,i,C,D,?_]
 have l:=q cpos p w j y _ k B
 rw[u]at l ⊢
 refine GG (by show(false||(backTo cpos (starEach es X.env)).any (·.1))=false;rw[c]<;>rfl) (HZ ?_)
 exact aO l λU E #[F,G,J,L,M]=>m p E j G x F v U Q J R L M
end
def Bx(X:Cx)(id:String)(r:V->List V->Hp->VK->Prop):Prop:=
 ∀(p:List (Addr×Obj)) (s:Shared) (a:St) (H:Hp) (x:V) (b:List V) (v:Value) (u:List Value) (Q:VK),ao X p a H s->ax x v->au b u->r x b H Q->
  wpAny (model X.prog X.w) X.A (call (.builtin id) (v::u)) (EP X p a Q) X.xe s
theorem au.one:∀{x:V} {U:List Value},au [x] U->∃u,U=[u]/\ax x u
 |_,_,.cons r .nil=>#[_,Z,r]
theorem au.zero:∀{u:List Value},au [] u->u=[]
 |_,.nil=>rfl
theorem au.dropLast(h:au x u):au x.dropLast u.dropLast:=by
 induction h with
 |nil=>exact .nil
 |cons r t i=>
  cases t with
  |nil=>exact .nil
  |cons q T=>exact .cons r i
theorem au.reverse(h:au x u):au x.reverse u.reverse:=by
 induction h with
 |nil=>exact .nil
 |cons r t i=>rw[GN,GN];exact au.append i (.cons r .nil)
theorem XQ{c:Type}(l:List c):l.eraseIdx (l.length - 1)=l.dropLast:=by
 induction l with
 |nil=>rfl
 |cons a r i=>
  cases r with
  |nil=>rfl
  |cons b r=>
   have e:(a::b::r).length - 1=((b::r).length - 1)+1:=by
    have h:(a::b::r).length=r.length+2:=rfl
    have H:(b::r).length=r.length+1:=rfl
    omega
   rw[e,List.eraseIdx_cons_succ,i]
   all_goals rfl
section
variable {X:Cx}{pins:List (Addr×Obj)}{σ:St}{H:Hp}{s:Shared}{l b:Addr}{xs ys zs:List V}
theorem ao.lset{i its':List Value}{f:Array Value->Array Value}{t':Nat}(I:ao X pins σ H s)(h:H l=some (.lst xs))
  (e:s.heap.get? l=some { cls:=.type "list",data:=.seq i.toArray n }) (a:f i.toArray=its'.toArray) (c:au ys its') (d:ys.length<=sizeLine):
  ao X pins σ (af H l (.lst ys)) { s with heap:=s.heap.update l (Obj.mapSeq f),toks:=t' }:=by
 have q:=PySem.IsL.update e f
 rw[a]at q
 refine I.write (x:=l) (e:=l) (by rw[h];exact Eh) (.inl Z) (λB u g j=>(DY s.heap (Obj.mapSeq f) (Eg g)).trans j) #[_,q] ?_
 exact#[d,its',_,c,q]
theorem ao.lnew{t':Nat}(I:ao X pins σ H s)(h:au ys i)(a:ys.length<=sizeLine):
  ao X pins σ (af H s.heap.objs.size (.lst ys)) { s with heap:=s.heap.push { cls:=.type "list",data:=.seq i.toArray },toks:=t' }:=
 I.laid (λ_ _ q=>DI _ q) (DN _) #[a,i,0,h,DP _ Z]
theorem ao.fresh(I:ao X pins σ H s):H s.heap.objs.size=none:=I.hok.fresh (DN _)
theorem ao.lstM(I:ao X pins σ H s)(h:H l=some (.lst xs)):xs.length<=sizeLine/\∃(i:List Value) (n:Nat),au xs i/\xs.length=i.length/\s.heap.get? l=some { cls:=.type "list",data:=.seq i.toArray n }:=by
 obtain⟨z,i,n,r,e⟩:=I.hok l _ h
 exact#[z,i,n,r,r.length,e]
theorem eX(h:n<=sizeLine):Builtin.List.listTooLong n=false:=by
 unfold Builtin.List.listTooLong
 exact DU IM
end
section
variable {X:Cx}
def mz:V->List V->Hp->VK->Prop:=λx v H Q=>∃l a y,x= .ref l/\v=[y]/\H l=some (.lst a)/\a.length < sizeLine/\Q .non (af H l (.lst (a++[y])))
theorem jN:Bx X "list.append" mz:=by
 intro p s d H x V v U Q I R b h
 obtain⟨l,f,y,rfl,rfl,a,g,q⟩:=h
 cases R
 obtain⟨u,rfl,c⟩:=b.one
 obtain⟨z,i,n,r,j,e⟩:=I.lstM a
 refine Ih F.slot_list_append #[_,e,Z] F.entry_list_append (F.args_list_append_2 _ _) (PySem.list_append l i.toArray n u (by rw[DQ];omega)) #[e,?_]
 refine#[.non,_,I.lset (its':=i++[u]) a e IN (r.append (.cons c .nil)) ?_,Z,q]
 rw[DM,FN]
 omega
def uk:V->List V->Hp->VK->Prop:=λx v H Q=>∃l b a z,x= .ref l/\v=[.ref b]/\H l=some (.lst a)/\H b=some (.lst z)/\a.length+z.length<=sizeLine/\Q .non (af H l (.lst (a++z)))
theorem Qc:Bx X "list.extend" uk:=by
 intro p s t H x V v U Q I R g h
 obtain⟨l,b,w,y,rfl,rfl,f,j,A,q⟩:=h
 cases R
 obtain⟨u,rfl,k⟩:=g.one
 cases k
 obtain⟨z,a,n,r,B,e⟩:=I.lstM f
 obtain⟨C,i,N,m,o,E⟩:=I.lstM j
 have d:a.toArray.size+i.toArray.size<=sizeLine:=by rw[DQ,DQ];omega
 have c:¬(!a.toArray.isEmpty&&Builtin.List.listTooLong (a.toArray.size+i.toArray.size))=true:=by
  rw[eX d,Iw]
  exact DR
 refine Ih F.slot_list_extend #[_,e,Z] F.entry_list_extend (F.args_list_extend_2 _ _)
  (AutoSeq1.list_extend_list_list_0 l a.toArray n b i.toArray N c (by rw[DQ];omega) IM) #[e,E,?_]
 refine#[.non,_,I.lset (its':=a++i) f e IN (r.append m) ?_,Z,q]
 rw[DM]
 omega
def Cy:V->List V->Hp->VK->Prop:=λx v H Q=>∃l a y,x= .ref l/\v=[]/\H l=some (.lst a)/\a[a.length - 1]?=some y/\Q y (af H l (.lst a.dropLast))
theorem wY:Bx X "list.pop" Cy:=by
 intro p s m H x V v U Q I R d h
 obtain⟨l,o,y,rfl,rfl,c,f,q⟩:=h
 cases R
 have a:=d.zero
 subst a
 obtain⟨z,i,n,r,g,e⟩:=I.lstM c
 obtain⟨u,j,k⟩:=r.get f
 have b:i.toArray[i.toArray.size - 1]?=some u:=by
  show i.toArray[i.length - 1]?=some u
  rw[<- Fc,<- g]
  exact j
 refine Ih F.slot_list_pop #[_,e,Z] F.entry_list_pop (F.args_list_pop_1 _) (MeetsSeq.list_pop_last l i.toArray n u b (by rw[DQ];omega)) #[e,?_]
 refine#[y,_,I.lset (its':=i.dropLast) c e ?_ r.dropLast ?_,k,q]
 ·show i.toArray.eraseIdxIfInBounds (i.toArray.size - 1)=i.dropLast.toArray
  rw[DQ,List.eraseIdxIfInBounds_toArray,XQ]
 ·rw[List.length_dropLast]
  omega
def yj:R2:=λx y H Q=>∃l b a z,x= .ref l/\y= .ref b/\H l=some (.lst a)/\H b=some (.lst z)/\a.length+z.length<=sizeLine/\∀p,H p=none->Q (.ref p) (af H p (.lst (a++z)))
theorem qg:gc X (binaryOp .Add) yj:=by
 intro p s m H x y v u Q I R c h
 obtain⟨l,b,o,t,rfl,rfl,d,f,w,q⟩:=h
 cases R
 cases c
 obtain⟨z,a,n,r,A,e⟩:=I.lstM d
 obtain⟨B,i,N,g,j,E⟩:=I.lstM f
 refine PySem.P.add_list e E ?_ (by rw[DQ,DQ];omega)
 have k:a.toArray++i.toArray=(a++i).toArray:=by simp
 rw[k]
 exact#[.ref _,_,I.lnew (t':=s.toks) (r.append g) (by rw[DM];omega),Z,q _ I.fresh]
end
section
variable {prog:Program}{w:World}{A:Around}{E:Value->Shared->Prop}{s:Shared}
theorem Y1(i I : List Value)(a c : Nat) : i.toArray.extract 0 a ++ I.toArray ++ i.toArray.extract c i.toArray.size = (i.take a ++ I ++ i.drop c).toArray := by
  apply Array.toList_inj.mp
  first
    | (simp
       exact Fk IN)
    | simp [Fk]
    | simp
theorem XS{a c n:Nat}(hac:a<=c)(hc:c<=n):sliceBounds (some (a:Int)) (some (c:Int)) none n=((a:Int),(c:Int),1):=by
 simp only[sliceBounds,Ig]
 have h1:¬((a:Int) < 0):=by omega
 have h2:¬((c:Int) < 0):=by omega
 simp only[h1,h2,EN,show(1:Int) > 0 by decide,Go]
 congr 1
 ·omega
 ·congr 1;omega
set_option maxRecDepth 100000 in
theorem KI{a c : Nat}{Q : Unit -> Shared -> Prop}
    (e : s.heap.get? l = some { cls := .type "list", data := .seq i n }) (y : s.heap.get? b = some { cls := .type "list", data := .seq N I }) (q : l ≠ b)
    (C : s.heap.IsSliceOf p z B .none) (P : IsPart z (some (a : Int))) (D : IsPart B (some (c : Int))) (r : a <= c) (F : c <= i.size)
    (f : i.size + N.size <= sizeLine) (h : Q () { s with heap := s.heap.update l (Obj.mapSeq λX => X.extract 0 a ++ N ++ X.extract c X.size) }) :
    wpAny (model prog w) A (setItem (.ref l) (.ref p) (.ref b)) Q E s := by
  have t : s.heap.IsList l i := PySem.IsL.isList e
  have G : s.heap.IsList b N := PySem.IsL.isList y
  obtain ⟨os, d, u, g⟩ := id C
  have k : s.TypeIs (.ref p) "slice" := #[os, d, u]
  have j : ¬ ((rawPart none == rawInt 0) = true) := DR
  have H : Builtin.List.listSameRef (.ref l) (.ref b) = false := by
    unfold Builtin.List.listSameRef
    exact beq_eq_false_iff_ne.mpr q
  have o : (max (a : Int) (c : Int)).toNat = c := by omega
  have v : ((λX : Array Value => X.extract 0 a ++ N ++ X.extract c X.size) i).size <= sizeLine + 1 := by
    simp only [Ia, Array.size_extract]
    omega
  unfold setItem
  try with_reducible refine D8 ?_
  first | refine DG (DH ?_) | skip
  refine DG (Iq t.typeIs IL ?_)
  refine DG (Ek (name := Str.ofString "__setitem__") t.typeIs slot_list_setitem
    (Ep slot_list_setitem t.typeIs entry_list_setitem ?_ (args_list_setitem _ _ _)))
  show wpAny _ _ (Builtin.List.listSubscript? (.ref p) >>= _) _ _ s
  refine DG ?_
  unfold Builtin.List.listSubscript?
  refine DG (Fo k slice_no_index ?_)
  simp only [Option.isNone_none, Go]
  refine DH ?_
  show wpAny _ _ (typeOf (.ref p) >>= _) _ _ s
  refine DG (Ft k ?_)
  first
    | rw [D1 IL]
    | refine HN IL ?_
  rw [listSliceParts_eq]
  refine DG (DG (D7 d g (x := .none) Z (DG (wpAny_listPart .none ?_))))
  rw [D1 j]
  refine DG (D7 d g (x := z) Z (DG (wpAny_listPart P ?_)))
  refine DG (D7 d g (x := B) Z (DG (wpAny_listPart D (DH ?_))))
  first
    | simp only [H, DT, EN]
    | refine HN H ?_
    | (dsimp only
       rw [D1 (by rw [H]; exact DR)])
  refine DG (m := Builtin.List.listAllItems (.ref b) "must assign iterable to extended slice") ?_
  unfold Builtin.List.listAllItems
  refine DG (Ft G.typeIs ?_)
  first
    | refine PySem.W.KFB.if_so IL ?_
    | rw [D0 IL]
    | simp only [beq_self_eq_true, Bool.true_or, Go]
  unfold Builtin.List.listItems
  refine DG (EB y Z (DH ?_))
  refine DG (DG (EB e Z (DH ?_)))
  refine DG (Hl ((sliceIndices_raw (some (a : Int)) (some (c : Int)) none i.size IN).trans (EO (pure : Int × Int × Int -> Sem (Int × Int × Int)) (XS r F))) ?_)
  show wpAny _ _ (if ((1 : Int) == 1) = true then _ else _) _ _ s
  rw [D0 IL]
  refine DG (Fy ?_)
  first
    | simp only [eX f, DT, EN]
    | refine HN (eX f) ?_
  first | refine DG (DH ?_) | skip
  show wpAny _ _ (updateSeq l (λX => X.extract 0 ((a : Int)).toNat ++ N ++ X.extract (max (a : Int) (c : Int)).toNat X.size) >>= _) _ _ s
  rw [o, EA]
  refine DG (HL (hz := DV (FH _ _) f) (_hz' := v) e Z ?_)
  refine DG (wpAny_letGo ?_)
  first
    | exact DG (DH (DH #[.none, Z, DH h]))
    | exact DH #[.none, Z, DH h]
end
section
variable {X:Cx}
theorem Y2{Q:Unit->Shared->Prop}(I:ao X p o H s)
  (k:H l=some (.lst x)) (q:H b=some (.lst y)) (f:l≠b) (t:s.heap.IsSliceOf u v B .none) (R:ax (.int a) v) (D:ax (.int c) B) (m:0<=a) (g:a<=c) (J:c<=x.length)
  (K:x.length+y.length<=sizeLine) (h:∀S,ao X p o (af H l (.lst (x.take a.toNat++y++x.drop c.toNat))) S->Q () S):
  wpAny (model X.prog X.w) X.A (setItem (.ref l) (.ref u) (.ref b)) Q X.xe s:=by
 obtain⟨T,rfl⟩:=R
 obtain⟨L,rfl⟩:=D
 obtain⟨z,d,n,r,M,e⟩:=I.lstM k
 obtain⟨N,i,O,E,F,G⟩:=I.lstM q
 obtain⟨j,rfl⟩:=IK m
 obtain⟨C,rfl⟩:=IK (Int.le_trans m g)
 simp only[EA]at h
 refine KI (a:=j) (c:=C) e G f t (.int _ _) (.int _ _) IM (by rw[DQ];omega) (by rw[DQ,DQ];omega) (h _ ?_)
 refine I.lset (its':=d.take j++i++d.drop C) (t':=s.toks) k e ?_ (au.append (au.append (r.take _) E) (r.drop _)) ?_
 ·exact Y1 d i j C
 ·rw[DM,DM,Ec,Fp]
  omega
end
end L2
namespace Att
open PySem PySem.W PySem.Calls PyProof.Rows
theorem JG{P:Params}:∀(N:List Int) (v:List Value),WellAll P h v (N.map WData.int)->IntsAre v N:=by
 intro N
 induction N with
 |nil=>
  intro v w
  rw[List.map_nil]at w
  cases w
  exact .nil
 |cons n N i=>
  intro v w
  rw[ES]at w
  cases w with
  |cons a b=>
   cases a
   exact .cons _ _ (i _ b)
theorem Y3{l:OpenLaw}(k:l.most=some n){P:Params}
  (H:l.row.toRowW.claim.pre args=true) (g:WellAll P h v args):
  ∃a V N,v=[Value.ref a]/\args=[WData.list (N.map WData.int)]/\h.get? a=some { cls:=.type "list",data:=.seq V.toArray }/\IntsAre V N/\N.length<=n:=by
 have i:WShape.hasAll [] args [.list .int]=true:=(pre_splitW H).1
 have j:l.pre.holds [] { args:=args }=true:=(pre_splitW H).2
 obtain⟨d,r,rfl,m,o⟩:=hasAllW_cons i
 obtain rfl:=hasAllW_nil o
 obtain⟨x,rfl,p⟩:=hasW_list m
 obtain⟨N,rfl⟩:=items_int p
 have b:N.length<=n:=by
  unfold OpenLaw.pre at j
  have e:(WTm.not (.lt (.lit (.int (n:Int))) (.len (.arg 0)))).holds [] { args:=[.list (N.map .int)] }=true:=by
   have e:=(holds_andW j).1
   rw[k]at e
   exact e
  have f:=condW_of e (w_not (w_lt w_lit (w_len_list (w_arg Z))))
  rw[DK]at f
  refine Nat.le_of_not_lt λq=>?_
  have Q:(n:Int) < ((N.length:Nat):Int):=by omega
  first
   | (rw[Ea Q]at f;exact absurd f IL)
   | (simp at f;omega)
 cases g with
 |cons w W=>
  cases W
  cases w with
  |list s c=>exact#[_,_,N,Z,Z,s,JG N _ c,b]
theorem Y4(l:OpenLaw)(args:List WData):l.row.toRowW.claim.post args (.bool true) args=true:=
 postW_of (r:=l.row.toRowW) (X:=(true==true))
  (show WShape.has [] (.bool true) .bool=true by first |rfl |decide |simp [WShape.has,WShape.arms,WShape.armsAll])
  (show(WTm.eq .res (.lit (.bool true))).value [] { args:=args,res:=some (.bool true),after:=args }=some (.bool (true==true)) from w_eq_bool (w_res Z) w_lit) Z
theorem attach_call{l:OpenLaw}{y:World->Heap->Prop}{d:DefRec}
  (x:l.most=some n) (g:d.params.defaults=[])
  (call:∀(w:World) (S s:Shared) (m M:Str->Option Value) (F:Addr) (o:Obj) (p C D:Value) (a:Addr) (v:List Value) (N:List Int),
   Ground q L [] z w S m M s.heap->y w s.heap->
   s.heap.get? F=some o->o.data= .func (docDef d.name d.params d.body d.scope p C D)->s.heap.CodeRec C d.name->m d.name=some (.ref F)->
   s.heap.get? a=some { cls:=.type "list",data:=.seq v.toArray }->IntsAre v N->N.length<=n->s.gens=(List.toArray [])->
   codeAny (model l.prog w) callerA (.call (.ref F) #[[.ref a],[]]) (λr e=>r= .ok (.ret (.bool true))/\OldK s.heap e.heap/\e.os=s.os/\AllBare e.gens) s):
  WalkO q L z y l.row.toRowW d [] (λf v=>PySem.call f v):=by
 intro w S s m M G Y F o p C D B kV E I i t j J A V W H u K k O
 obtain rfl:B= .none:=Dflts.none t g
 obtain rfl:kV= .none:=Dflts.noKw t
 obtain⟨a,v,N,rfl,rfl,b,h,c⟩:=Y3 x H k
 refine enter_call (Gg (call w S s m M F o p C D a v N G Y E (fd_plain I) i j b h c J) λr e P=>?_)
 obtain⟨rfl,Q,R,T⟩:=P
 exact#[.inl #[.bool true,.bool true,[],Z,λ_=>Z,.bool true,Y4 l _,λ_=>#[List.Pairwise.nil,λ_ U=>(nomatch U)]],Q,R,T]
end Att
namespace L2
open PySem PySem.Spec PyProof.Rows
theorem Qd:∀{v:List Value} {N:List Int},IntsAre v N->au (N.map V.int) v
 |_,_,.nil=>.nil
 |_,_,.cons n t h=>.cons #[t,Z] (Qd h)
def wj(H:Hp):Prop:=∀b,H b=none∨∃o x,H b=some (.frz o (.lst x))
theorem ot{P:Program}{K:Frag}{S:Shared}{i:List Value}
  (Y:K.In S.heap) (l:S.heap.Ns mainGlobals M) (c:S.heap.Ns builtinsNs mb) (Q:∀x:Str,x≠"__name__"->mb x=bootBuiltins x) (p:S.heap.NoLimit) (hg:S.gens=(List.toArray []))
  (J:S.heap.get? a=some { cls:=.type "list",data:=.seq i.toArray }) (hi:IntsAre i O) (hl:O.length<=sizeLine) (hr:bo k callerA)
  (F:∀f:Heap,K.In f->f.Ns mainGlobals M->aj P w K M f CX k fa fd [x] sp) (j:∀(s:Shared) (u:Value),BindsTo s fd #[[u],[]] [(x,u)])
  (R:∀H:Hp,wj H->aC K H a (O.map V.int)->sp [.ref a] H (λv _=>v= .bl true) λ_ _ _=>False)
  (T:∀H e g,CX [] H S (λ_ _ _=>False) e g->False):
  codeAny (model P w) callerA (.call (.ref fa) #[[.ref a],[]]) (λr g=>r= .ok (.ret (.bool true))/\OldK S.heap g.heap/\g.os=S.os/\AllBare g.gens) S:=by
 have rv:=Qd hi
 have L:=hi.length
 have C:∀H:Hp,wj H->aC K H a (O.map V.int)->el P w H S.heap->(∀b,H b≠none->b=a)->(H a≠none->K.lookup a=none)->
   codeAny (model P w) callerA (.call (.ref fa) #[[.ref a],[]]) (λr g=>r= .ok (.ret (.bool true))/\OldK S.heap g.heap/\g.os=S.os/\AllBare g.gens) S:=by
  intro H hO hS t hA hK
  have B:∀{b:Addr} {o:Obj},S.heap.get? b=some o->H b=none->(im S.heap H).get? b=some o:=λe n=>on e n
  have U:∀{b:Addr} {o:Obj} {E:Array DictEntry} {y:Nat},S.heap.get? b=some o->o.data= .dict E y->H b=none:=λ{b o E y} e d=>by
   cases q:H b with
   |none=>rfl
   |some u=>
    have W:b=a:=hA b (by rw[q];simp)
    subst W
    rw[J]at e;cases e
    have d':Data.seq i.toArray _=Data.dict E y:=d
    cases d'
  have N:∀{b:Addr} {m:Str->Option Value},S.heap.Ns b m->(im S.heap H).Ns b m:=λ{b m} #[o,E,y,e,d,r]=>#[o,E,y,B e (U e d),d,r]
  have A:K.In (im S.heap H):=λb o e=>B (Y b o e) (by
   cases q:H b with
   |none=>rfl
   |some u=>
    have W:b=a:=hA b (by rw[q];simp)
    subst W
    rw[hK (by rw[q];simp)]at e;cases e)
  have hM:Mod K M (im S.heap H):=#[A,N l,#[mb,N c,Q],let #[mc,h1,h2]:=p;#[mc,N h1,h2]]
  have e0:lG P w K M (im S.heap H) callerA [] S H:=#[Z,hM,λb o e=>tq e,Hh (YT _ _),Eh,λb c=>absurd (show b∈([]:List Addr) from c) IN,t,.of_eq hg]
  refine Gg ((F _ A (N l)).run callerA [] S H #[[.ref a],[]] [.ref a] [.ref a] _ _ hr e0 (j S (.ref a)) (.cons Z .nil) (R H hO hS)) λr g h=>?_
  cases r with
  |error e=>exact(T H e g h).elim
  |ok fl=>
   cases fl with
   |next=>exact False.elim h
   |brk=>exact False.elim h
   |cont=>exact False.elim h
   |ret u=>
    obtain⟨v,H',os,D,un,G,r',q⟩:=h
    have q':v= .bl true:=q
    subst q'
    obtain rfl:u=Value.bool true:=r'
    refine#[Z,OldK.of_keep λb o e=>?_,os,D]
    cases q:H b with
    |none=>exact un.keep b o e q (by intro z;exact absurd (show b∈([]:List Addr) from z) IN) IN
    |some u=>
     rcases hO b with z | ⟨ob,xs,z⟩
     ·rw[q]at z;cases z
     ·have z2:=un.frzs b ob _ z
      obtain⟨e1,_⟩:=t b _ z
      obtain⟨e2,_⟩:=G b _ z2
      rw[e]at e1;cases e1
      exact e2
 cases X:K.lookup a with
 |some o=>
  have e:=Y a o X
  rw[J]at e
  cases e
  refine C (λ_=>none) (λ_=>.inl Z) (.inr #[_,i.toArray,_,X,Z,Z,Z,by rw[DQ,L];exact hl,by simpa using rv]) (λb u z=>by have I:(none:Option HO)=some u:=z;cases I) (λb z=>absurd Z z) λz=>absurd Z z
 |none=>
  refine C (λb=>if b=a then some (.frz { cls:=.type "list",data:=.seq i.toArray } (.lst (O.map V.int))) else none) (λb=>?_) (.inl (.inr #[{ cls:=.type "list",data:=.seq i.toArray },D0 Z])) (λb u z=>?_) (λb z=>?_) λ_=>X
  ·by_cases c:b=a
   ·exact .inr #[_,_,D0 c]
   ·exact .inl (D1 c)
  ·by_cases c:b=a
   ·have I:=(D0 c).symm.trans z
    cases I
    subst c
    exact#[J,by rw[DK];exact hl,i,_,rv,J]
   ·have I:=(D1 c).symm.trans z
    cases I
  ·by_cases c:b=a
   ·exact c
   ·exact absurd (D1 c) z
theorem uX{l:PySem.W.OpenLaw}{n k:Nat}{E:World->Heap->Prop}{d:DefRec}{K:Params->Frag}{CX:World->nj}{sp:World->Sp}{x:Str}
  (O:l.most=some n) (r:n<=sizeLine) (t:d.params.defaults=[]) (P:bo k callerA)
  (Q:∀(w:World) (h:Heap),E w h->(K w.params).In h)
  (F:∀(w:World) (m:Str->Option Value) (p:Addr) (h:Heap),(K w.params).In h->h.Ns mainGlobals m->m d.name=some (.ref p)->
   ∃y:FuncData,(∀(s:Shared) (u:Value),BindsTo s y #[[u],[]] [(x,u)])/\
    ∀B:Heap,(K w.params).In B->B.Ns mainGlobals m->aj l.prog w (K w.params) m B (CX w) k p y [x] (sp w))
  (z:∀(w:World) (H:Hp) (a:Addr) (N:List Int),N.length<=n->wj H->aC (K w.params) H a (N.map V.int)->sp w [.ref a] H (λv _=>v= .bl true) λ_ _ _=>False)
  (A:∀(w:World) (H:Hp) (s:Shared) (e:Value) (C:Shared),CX w [] H s (λ_ _ _=>False) e C->False):
  PySem.W.WalkO q L XP E l.row.toRowW d [] (λf I=>PySem.call f I):=by
 refine Att.attach_call O t λw J S m mb p o pm cd R a I N G Y ho hd U D j i c X=>?_
 have M:=Q w _ Y
 obtain⟨y,hb,hF⟩:=F w m p _ M G.T.g D
 exact ot M G.T.g G.T.b G.T.builtins G.T.nolimit X j i (DV c r) P hF hb (λH hO hS=>z w H a N c hO hS) λH e C=>A w H S e C
noncomputable def bP(s:Stmt)(j:Nat):Stmt:=match s with
 | .ClassDef _ _ _ b _ _ _ _ _ _ _=>b.getD j (.Pass #[0,0,0,0])
 |_=>.Pass #[0,0,0,0]
noncomputable def bf(s:Stmt):Arguments:=match s with
 | .FunctionDef _ a _ _ _ _ _ _ _ _=>a
 |_=>{ posonlyargs:=[],args:=[],vararg:=none,kwonlyargs:=[],kw_defaults:=[],kwarg:=none,defaults:=[] }
noncomputable def aY(s:Stmt):List Stmt:=match s with
 | .FunctionDef _ _ b _ _ _ _ _ _ _=>b
 |_=>[]
noncomputable def aa(s:Stmt):Scope:=match s with
 | .FunctionDef _ _ _ _ _ _ S _ _ _=>S
 |_=>{ kind:=.function,names:=[],isGenerator:=false,isCoroutine:=false }
abbrev ay:nj:=λ_ _ _ _ _ _=>False
abbrev E0:XK:=λ_ _ _=>False
theorem bh{X:Cx}:cX ay X E0:=λ_ _ _ _ _ _ _ h=>h.elim
structure aJ(K:Frag)(x qual:Str)(st:Stmt)(f:Addr)(fd:FuncData):Prop where
 ex:∃(oc:Value) (od:Option Addr) (kV doc pm:Value) (an:Option Addr) (cdv ct:Value) (osl:Array (Option Value)),
  fd=fnOf x qual (bf st) (aY st) (aa st) .none kV doc pm an cdv ct/\K.lookup f=some #[oc,od,.func fd,osl]/\codeIn K cdv qual=true
 kp:keepIn K (.ref f)=true
section
variable {P:Program}{w:World}{K:Frag}{mg:Str->Option Value}{base:Heap}
theorem aJ.ok{st:Stmt}{d:Sp}(F:aJ K x a st f i)(S:ak N p (aa st))(len:∀v H Q E,d v H Q E->v.length=p.length)
  (b:∀(c:Value) (A:Around) (o:List Env) (s:Shared) (H:Hp) (v:List V) (Q:VK) (E:XK),bo k (A.deeper (envOfC a (aa st) s.heap.objs.size f c))->d v H Q E->
   ∃t,iV (eU ay P w K mg base N a (aa st) f c A o s H E).nox (aY st) t/\t { nx:=λ_ j=>Q .non j,rt:=Q } (fo N v) H):aj P w K mg base ay (k+1) f i p d:=by
 obtain⟨m,n,kV,D,r,u,c,C,O,rfl,lk,e⟩:=F.ex
 refine vE lk e S len λA o s H v Q E l g=>?_
 obtain⟨t,h,q⟩:=b c A o s H v Q E l g
 exact#[t,h.nox,q]
theorem aJ.binds{st:Stmt}{p:List Str}(F:aJ K x q st f b)
  (h:∀(kV d a:Value) (A:Option Addr) (c C:Value) (u:List Value),u.length=p.length->bindArgs (fnOf x q (bf st) (aY st) (aa st) .none kV d a A c C) #[u,[]]=pure (p.zip u)):aw K b p []:=by
 obtain⟨O,e,kV,d,a,A,c,C,o,rfl,lk,H⟩:=F.ex
 exact .all (h kV d a A c C)
theorem ZQ{st:Stmt}{kV:Value}(l:K.lookup f=some #[O,e,.func (fnOf x q (bf st) (aY st) (aa st) .none kV d p a C b),o])
  (c:codeIn K C q=true) (k:keepIn K (.ref f)=true):aJ K x q st f (fnOf x q (bf st) (aY st) (aa st) .none kV d p a C b):=#[#[O,e,kV,d,p,a,C,b,o,Z,l,c],k]
end
theorem kl(h:bo k A):A.units+1 < cLine:=Fe (Nat.add_le_add_left (by decide:1<=64) _) h.units
section
variable {X:Cx}
theorem pv(i:Nat){x:Str}{p:Pos}(H:X.N[i]?=some x:=by rfl)(a:BC X.env.scope x:=by first |exact Or.inl Z |exact Or.inr (Or.inl Z) |exact Or.inr (Or.inr Z))(b:(x==("__debug__":Str))=false:=by decide)
  (h:(x==("__classdict__":Str))=false:=by decide):PE X (.Name x p) (aS i):=yf H a b h
end
theorem nF{A B:Prop}(h:B):if false=true then A else B:=by
 rw[D1 DR]
 exact h
theorem nG{A B:Prop}(h:A):if true=true then A else B:=by
 rw[D0 Z]
 exact h
theorem bu{c A B:Prop}[Decidable c](H:c->A)(a:¬c->B):if c then A else B:=by
 by_cases h:c
 ·rw[D0 h]
  exact H h
 ·rw[D1 h]
  exact a h
def ae(H h:Hp):Prop:=∀b o,H b=some o->h b=some o
theorem ae.refl(H:Hp):ae H H:=λ_ _ h=>h
theorem ae.trans(a:ae H d)(b:ae d e):ae H e:=λc o h=>b c o (a c o h)
theorem ae.free(e:ae H a)(h:a l=Option.none):H l=Option.none:=by
 cases q:H l with
 |none=>rfl
 |some o=>
  rw[e l o q]at h
  cases h
theorem ae.seq{K:Frag}(e:ae H b)(h:aC K H a x):aC K b a x:=by
 rcases h with (h | ⟨o,h⟩) |h
 ·exact .inl (.inl (e _ _ h))
 ·exact .inl (.inr #[o,e _ _ h])
 ·exact .inr h
section
variable {prog:Program}{w:World}{A:Around}{R:Result->Shared->Prop}{s:Shared}
abbrev vk:Value->Shared->Prop:=λ_ _=>False
theorem Y5{iter:Expr}(I:Nat->Shared->Prop)
  (T:∀n s,I n s->wpAny (model prog w) A (pyNext B) (λr S=>match r with
   |none=>R (.ok .next) S
   |some v=>wpAny (model prog w) A (letOwnedTupleGo t B v) (λ_ b=>wpAny (model prog w) A (assign t e v) (λ_ d=>
     wpAny (model prog w) A (forIn l true λc r=>if r=true then do let o <- isTrue c e (eval c e);pure (ForInStep.yield o) else pure (ForInStep.yield r)) (λo a=>
      if o=true then wpAny (model prog w) A (eval E e) (λx g=>
       wpAny (model prog w) A (call (.builtin "list.append") [p,x]) (λ_ i=>∃m,m < n/\I m i) vk g) vk a
      else ∃m,m < n/\I m a) vk d) vk b) vk S) vk s)
  (n:Nat) (h:I n s):
  codeAny (model prog w) A (.compLoop (.ListComp E [#[t,iter,l,0]] k C) 0 B p e) R s:=by
 refine codeAny_loop Z I (λn s D=>?_) n h
 show wpAny _ A ((compTurn (.ListComp E [#[t,iter,l,0]] k C) 0 B p e).onRaise (λx=>do noteFrame x e;theTreesLotGoes x)) _ _ s
 refine wpAny_noted ?_
 rw[compTurn_list]
 refine DG (FY (DG (EK (T n s D) (λr S H=>?_) λ_ _ f=>f.elim)))
 cases r with
 |none=>exact DH H
 |some v=>
  refine DG (EK H (λ_ b q=>?_) λ_ _ f=>f.elim)
  refine DG (EK q (λ_ d u=>DG (EK u (λo a j=>?_) λ_ _ f=>f.elim)) λ_ _ f=>f.elim)
  cases o with
  |false=>exact DH #[Z,j]
  |true=>
   exact DG (DG (EK j (λx g y=>DG (EK y (λ_ i z=>DH (DH #[Z,z])) λ_ _ f=>f.elim)) λ_ _ f=>f.elim))
end
noncomputable def aU(X:Cx)(s:Scope)(M:List Str)(c:List (Str×Addr))(C:Addr)(f:List Addr)(S:Shared)(HB:Hp):Cx where
 prog:=X.prog
 w:=X.w
 K:=X.K
 mg:=X.mg
 base:=X.base
 A:=X.A
 N:=M
 s₀:=S
 H₀:=HB
 env:=compEnvC s c C X.env
 outer:=X.stack
 stack:=X.stack
 ex:=f
 fn:=λ_=>false
 calm:=X.calm
 pn:=[]
 xe:=λ_ _=>False
noncomputable def yZ(n:Nat)(I:List Nat)(a:St):St:=List.replicate n none++I.map λi=>(a[i]?).getD none
structure a8(N:List Str)(sc scope:Scope)(M:List Str)(nT:Nat)(ix:List Nat):Prop where
 cell:∀y∈scope.names,y.2≠ .cell
 kind:scope.kind= .function
 loc:∀y∈scope.names,y.2= .local->scope.names.lookup y.1=some .local
 fre:∀y∈scope.names,y.2= .free->sc.names.lookup y.1=some .cell
 nms:M.drop nT=ix.map λi=>N.getD i Str.empty
 len:M.length=nT+ix.length
 vis:∀i∈ix,scope.names.lookup (N.getD i Str.empty)=some .free
theorem Jd{E:Env}(c:E.scope.kind= .function):∀{N:List (Str×NameKind)} {y:Str},N.lookup y=some .free->E.kindOf y=some .cell->
  (N.map λ(n,k)=>if (k==NameKind.free&&E.scope.kind== .function&&E.kindOf n==some .cell) then (n,NameKind.cell) else (n,k)).lookup y=some .cell
 | [],_,h,_=>by simp at h
 | (n,k)::r,y,h,b=>by
  have i:=@Jd E c r y
  show List.lookup y ((if (k==NameKind.free&&E.scope.kind== .function&&E.kindOf n==some .cell)=true then (n,NameKind.cell) else (n,k))::_)=_
  cases H:y==n with
  |true=>
   simp only[EH,H]at h
   cases h
   have e:y=n:=by simpa using H
   subst e
   rw[D0 (by rw[c,b];rfl)]
   simp [EH]
  |false=>
   simp only[EH,H]at h
   by_cases a:(k==NameKind.free&&E.scope.kind== .function&&E.kindOf n==some .cell)=true
   ·rw[D0 a];simp only[EH,H];exact i h b
   ·rw[D1 a];simp only[EH,H];exact i h b
theorem Ks{E:Env}:∀{N:List (Str×NameKind)} {y:Str} {K:NameKind},
  (N.map λ(n,k)=>if (k==NameKind.free&&E.scope.kind== .function&&E.kindOf n==some .cell) then (n,NameKind.cell) else (n,k)).lookup y=some K->
  ∃k,N.lookup y=some k/\(K=k∨k= .free)
 | [],_,_,h=>by simp at h
 | (n,k)::r,y,K,h=>by
  have i:=@Ks E r y K
  have h:List.lookup y ((if (k==NameKind.free&&E.scope.kind== .function&&E.kindOf n==some .cell)=true then (n,NameKind.cell) else (n,k))::_)=some K:=h
  cases a:y==n with
  |true=>
   refine#[k,by simp only[EH,a],?_]
   by_cases H:(k==NameKind.free&&E.scope.kind== .function&&E.kindOf n==some .cell)=true
   ·right
    simp only[EM]at H
    simpa using H.1.1
   ·rw[D1 H]at h;simp only[EH,a]at h;left;exact(Eo h).symm
  |false=>
   have b:List.lookup y (r.map λ(n,k)=>if (k==NameKind.free&&E.scope.kind== .function&&E.kindOf n==some .cell) then (n,NameKind.cell) else (n,k))=some K:=by
    by_cases H:(k==NameKind.free&&E.scope.kind== .function&&E.kindOf n==some .cell)=true
    ·rw[D0 H]at h;simp only[EH,a]at h;exact h
    ·rw[D1 H]at h;simp only[EH,a]at h;exact h
   obtain⟨c,e,q⟩:=i b
   exact#[c,by simp only[EH,a];exact e,q]
noncomputable def aP(e:Env):List (Str×NameKind)->List (Str×Addr)->List (Str×Addr)
 | [],a=>a
 | (n,k)::r,a=>if k== .free then aP e r ((n,(e.cells.lookup n).getD 0)::a) else aP e r a
theorem zW{E:Env}:∀{N:List (Str×NameKind)} {acc:List (Str×Addr)},(∀y∈N,y.2= .free->∃c,E.cells.lookup y.1=some c)->(∀x c,acc.lookup x=some c->E.cells.lookup x=some c)->
  ∀x c,(aP E N acc).lookup x=some c->E.cells.lookup x=some c
 | [],_,_,b,x,c,h=>b x c h
 | (n,k)::r,acc,f,b,x,c,h=>by
  unfold aP at h
  by_cases g:(k==NameKind.free)=true
  ·rw[D0 g]at h
   refine zW (λy H=>f y (D9 _ H)) (λX j a=>?_) x c h
   obtain⟨C,d⟩:=f (n,k) D3 (by simpa using g)
   have d:E.cells.lookup n=some C:=d
   simp only[EH]at a
   cases i:X==n with
   |true=>
    rw[i]at a
    have e:X=n:=by simpa using i
    subst e
    rw[d]at a
    rw[d]
    exact a
   |false=>rw[i]at a;exact b _ _ a
  ·rw[D1 g]at h
   exact zW (λy H=>f y (D9 _ H)) b x c h
theorem qp:∀{a:List (Str×Addr)},(∃c,(x,c)∈a)->∃c,a.lookup x=some c
 | [],h=>by obtain⟨_,h⟩:=h;cases h
 | (n,c)::r,h=>by
  simp only[EH]
  cases H:x==n with
  |true=>exact#[c,Z]
  |false=>
   obtain⟨C,h⟩:=h
   rcases List.mem_cons.mp h with e |h
   ·injection e with E _
    subst E
    simp at H
   ·exact qp #[C,h]
theorem qH:∀{N:List (Str×NameKind)} {a:List (Str×Addr)},((∃c,(x,c)∈a)∨(x,NameKind.free)∈N)->∃c,(x,c)∈aP E N a
 | [],_,h=>by
  rcases h with h |h
  ·exact h
  ·cases h
 | (n,k)::r,a,h=>by
  unfold aP
  by_cases H:(k==NameKind.free)=true
  ·rw[D0 H]
   refine qH ?_
   rcases h with ⟨c,h⟩ |h
   ·exact .inl #[c,D9 _ h]
   ·rcases List.mem_cons.mp h with e |h
    ·injection e with b _
     subst b
     exact .inl #[_,D3]
    ·exact .inr h
  ·rw[D1 H]
   refine qH ?_
   rcases h with h |h
   ·exact .inl h
   ·rcases List.mem_cons.mp h with e |h
    ·injection e with _ d
     subst d
     exact absurd Z H
    ·exact .inr h
theorem qt{e:Env}:∀(N:List (Str×NameKind)) (A:List (Str×Addr)),(∀y∈N,y.2= .free->∃c,e.cells.lookup y.1=some c)->
  (forIn N A (λx r=>match x with | (name,K)=>if (K==NameKind.free)=true then (do let a <- cellOf e name;pure (ForInStep.yield ((name,a)::r))) else pure (ForInStep.yield r)):Sem (List (Str×Addr)))=pure (aP e N A)
 | [],A,_=>rfl
 | (n,k)::r,A,b=>by
  have i:=λA=>qt r A λy H=>b y (D9 _ H)
  rw[Fh]
  unfold aP
  by_cases h:(k==NameKind.free)=true
  ·obtain⟨C,E⟩:=b (n,k) D3 (by simpa using h)
   have E:e.cells.lookup n=some C:=E
   have d:cellOf e n=pure C:=by unfold cellOf;rw[E]
   rw[D0 h]
   simp only[h,Go,d,E]
   exact i _
  ·rw[D1 h]
   simp only[h]
   exact i _
theorem qu{e:Env}{S:Scope}(H:∀y∈S.names,y.2= .free->∃c,e.cells.lookup y.1=some c):closureFor S e=pure (aP e S.names []):=by
 have h:=qt S.names [] H
 exact EO (λt:Sem (List (Str×Addr))=>t >>= λs=>pure s) h
section
variable {X:Cx}{pins:List (Addr×Obj)}{σ:St}{H:Hp}{s:Shared}
theorem qW(I:ao X pins σ H s)(S:a8 X.N X.env.scope a M n i):∀y∈a.names,y.2= .free->∃c,X.env.cells.lookup y.1=some c:=
 λy h e=>I.ok.has y.1 (.inl (S.fre y h e))
theorem nX{g:Heap}(I:ao X pins σ H s)(F:∀b∈Y,eP X pins H b)(P:∀b∈Y,b < s.heap.objs.size)
  (S:a8 X.N X.env.scope a M n G) (Q:s.heap.objs.size<=C) (O:∀b o,s.heap.get? b=some o->g.get? b=some o) (R:g.Ns C m):
  ao (aU X a M (aP X.env a.names []) C Y s H) [] (yZ n G σ) H { s with heap:=g,toks:=tk }:=by
 have sub:∀x c,(aP X.env a.names []).lookup x=some c->X.env.cells.lookup x=some c:=zW (qW I S) (λx c h=>by simp at h)
 have j:∀x,a.names.lookup x=some .free->∃c,(aP X.env a.names []).lookup x=some c:=λx e=>qp (qH (.inr (EY e)))
 have hex:∀x K,(relabel a X.env).names.lookup x=some K->(K= .cell∨K= .free)->a.names.lookup x=some .free:=λx K e A=>by
  obtain⟨k,t,q⟩:=Ks e
  rcases q with q |q
  ·rcases A with z |z
   ·exact absurd (q.symm.trans z) (S.cell (x,k) (EY t))
   ·rw[t,<- q,z]
  ·rw[t,q]
 refine#[#[I.ok.mod,S.kind,I.ok.glob,I.ok.blt,Q,λx y c h1 h2=>I.ok.inj x y c (sub x c h1) (sub y c h2),λx hx=>?_,λx c hx=>?_,I.ok.hd,I.ok.frames,.inl Z,λb w=>#[λz=>?_,λx c e=>?_],I.bs,DV I.ok.bsz I.sz,λb o e w=>?_,λb w hz=>?_,I.stack,I.stkFree],
  rfl,I.bare,Un.kept O,#[m,R,λk y v t E _=>?_],λx c e=>?_,I.hok.fresh Q,λx c e=>I.freeC x c (sub x c e),λp hp=>absurd (show p∈([]:List (Addr×Obj)) from hp) IN,I.hok.kept O,?_]
 ·rcases hx with hx |hx
  ·exact j x (hex x _ hx (.inl Z))
  ·exact j x (hex x _ hx (.inr Z))
 ·exact absurd (show false=true from hx) IL
 ·have z':b=C:=z
  have:=P b w
  rw[z']at this
  exact absurd this (Nat.not_lt.mpr Q)
 ·exact(F b w).2.2.2.2.1 x c (sub x c e)
 ·rcases(F b w).2.2.2.1 with z |z
  ·exact I.ok.noex b o e z
  ·exact absurd (DW (DO e) (DV I.ok.bsz z)) (EG _)
 ·rcases List.mem_cons.mp (I.stkSub b hz) with z |z
  ·exact(F b w).2.1 z
  ·exact(F b w).2.2.1 z
 ·have E:(yZ n G σ)[k]?=some (some v):=E
  have t:M[k]?=some y:=t
  unfold yZ at E
  by_cases A:k < n
  ·rw[Fu (by simpa using A),II]at E
   simp [A]at E
  ·have B:n<=k:=Nat.le_of_not_lt A
   rw[Fq (by simpa using B),Hy,D4]at E
   cases J:G[k - n]? with
   |none=>rw[J]at E;cases E
   |some i=>
    rw[J]at E
    have L:(σ[i]?).getD none=some v:=Eo E
    have V:σ[i]?=some (some v):=by
     cases W:σ[i]? with
     |none=>rw[W]at L;cases L
     |some o=>rw[W]at L;exact EO some L
    have hi:i < X.N.length:=by rw[<- I.len];exact(List.getElem?_eq_some_iff.mp V).1
    have e7:y=X.N.getD i Str.empty:=by
     have q:(M.drop n)[k - n]?=some y:=by rw[List.getElem?_drop];rw[Nat.add_sub_cancel' B];exact t
     rw[S.nms,D4,J]at q
     exact(Eo q).symm
    have e8:X.N[i]?=some y:=by rw[e7,DJ hi,FV,DJ hi];rfl
    have d:a.names.lookup y=some .free:=by rw[e7];exact S.vis i (D5 J)
    have f:X.env.scope.names.lookup y=some .cell:=S.fre (y,.free) (EY d) Z
    obtain⟨m',_,hl⟩:=I.loc
    obtain⟨u,r,l⟩:=hl i y v e8 V (.inr (.inl f))
    refine#[u,r,?_]
    rcases l with ⟨l,_⟩ | ⟨_,c,ec,o,T,U⟩
    ·have l:X.env.scope.names.lookup y=some .local:=l
     rw[f]at l
     cases l
    ·obtain⟨c',D⟩:=j y d
     have q:=sub y c' D
     rw[ec]at q
     cases q
     exact .inr #[.inl (Jd I.ok.kind d f),c,D,o,O _ _ T,U]
 ·obtain⟨v,o,T,U⟩:=I.cell x c (sub x c e)
  exact#[v,o,O _ _ T,U]
 ·show(yZ n G σ).length=M.length
  rw[S.len]
  simp [yZ]
theorem ao.track(I:ao X pins σ H s)(f:eP X pins H D)(G:X.s₀.heap.objs.size<=D)(a:aG X.prog X.w (af H D o) s.heap D o):ao X pins σ (af H D o) s:=by
 have n:=f.1
 have N:∀b u,H b=some u->b≠D:=λb u e=>ji e n
 refine#[I.ok,I.os,I.bare,#[I.base.keep,I.base.slot,λb O e q i=>?_,I.base.there,λb d e=>?_,λb O u e=>?_,λb P e=>?_],I.loc,I.cell,?_,λx c e=>?_,λp h=>?_,λb u e=>?_,I.len]
 ·rw[jj (DS (DW (DO e) G))]
  exact I.base.free b O e q i
 ·have q:=I.base.tups b d e
  rw[jj (N _ _ q)]
  exact q
 ·have q:=I.base.frzs b O u e
  rw[jj (N _ _ q)]
  exact q
 ·obtain⟨m,q⟩:=I.base.tbls b P e
  exact#[m,by rw[jj (N _ _ q)];exact q]
 ·rw[jj (Eg f.2.1)]
  exact I.free
 ·rw[jj (f.2.2.2.2.1 x c e)]
  exact I.freeC x c e
 ·obtain⟨e,q,r⟩:=I.pin p h
  exact#[e,by rw[jj (f.2.2.2.2.2 p h)];exact q,r]
 ·by_cases g:b=D
  ·subst g
   rw[jc]at e
   cases e
   exact a
  ·rw[jj g]at e
   exact(I.hok b u e).stay (λ_ _ _ q=>q) (λc q=>by rw[jj (N _ _ q)];exact q) λc d q=>by rw[jj (N _ _ q)];exact q
noncomputable abbrev hZ(u:List Value):Obj:={ cls:=.type "list",data:=.seq u.toArray u.length }
theorem Y6(u:List Value)(y:Value):({ cls:=.type "list",data:=.seq (u.toArray.push y) (u.length+1) }:Obj)=hZ (u++[y]):=by
 show({ cls:=.type "list",data:=.seq (u.toArray.push y) (u.length+1) }:Obj)={ cls:=.type "list",data:=.seq (u++[y]).toArray (u++[y]).length }
 rw[DM,FN,List.push_toArray]
def PF(X:Cx)(i:List Expr)(t:TT):Prop:=
 ∀(pins:List (Addr×Obj)) (s:Shared) (σ:St) (H:Hp) (Q:Bool->Hp->Prop),ao X pins σ H s->t σ H Q->
  wpAny (model X.prog X.w) X.A (forIn i true λc r=>if r=true then do let o <- isTrue c X.env (eval c X.env);pure (ForInStep.yield o) else pure (ForInStep.yield r)) (TP X pins σ Q) X.xe s
def lh:TT:=λ_ H Q=>Q true H
theorem zn:PF X [] lh:=λ_ _ _ H _ I h=>wpAny_tests_nil #[H,I,h]
theorem yg{c:Expr}{t:TT}(h:PT X c t):PF X [c] t:=λpins s σ H Q I q=>wpAny_tests_one (h pins s σ H Q I q)
noncomputable def mJ(I:List Nat)(σ:St):St:=I.map λi=>(σ[i]?).getD none
def eO(J:It)(n:Nat)(t:St)(g:TG)(j:TT)(k:TE)(Q:List V->Hp->Prop)(H:Hp):Prop:=
 ∃W:Nat->Nat->List V->Hp->Prop,(∃m,W 0 m [] H)/\∀i m Y H,W i m Y H->
  (J.stop i H/\Q Y H)∨(J.go i H/\Y.length < sizeLine/\∃N:List V->Hp->Prop,(∀c h,N c h->∃M,M < m/\W (i+1) M c h)/\
   ∀x d (e:St),e.length=n->J.yld i H x d->g x (e++t) d λa h=>(∃T:St,T.length=n/\a=T++t)/\j a h λb f=>if b=true then k a f λy l=>N (Y++[y]) l else N Y f)
theorem Kt{iter:Expr}
  {RR:Value->Addr->Result->Shared->Prop} 
  (I:ao X pins σ H s) (hc:X.calm=true) (T:lK X.prog X.w X.K tg J k it tn) (st:tn 0 s.heap) (hf:∀b∈k,eP X pins H b) (S:a8 X.N X.env.scope scope M nT ix)
  (hg:∀cl C k s H,PG (aU X scope M cl C k s H) tg g) (hi:∀cl C k s H,PF (aU X scope M cl C k s H) i0 tt) (he:∀cl C k s H,PE (aU X scope M cl C k s H) e0 te)
  (h:eO J nT (mJ ix σ) g tt te Qf H)
  (h':∀D C Y m t G,(∀b o u,H b=some (.frz o u)->t b=some (.frz o u))->t D=none->ao X pins σ (af t D (.lst Y)) G->eP X pins (af t D (.lst Y)) C->G.heap.Ns C m->Qf Y t->RR (.ref D) C (.ok .next) G):
  wpAny (model X.prog X.w) X.A (newList []) (λacc B=>wpAny (model X.prog X.w) X.A (newFunctionEnv scope X.env.globals (aP X.env scope.names []) [] X.env.qual none .none (some X.env)) (λc0 s0=>
   codeAny (model X.prog X.w) X.A (.compStart (.ListComp e0 [#[tg,iter,i0,0]] scope p1) 0 (.ref it) acc { c0 with scope:=relabel scope X.env }) (RR acc c0.locals) s0) E B) E s:=by
 obtain⟨W,⟨m0,w0⟩,t1⟩:=h
 have h3:∀b∈k,b < s.heap.objs.size:=λb a=>by
  obtain⟨o,e,_⟩:=T.obj 0 _ st b a
  exact DO e
 refine En (wpAny_newFunctionEnv S.cell (by intro y hy;simp at hy) (λF l f=>?_) S.kind)
 dsimp only at l f ⊢
 generalize h4:s.heap.push { cls:=.type "list",dict:=none,data:=.seq ([]:List Value).toArray }=H2 at l f ⊢
 have hC:H2.objs.size=s.heap.objs.size+1:=by rw[<- h4,Ey]
 have P:s.heap.objs.size≠H2.objs.size:=by rw[hC];exact DS (ET _)
 have h0:s.heap.objs.size<=H2.objs.size:=by rw[hC];exact Ff _
 have b0:∀b,b < s.heap.objs.size->b≠H2.objs.size/\b≠s.heap.objs.size:=λb a=>#[by rw[hC];exact DS (FQ a),DS a]
 have o1:∀b o,s.heap.get? b=some o->F.get? b=some o:=λb o e=>f.extBut b o (b0 b (DO e)).1 (DI _ (h4▸DI _ e))
 have h5:F.get? s.heap.objs.size=some (hZ []):=f.extBut _ _ P (DI _ (h4▸DP _ Z))
 have a0:H s.heap.objs.size=none:=I.hok.fresh (DN _)
 have h6:s.heap.objs.size∉ie X.stack:=λa=>(List.mem_cons.mp (I.stkSub _ a)).elim (λe=>absurd I.lt (by rw[<- e];exact EG _)) (I.nofs (DN _))
 generalize hD:s.heap.objs.size=D at*
 generalize a':H2.objs.size=C at*
 have J0:∀tk,ao (aU X scope M (aP X.env scope.names []) C k s H) [] (yZ nT ix σ) H { s with heap:=F,toks:=tk }:=λtk=>nX I hf (by rw[hD];exact h3) S (by rw[hD];exact h0) o1 l
 have c1:∀x c,(aP X.env scope.names []).lookup x=some c->c≠D:=λx c e z=>by
  have sub:=zW (qW I S) (acc:=[]) (λx c h=>by simp at h) x c e
  obtain⟨v,o,ho,_⟩:=I.cell x c sub
  have:=DO ho
  rw[z,hD]at this
  exact EG _ this
 have p0:∀{σ0:St} {t:Hp} {G:Shared} {U:List Value},ao (aU X scope M (aP X.env scope.names []) C k s H) [] σ0 t G->G.heap.get? D=some (hZ U)->t D=none->
   ao (aU X scope M (aP X.env scope.names []) C k s H) [(D,hZ U)] σ0 t G:=λ{σ0 t G U} I' e n=>I'.pins_of λp hp=>by
  have ep:p=(D,hZ U):=by simpa using hp
  subst ep
  exact#[e,n,P,h6,λv z=>by cases z]
 have L:∀{t:Hp} {U:List Value},(∀b∈k,t b=none)->∀b∈k,eP (aU X scope M (aP X.env scope.names []) C k s H) [(D,hZ U)] t b:=λ{t U} hn b a=>
  #[hn b a,((J0 0).ok.exf b a).1,(J0 0).ok.exfs b a,.inl a,((J0 0).ok.exf b a).2,λp hp z=>by
   have ep:p=(D,hZ U):=by simpa [aU] using hp
   rw[ep]at z
   have:=h3 b a
   rw[<- z]at this
   exact EG _ this]
 have l0:∀B:Shared,(∃tk,B={ s with heap:=F,toks:=tk })->
   codeAny (model X.prog X.w) X.A (.compLoop (.ListComp e0 [#[tg,iter,i0,0]] scope p1) 0 (.ref it) (.ref D) (compEnvC scope (aP X.env scope.names []) C X.env)) (RR (.ref D) C) B:=by
  rintro B ⟨tk,rfl⟩
  refine Y5 (λn G=>∃i Y U ts t,ts.length=nT/\ao (aU X scope M (aP X.env scope.names []) C k s H) [(D,hZ U)] (ts++mJ ix σ) t G/\au Y U/\Y.length<=sizeLine/\tn i G.heap/\(∀b∈k,t b=none)/\W i n Y t) ?_ m0
   #[0,[],[],List.replicate nT none,H,Hy,p0 (J0 tk) h5 a0,.nil,DX _,T.keep _ _ _ st λb a o e=>o1 b o e,λb a=>(hf b a).1,w0]
  rintro n s1 ⟨i,Y,U,ts,Q,a1,I1,rv,hz,s7,f0,w1⟩
  rcases t1 i n Y Q w1 with ⟨stop,q⟩ | ⟨go,a2,N,hN,step⟩
  ·refine aO (T.done (aU X scope M (aP X.env scope.names []) C k s H) Z Z Z hc i _ s1 _ Q vk I1 (L f0) s7 stop) λr s2 j=>?_
   obtain⟨hr,I2⟩:=j
   subst hr
   have IO:ao X pins σ Q s2:=I.call' (ch:=k) I2.os I2.base I2.hok I2.bare λb a=>#[(hf b a).2.2.2.1,(hf b a).2.1,(hf b a).2.2.2.2.1,(hf b a).2.2.2.2.2]
   have pD:=I2.pin (D,hZ U) (by simp [aU])
   have h8:Q D=none:=pD.2.1
   have fD:eP X pins Q D:=by rw[<- hD];exact I.fpOk (DN _) (by rw[hD];exact h8)
   have IT:ao X pins σ (af Q D (.lst Y)) s2:=IO.track fD (by rw[<- hD];exact I.sz) #[hz,U,U.length,rv,pD.1]
   obtain⟨mC,a3,_⟩:=I2.loc
   have a4:Q C=none:=I2.free
   exact h' D C Y mC Q s2 I2.base.frzs h8 IT (I.fpOk (by rw[hD];exact h0) (by rw[jj (Eg P)];exact a4)) a3 q
  ·refine aO (T.item (aU X scope M (aP X.env scope.names []) C k s H) Z Z Z hc i _ s1 _ Q vk I1 (L f0) s7 go) λr s2 j=>?_
   obtain⟨u,hr,h2⟩:=j
   subst hr
   refine aO h2 λ_ s3 j=>?_
   obtain⟨x,H3,I3,r3,y3,O,f1⟩:=j
   have I0:=I3.pinned (L f1) (T.obj _ _ O)
   refine aO (hg _ _ _ _ _ _ s3 _ H3 x u _ I0 r3 (step x H3 ts a1 y3)) λ_ s4 j=>?_
   obtain⟨σ1,H4,I4,⟨t0,h1,e4⟩,q4⟩:=j
   subst e4
   refine aO (hi _ _ _ _ _ _ s4 _ H4 _ I4 q4) λb s5 j=>?_
   obtain⟨H5,I5,q5⟩:=j
   cases b with
   |false=>
    obtain⟨m',hm,w'⟩:∃m',m' < n/\W (i+1) m' Y H5:=hN _ _ q5
    refine#[m',hm,i+1,Y,U,t0,H5,h1,I5.unpinned,rv,hz,T.keep _ _ _ O λb a o e=>(I5.pin (b,o) (DZ _ (DZ _ (kY a e)))).1,λb a=>?_,w']
    obtain⟨o,e,d⟩:=T.obj _ _ O b a
    exact(I5.pin (b,o) (DZ _ (DZ _ (kY a e)))).2.1
   |true=>
    refine aO (he _ _ _ _ _ _ s5 _ H5 _ I5 q5) λv s6 j=>?_
    obtain⟨y,H6,I6,r6,q6⟩:=j
    obtain⟨m',hm,w'⟩:=hN _ _ q6
    have pD:=I6.pin (D,hZ U) (DZ _ (EU _ D3))
    have hl:=rv.length
    have R:∀b∈k,∀o,s3.heap.get? b=some o->s6.heap.get? b=some o:=λb a o e=>(I6.pin (b,o) (DZ _ (DZ _ (kY a e)))).1
    have V:∀b∈k,H6 b=none:=λb a=>by
     obtain⟨o,e,d⟩:=T.obj _ _ O b a
     exact(I6.pin (b,o) (DZ _ (DZ _ (kY a e)))).2.1
    refine append_at (hsz:=by rw[DQ,<- hl];exact hz) pD.1 λh7 sb a5=>?_
    have I7:ao (aU X scope M (aP X.env scope.names []) C k s H) [] (t0++mJ ix σ) H6 { s6 with heap:=h7 }:=
     (I6.pins_of (pins':=[]) λp hp=>absurd hp IN).turned (t':=s6.toks) (it:=D) (λb o a e=>(sb.2 b a).trans e) pD.2.1 P (.inr (by show s.heap.objs.size<=D;rw[hD];exact DN _)) c1 λp hp=>absurd (show p∈([]:List (Addr×Obj)) from hp) IN
    refine#[m',hm,i+1,Y++[y],U++[v],t0,H6,h1,p0 I7 (a5.trans (EO some (Y6 U v))) pD.2.1,rv.append (.cons r6 .nil),by rw[DM,FN];exact a2,
     T.keep _ _ _ (T.keep _ _ _ O R) λb a o e=>(sb.2 b λz=>?_).trans e,V,w']
    have:=h3 b a
    rw[z]at this
    exact EG _ this
 exact codeAny_compStart_list (l0 _ #[_,Z]) (T.self _ 0 _ _ _ (T.keep _ _ _ st λb a o e=>o1 b o e) (l0 _ #[_,Z]))
def rF(w:TI)(n:Nat)(i:List Nat)(g:TG)(t:TT)(T:TE):TE:=λσ H Q=>w σ H λJ a=>eO J n (mJ i σ) g t T (λy h=>∀p,h p=none->Q (.ref p) (af h p (.lst y))) a
theorem za{t E iter:Expr}{i:List Expr}{a:Scope}{p:Pos}{M:List Str}{k:Nat}{l:List Nat}{W:TI}{g:TG}{r:TT}{u:TE}(v:X.calm=true)(y:PI X t iter W)(S:a8 X.N X.env.scope a M k l)
  (z:∀c C f s H,PG (aU X a M c C f s H) t g) (B:∀c C f s H,PF (aU X a M c C f s H) i r) (G:∀c C f s H,PE (aU X a M c C f s H) E u)
  (K:∀x,foldedSetIterable iter X.env x=pure x:=by intro _;rfl):
  PE X (.ListComp E [#[t,iter,i,0]] a p) (rF W k l g r u):=by
 intro pins s σ H Q I h
 rw[eval_ListComp]
 refine wpAny_comprehension_free (use:=none) Z K (qu (qW I S)) S.kind S.loc (aO (y pins s σ H _ I h) λxv s1 L=>aO L λO s2 P=>?_)
 obtain⟨it,f,tn,J,H2,e,U,T,d,V,R⟩:=P
 subst e
 refine Kt (RR:=λj C=>compPost (model X.prog X.w) X.A X.xe none (EP X pins σ Q) j C) U v T d V S z B G R ?_
 intro D C ys m H' Y _ n I' F ns q
 exact#[m,ns,λh' sb=>#[.ref D,_,I'.turned (t':=Y.toks) (λb o hb e=>(sb.2 b hb).trans e) F.1 F.2.1 F.2.2.2.1 F.2.2.2.2.1 F.2.2.2.2.2,Z,q D n]]
theorem Yx{t E iter:Expr}{d:List Expr}{c:Scope}{p P f:Pos}{y:Str}{i:Nat}{M:List Str}{U:Nat}{V:List Nat}{W:TI}{g:TG}{Y:TT}{te:TE}(hN:X.N.Nodup)(hy:X.N[i]?=some y)(hx:nS X.env.scope y)
  (hc:X.calm=true) (hI:PI X t iter W) (S:a8 X.N X.env.scope c M U V)
  (hg:∀l C j s H,PG (aU X c M l C j s H) t g) (hi:∀l C j s H,PF (aU X c M l C j s H) d Y) (he:∀l C j s H,PE (aU X c M l C j s H) E te)
  (r:swapsWith (.ListComp E [#[t,iter,d,0]] c p) (some (.Name y P)) f.line X.env=pure true:=by rfl)
  (hf:X.fn y=true∨X.env.scope.names.lookup y=some .local:=by first |exact .inl Z |exact .inr Z |assumption)
  (hs:∀x,foldedSetIterable iter X.env x=pure x:=by intro _;rfl):
  PS X (.Assign [.Name y P] (.ListComp E [#[t,iter,d,0]] c p) f) (λD σ H=>rF W U V g Y te σ H λv H1=>D.nx (σ.set i (some v)) H1):=by
 intro pins s σ H D I h
 rw[exec_Assign_Name_used _ _ _ _ r]
 refine DG (FY (DG ?_))
 show wpAny _ X.A (do let _ <- comprehension (.ListComp E [#[t,iter,d,0]] c p) c X.env _ (newList []) false (eval iter X.env) (some (assign (.Name y P) X.env))) _ _ s
 refine DG (aO (wpAny_comprehension_free (use:=some (assign (.Name y P) X.env)) (Q:=λ_ k=>SP X pins D .next k) Z hs (qu (qW I S)) S.kind S.loc
  (aO (hI pins s σ H _ I h) λxv s1 h1=>aO h1 λi0 s2 h2=>?_)) λ_ k hq=>DH (DH hq))
 obtain⟨it,j,tn,J,H2,e,I2,T,u,f2,R⟩:=h2
 subst e
 refine Kt (RR:=λB C=>compPost (model X.prog X.w) X.A X.xe (some (assign (.Name y P) X.env)) (λ_ k=>SP X pins D .next k) B C) I2 hc T u f2 S hg hi he R ?_
 intro Dd C ys m H' k _ n I' F ns q
 show wpAny _ X.A (assign (.Name y P) X.env (.ref Dd)) _ _ k
 refine wpAny_assign_Name (K6 I' hN hy hx (v:=.ref Dd) Z (λG K hh=>?_) hf)
 obtain⟨a,sb,ha⟩:=hh
 have L:C≠a:=by
  rcases ha with z |z
  ·rw[z];exact F.2.1
  ·exact Eg (F.2.2.2.2.1 _ _ z)
 exact#[m,ns.sameBut sb L,λh' O=>#[_,_,K.turned (t':=G.toks) (λb o hb e=>(O.2 b hb).trans e) F.1 F.2.1 F.2.2.2.1 F.2.2.2.2.1 F.2.2.2.2.2,q Dd n]]
end
section
variable {X:Cx}
def y6(i j:Int):Prop:=0 < j/\j<=1000000000000000000
theorem Ki:gc X (binaryOp .FloorDiv) (rI y6 λi j=>.int (i / j)):=BG λi j _ _ _ _ _ h q=>by
 have b:(0:Int) < j:=h.1
 have c:j<=1000000000000000000:=h.2
 refine floordiv_int IM (by rw[Int.fdiv_eq_ediv_of_nonneg i IM];exact q) (.inl (PyProof.noPylong_of_log2 ?_))
 have H:j.natAbs≠0:=by omega
 have a:j.natAbs < 2 ^ 60:=by omega
 have d:j.natAbs.log2 < 60:=(Nat.log2_lt H).mpr a
 omega
noncomputable def Ca:V->Option Value
 | .ty n=>some (.type n)
 | .ref a=>some (.ref a)
 |_=>none
theorem Xl:dB X (.builtin "isinstance") (λf H Q=>∃x y c t b,f=[x,y]/\Ca y=some c/\eS X.K H x t/\kitOne X.K t c=some b/\Q (.bl b) H):=by
 intro p s i H f U Q I r h
 obtain⟨x,y,c,t,b,rfl,d,ty,e,q⟩:=h
 obtain⟨u,w,rfl,g,R⟩:=Bq r
 have E:w=c:=by
  cases y with
  |ty n=>exact Eq.trans R (Eo d)
  |ref a=>exact Eq.trans R (Eo d)
  |_=>cases d
 subst E
 exact YZ I g ty e λT=>#[.bl b,H,I.tok T,Z,q]
theorem zX:∀{Y:List Str} {U:List Value},au (Y.map V.str) U->StrsAre U Y
 | [],_,.nil=>.nil
 |y::r,_,.cons (b:=u) h t=>by
  obtain⟨T,e⟩:∃T,u=Value.str y T:=h
  subst e
  exact .cons y T (zX t)
theorem QG:BU X "str.join" (λx a H Q=>∃(z:Str) (p:Addr) (y:List Str),x= .str z/\a=[.ref p]/\aC X.K H p (y.map V.str)/\z.length<=16/\(y.map (·.length)).sum+y.length<=1048576/\Q (.str (Txt.join z y)) H):=by
 intro P s l H x a v U Q I r R h
 obtain⟨z,p,y,rfl,rfl,b,c,d,q⟩:=h
 obtain⟨u,rfl,e⟩:=dW R
 cases e
 obtain⟨t,rfl⟩:=r
 obtain⟨i,f,g,j⟩:=I.list b
 exact join_listW g.isList (by simpa using zX f) c d λT k=>#[.str _,H,I.tok k,#[_,Z],q]
noncomputable def n6:Expr->Option V
 | .Constant (.str x) _ _=>some (.str x)
 | .Constant (.int i) _ _=>some (.int i)
 |_=>none
theorem yd(h:n6 e=some v):PE X e (tC v):=by
 cases e with
 |Constant c j p=>
  cases c with
  |str x=>cases h;exact jk
  |int i=>cases h;exact jf
  |_=>cases h
 |_=>cases h
theorem rC(h:n6 e=some v):starEach (e::a) E=(false,eval e E)::starEach a E:=by
 cases e with
 |Constant c j p=>rfl
 |_=>cases h
noncomputable def oq(e:Expr):Bool:=(n6 e).isSome
noncomputable def nZ(e:Expr):V:=(n6 e).getD .non
theorem QH:∀{E:List Expr},E.all oq=true->PA X E (λ_ H Q=>Q (E.map nZ) H)
 | [],_=>jb
 |e::E,h=>by
  rw[IC,EM]at h
  obtain⟨v,a⟩:=Option.isSome_iff_exists.mp (show(n6 e).isSome=true from h.1)
  have b:nZ e=v:=by unfold nZ;rw[a];rfl
  rw[ES,b]
  exact ja (yd a) (QH h.2) (rC a)
theorem Y7{E:List Expr}(h:E.all oq=true):(E.map nZ).all cg=true:=by
 rw[List.all_eq_true]at h ⊢
 intro v H
 obtain⟨e,a,rfl⟩:=List.mem_map.mp H
 have q:=h e a
 unfold oq at q
 unfold nZ
 cases e with
 |Constant c j p=>
  cases c with
  |str x=>rfl
  |int i=>rfl
  |_=>exact absurd q DR
 |_=>exact absurd q DR
def Bo(t:TS):TS:=λD b H=>∃R:St->Hp->Prop,t { D with nx:=R } b H/\∀a h,R a h->D.nx a h
theorem jW{st:Stmt}{t:TS}(h:PS X st t):PS X st (Bo t):=by
 intro p s b H D I c
 obtain⟨R,d,e⟩:=c
 refine aO (h p s b H _ I d) λf S q=>?_
 cases f with
 |next=>obtain⟨a,g,i,q⟩:=q;exact#[a,g,i,e _ _ q]
 |brk=>exact q
 |cont=>exact q
 |ret v=>exact q
theorem sS{t:St}(h:t.length=1):∃v,t=[v]:=by
 cases t with
 |nil=>cases h
 |cons v r=>
  cases r with
  |nil=>exact#[v,Z]
  |cons _ _=>cases h
theorem qm{lo:Int}{n:Nat}{t:TE}{Q:List V->Hp->Prop}(Pv:Nat->List V->Hp->Prop)(g:Pv 0 [] H)(j:n<=sizeLine)(b:∀i Y h,Pv i Y h->Y.length<=i)
  (k:∀i Y h,i < n->Pv i Y h->t (some (.int (lo+i))::c) h λy d=>Pv (i+1) (Y++[y]) d) (l:∀Y h,Pv n Y h->Q Y h):
  eO (sg lo n) 1 c (bg 0) lh t Q H:=by
 refine#[λi m Y h=>m=n - i/\i<=n/\Pv i Y h,#[n,IN,DX _,g],?_]
 rintro i m Y h ⟨rfl,q,p⟩
 by_cases a:i < n
 ·refine .inr #[a,Fe (b i Y h p) (DW a j),Pv (i+1),λo d P=>#[n - (i+1),IM,Z,a,P],λx d T f y=>?_]
  obtain⟨e,y⟩:=y
  subst e y
  obtain⟨v,rfl⟩:=sS f
  exact#[#[[some _],Z,Z],k i Y _ a p]
 ·have e:i=n:=by omega
  subst e
  exact .inl #[DN _,l Y h p]
end
section
variable {κ:Type}[DecidableEq κ]
noncomputable def be(K:List (κ×V))(k:κ):Option V:=(K.find? λa=>decide (a.1=k)).map (·.2)
noncomputable def aH(K:List (κ×V))(k:κ)(v:V):List (κ×V):=
 if (K.any λa=>decide (a.1=k))=true then K.map (λa=>if a.1=k then (a.1,v) else a) else K++[(k,v)]
noncomputable def gi(K:List (κ×V))(k:κ):List (κ×V):=K.filter λa=>decide (a.1≠k)
theorem rL:be ([]:List (κ×V)) k=none:=rfl
theorem jY{p:κ×V}(e:p.1=k):be (p::r) k=some p.2:=by simp [be,Fx,e]
theorem j8{p:κ×V}(e:¬p.1=k):be (p::r) k=be r k:=by simp [be,Fx,e]
theorem qX(k:κ):∀K:List (κ×V),(K.any λa=>decide (a.1=k))=(be K k).isSome
 | []=>rfl
 |p::r=>by
  rw[GX]
  by_cases e:p.1=k
  ·simp only[jY e,Ea e,Bool.true_or,Option.isSome_some]
  ·rw[j8 e,DU e,Bool.false_or];exact qX k r
theorem Q3(k j:κ)(y:V):∀K:List (κ×V),be (K.map λa=>if a.1=k then (a.1,y) else a) j=(be K j).map λx=>if j=k then y else x
 | []=>rfl
 |p::r=>by
  have i:=Q3 k j y r
  rw[ES]
  by_cases h:p.1=k
  ·rw[D0 h]
   by_cases e:p.1=j
   ·rw[jY (p:=(p.1,y)) e,jY e,Hn,D0 (e.symm.trans h)]
   ·rw[j8 (p:=(p.1,y)) e,j8 e,i]
  ·rw[D1 h]
   by_cases e:p.1=j
   ·rw[jY (p:=p) e,jY e,Hn,D1 (λz=>h (e.trans z))]
   ·rw[j8 (p:=p) e,j8 e,i]
theorem Qe(k j:κ)(y:V):∀K:List (κ×V),be K k=none->be (K++[(k,y)]) j=if j=k then some y else be K j
 | [],_=>by
  by_cases e:k=j
  ·rw[D0 e.symm];exact jY (p:=(k,y)) e
  ·rw[D1 (λz=>e z.symm)];exact j8 (p:=(k,y)) e
 |p::r,h=>by
  rw[List.cons_append]
  have H:¬p.1=k:=λz=>by rw[jY z]at h;cases h
  rw[j8 H]at h
  have i:=Qe k j y r h
  by_cases e:p.1=j
  ·rw[jY e,jY e,D1 (λz=>H (e.trans z))]
  ·rw[j8 e,j8 e,i]
theorem rM(K:List (κ×V))(k j:κ)(y:V):be (aH K k y) j=if j=k then some y else be K j:=by
 unfold aH
 by_cases a:(K.any λb=>decide (b.1=k))=true
 ·rw[D0 a,Q3]
  rw[qX]at a
  by_cases e:j=k
  ·obtain⟨x,h⟩:=Option.isSome_iff_exists.mp a
   rw[D0 e,e,h,Hn,D0 Z]
  ·rw[D1 e]
   cases be K j with
   |none=>rfl
   |some x=>rw[Hn,D1 e]
 ·rw[D1 a]
  refine Qe k j y K ?_
  rw[qX]at a
  cases q:be K k with
  |none=>rfl
  |some x=>rw[q]at a;exact(a Z).elim
theorem qo(K:List (κ×V))(k:κ)(v:V):(aH K k v).length<=K.length+1:=by
 unfold aH
 split
 ·rw[DK];omega
 ·rw[DM,El,Il];omega
theorem dy.isSome_eq(r:dy o u):o.isSome=u.isSome:=by
 cases o with
 |none=>cases u with
  |none=>rfl
  |some _=>exact(show False from r).elim
 |some _=>cases u with
  |none=>exact(show False from r).elim
  |some _=>rfl
theorem dy.getD(r:dy o u)(R:ax d D):ax (o.getD d) (u.getD D):=by
 cases o with
 |none=>cases u with
  |none=>exact R
  |some _=>exact(show False from r).elim
 |some _=>cases u with
  |none=>exact(show False from r).elim
  |some _=>exact r
theorem KV.val(r:KV a v)(k:κ):dy (be a k) (valueAt v k):=by
 unfold KV at r
 induction r with
 |nil=>exact True.intro
 | @cons p q P Q h t i=>
  obtain⟨H,c⟩:=h
  by_cases e:p.1=k
  ·have E:q.1=k:=H.symm.trans e
   have b:valueAt (q::Q) k=some q.2:=by simp [valueAt,Fx,E]
   rw[jY e,b];exact c
  ·have E:¬q.1=k:=λz=>e (H.trans z)
   have b:valueAt (q::Q) k=valueAt Q k:=by simp [valueAt,Fx,E]
   rw[j8 e,b];exact i
theorem KV.any(r:KV a v)(k:κ):(a.any λK=>decide (K.1=k))=v.any λK=>decide (K.1=k):=by
 unfold KV at r
 induction r with
 |nil=>rfl
 |cons h t i=>rw[GX,GX,i,h.1]
theorem KV.repl(r:KV a v)(k:κ)(R:ax y u):
  KV (a.map λK=>if K.1=k then (K.1,y) else K) (v.map λK=>if K.1=k then (K.1,u) else K):=by
 unfold KV at r ⊢
 induction r with
 |nil=>exact .nil
 | @cons p q P Q h t i=>
  rw[ES,ES]
  refine .cons ?_ i
  obtain⟨H,b⟩:=h
  by_cases e:p.1=k
  ·rw[D0 e,D0 (H.symm.trans e)];exact#[H,R]
  ·rw[D1 e,D1 (λz=>e (H.trans z))];exact#[H,b]
theorem KV.put(r:KV a v)(k:κ)(R:ax y u):KV (aH a k y) (stored v k u):=by
 unfold aH stored
 rw[r.any k]
 by_cases e:(v.any λK=>decide (K.1=k))=true
 ·rw[D0 e,D0 e];exact r.repl k R
 ·rw[D1 e,D1 e];exact Paired.snoc r #[Z,R]
theorem KV.drop(r:KV c v)(k:κ):KV (gi c k) (without v k):=by
 unfold KV at r ⊢
 unfold gi without
 induction r with
 |nil=>exact .nil
 | @cons p q P Q h t i=>
  obtain⟨H,d⟩:=h
  rw[List.filter_cons,List.filter_cons]
  by_cases e:p.1=k
  ·have a:¬decide (p.1≠k)=true:=by simp [e]
   have b:¬decide (q.1≠k)=true:=by simp [H.symm.trans e]
   rw[D1 a,D1 b];exact i
  ·have E:¬q.1=k:=λz=>e (H.trans z)
   have a:decide (p.1≠k)=true:=by simp [e]
   have b:decide (q.1≠k)=true:=by simp [E]
   rw[D0 a,D0 b];exact .cons #[H,d] i
theorem KV.length(r:KV k v):k.length=v.length:=Paired.length r
theorem Kj(K:List (κ×V))(k:κ):(gi K k).length<=K.length:=FP _ _
end
theorem J1{P:Program}(r:ax (kV k) u):(aL P w).is k u=true:=by
 cases k with
 |inl i=>obtain⟨t,e⟩:=(show ∃t,u=Value.int i t from r);subst e;exact Xj P w i t
 |inr x=>obtain⟨t,e⟩:=(show ∃t,u=Value.str x t from r);subst e;exact Xk P w x t
theorem Qg{P:Program}:∀{K:List aV} {u:List Value},au (K.map kV) u->ItemsAre (aL P w) K u
 | [],_,r=>by rw[List.map_nil]at r;cases r;exact .nil
 |k::K,_,r=>by
  rw[ES]at r
  cases r with
  |cons h t=>exact .cons (J1 h) (Qg t)
abbrev KT(H:Hp):List (List aV×V)->List (List aV×Addr×Value)->Prop:=Paired λp q=>p.1=q.1/\H q.2.1=some (.tup (p.1.map kV))/\ax p.2 q.2.2
theorem KT.val(r:KT H a x)(k:List aV):dy (be a k) ((atKey x k).map (·.2)):=by
 induction r with
 |nil=>exact True.intro
 | @cons p q P Q h t i=>
  obtain⟨c,_,d⟩:=h
  by_cases e:p.1=k
  ·have E:q.1=k:=c.symm.trans e
   have b:atKey (q::Q) k=some q.2:=by simp [atKey,Fx,E]
   rw[jY e,b];exact d
  ·have E:¬q.1=k:=λz=>e (c.trans z)
   have b:atKey (q::Q) k=atKey Q k:=by simp [atKey,Fx,E]
   rw[j8 e,b];exact i
theorem KT.repl(r:KT H b x)(k:List aV)(R:ax y u):
  KT H (b.map λK=>if K.1=k then (K.1,y) else K) (x.map (putAt k u)):=by
 induction r with
 |nil=>exact .nil
 | @cons p q P Q h t i=>
  rw[ES,ES]
  refine .cons ?_ i
  obtain⟨a,c,d⟩:=h
  unfold putAt
  by_cases e:p.1=k
  ·rw[D0 e,D0 (a.symm.trans e)];exact#[a,c,R]
  ·rw[D1 e,D1 (λz=>e (a.trans z))];exact#[a,c,d]
theorem KT.put(r:KT H a x)(k:List aV)(h:H b=some (.tup (k.map kV)))(R:ax y u):
  KT H (aH a k y) (storedH x k b u):=by
 have e:(a.any λK=>decide (K.1=k))=(atKey x k).isSome:=by
  rw[qX,(r.val k).isSome_eq,Option.isSome_map]
 unfold aH storedH
 rw[e]
 by_cases q:(atKey x k).isSome=true
 ·rw[D0 q,D0 q];exact r.repl k R
 ·rw[D1 q,D1 q];exact Paired.snoc r #[Z,h,R]
theorem KT.keeps{h:Hp}(r:KT H k x)(a:∀b y,H b=some (.tup y)->h b=some (.tup y)):KT h k x:=
 Paired.mapP r λ_ _ z=>#[z.1,a _ _ z.2.1,z.2.2]
section
variable {P:Program}{w:World}{H:Hp}{h:Heap}{a:Addr}
theorem vN(o:el P w H h)(e:Rd H a u):aG P w H h a u:=e.ok o
theorem J2(o:el P w H h)(e:Rd H a (.dK k)):k.length<=sizeLine/\(a==sysModules)=false/\∃v,KV k v/\h.DictOf (aL P w) a v:=
 show aG P w H h a (.dK k) from vN o e
theorem QX(o:el P w H h)(e:H a=some (.dK k)):k.length<=sizeLine/\(a==sysModules)=false/\∃v,KV k v/\h.DictOf (aL P w) a v:=J2 o (.inl e)
theorem Ka{k:List aV}(O:el P w H h)(e:H a=some (.tup (k.map kV))):(tupleKind (aL P w)).is h k a:=by
 obtain⟨_,i,r,o,b,c,n,d⟩:=(show aG P w H h a (.tup (k.map kV)) from O a _ e)
 exact#[o,i.toArray,n,b,c,d,by simpa using Qg r]
theorem KZ(O:el P w H h)(e:Rd H a (.dT k)):k.length<=sizeLine/\(a==sysModules)=false/\
  ∃X,KT H k X/\h.DictOfH (tupleKind (aL P w)) a X:=by
 obtain⟨z,y,X,r,o,E,c,d,f,g,i,j⟩:=(show aG P w H h a (.dT k) from vN O e)
 refine#[z,y,X,r,o,E,c,d,f,g,i,λx hx=>?_,j]
 have all:∀{l:List (List aV×V)} {m:List (List aV×Addr×Value)},KT H l m->∀x∈m,(tupleKind (aL P w)).is h x.1 x.2.1:=by
  intro l m q
  induction q with
  |nil=>intro x hx;exact nomatch hx
  | @cons p q n Q b t I=>
   intro x hx
   rcases List.mem_cons.mp hx with e |hx
   ·subst e
    exact Ka O (by rw[<- b.1];exact b.2.1)
   ·exact I x hx
 exact all r x hx
theorem Aq(o:el P w H h)(e:H a=some (.dT k)):k.length<=sizeLine/\(a==sysModules)=false/\
  ∃x,KT H k x/\h.DictOfH (tupleKind (aL P w)) a x:=KZ o (.inl e)
end
def dm(H:Hp)(a:Addr)(y:V)(r:Option V):Prop:=
 (∃K k,Rd H a (.dK K)/\y=kV k/\r=be K k)∨∃K k b,Rd H a (.dT K)/\y= .ref b/\H b=some (.tup (k.map kV))/\r=be K k
def gE(H:Hp)(a:Addr)(y v:V)(h:Hp):Prop:=
 (∃K k,H a=some (.dK K)/\y=kV k/\K.length < sizeLine/\h=af H a (.dK (aH K k v)))∨
 ∃K k b,H a=some (.dT K)/\y= .ref b/\H b=some (.tup (k.map kV))/\K.length < sizeLine/\h=af H a (.dT (aH K k v))
theorem dm.k{H:Hp}{k:aV}(e:H a=some (.dK b)):dm H a (kV k) (be b k):=.inl #[b,k,.inl e,Z,Z]
theorem gE.k{H:Hp}{k:aV}(e:H a=some (.dK b))(h:b.length < sizeLine):gE H a (kV k) v (af H a (.dK (aH b k v))):=.inl #[b,k,e,Z,h,Z]
section
variable {X:Cx}{pins:List (Addr×Obj)}{σ:St}{H:Hp}{s:Shared}{a:Addr}{y v:V}{u r:Value}{o:Option V}{A:Around}{E:Value->Shared->Prop}
theorem ao.big(I:ao X pins σ H s):sysModules < s.heap.objs.size:=by
 have h:mainGlobals < s.heap.objs.size:=(I.mod.glob.keeps I.bk).lt
 exact Nat.lt_trans IL h
theorem Y8{Q:Value->Shared->Prop}(m:A.units+1 < cLine)(I:ao X pins σ H s)(g:dm H a y (some v))(j:ax y u)(h:∀W S,ao X pins σ H S->ax v W->Q W S):
  wpAny (model X.prog X.w) A (getItem (.ref a) u) Q E s:=by
 rcases g with ⟨K,k,e,d,l⟩ | ⟨K,k,b,e,d,n,l⟩
 ·subst d
  obtain⟨z,q,t,R,D⟩:=J2 I.hok e
  obtain⟨W,f,c⟩:=dy.some_of (v:=v) (o:=valueAt t k) (by rw[l];exact R.val k)
  exact wpAny_getItem_of (J1 j) D.mapOf f (h W _ (I.tok _) c)
 ·subst d
  cases (show u=Value.ref b from j)
  obtain⟨z,q,x,R,D⟩:=KZ I.hok e
  obtain⟨W,f,c⟩:=dy.some_of (v:=v) (o:=(atKey x k).map (·.2)) (by rw[l];exact R.val k)
  obtain⟨p,B,i⟩:=Option.map_eq_some_iff.mp f
  refine wpAny_getItem_heap (GY m) (Ka I.hok n) D B ?_
  rw[i]
  exact h W _ (I.tok _) c
theorem Ce{Q:Value->Shared->Prop}(i:A.units+1 < cLine)(I:ao X pins σ H s)(g:dm H a y o)(f:ax y u)(h:∀S,ao X pins σ H S->Q (.bool o.isSome) S):
  wpAny (model X.prog X.w) A (compareOp .In u (.ref a)) Q E s:=by
 rcases g with ⟨K,k,e,c,l⟩ | ⟨K,k,b,e,c,j,l⟩
 ·subst c
  obtain⟨z,d,m,R,D⟩:=J2 I.hok e
  refine wpAny_in_of (J1 f) d D.mapOf ?_
  rw[<- (R.val k).isSome_eq,<- l]
  exact h _ (I.tok _)
 ·subst c
  cases (show u=Value.ref b from f)
  obtain⟨z,d,x,R,D⟩:=KZ I.hok e
  refine wpAny_in_heap (GY i) (Ka I.hok j) d D ?_
  have q:=(R.val k).isSome_eq
  rw[Option.isSome_map]at q
  rw[<- q,<- l]
  exact h _ (I.tok _)
theorem QI(I:ao X pins σ H s)(m:Ab (H a))(c:Heap.SameBut a s.heap h)(d:∃q,h.get? a=some q)(n:aG X.prog X.w (af H a O) h a O):
  ao X pins σ (af H a O) { s with heap:=h,toks:=t }:=
 I.write (x:=a) (e:=a) m (.inl Z) (λb q f z=>(c.2 b f).trans z) d n
theorem Qx{P:Program}{h:Heap}{k:List (aV×V)}(z:k.length<=sizeLine)(c:(a==sysModules)=false)(R:KV k b)(d:h.DictOf (aL P w) a b):
  aG P w e h a (.dK k):=#[z,c,b,R,d]
theorem Y9{Q:Unit->Shared->Prop}(J:A.units+1 < cLine)(I:ao X pins σ H s)(g:gE H a y v L)(x:ax y u)(B:ax v r)(h:∀S,ao X pins σ L S->Q () S):
  wpAny (model X.prog X.w) A (setItem (.ref a) u r) Q E s:=by
 rcases g with ⟨K,k,e,i,l,j⟩ | ⟨K,k,b,e,i,C,l,j⟩
 ·subst i j
  obtain⟨z,m,M,R,D⟩:=QX I.hok e
  have n:M.length<=sizeLine:=by rw[<- R.length];exact z
  have p:(aH K k v).length<=sizeLine:=by have:=qo K k v;omega
  refine wpAny_setItem_pairs (hsz:=n) (J1 x) D λF d t=>h _ ?_
  have N:∃q,F.get? a=some q:=let #[q,_,_,f,_]:=d;#[q,f]
  exact QI I (by rw[e];exact True.intro) t N (Qx p m (R.put k B) d)
 ·subst i j
  cases (show u=Value.ref b from x)
  obtain⟨z,m,O,R,D⟩:=Aq I.hok e
  have n:O.length<=sizeLine:=by rw[<- Paired.length R];exact z
  have p:(aH K k v).length<=sizeLine:=by have:=qo K k v;omega
  refine wpAny_setItem_heap (hsz:=n) (GY J) (Ka I.hok C) D λF d t=>h _ ?_
  obtain⟨q,P,T,f,U,W,Y,_,h5⟩:=d
  refine QI I (by rw[e];exact True.intro) t #[q,f] #[p,m,_,(R.put k C B).keeps λc ys G=>?_,q,P,T,f,U,W,Y,h5]
  rw[jj (jG G e (λz=>nomatch z))]
  exact G
end
section
variable {X:Cx}{pins:List (Addr×Obj)}{σ:St}{H:Hp}{s:Shared}{a:Addr}{kvs:List (aV×V)}{k:aV}{u:Value}{A:Around}{E:Value->Shared->Prop}
theorem An{Q:Value->Shared->Prop}(I:ao X pins σ H s)(e:H a=some (.dK kvs))(R:ax (kV k) u)(l:be kvs k=some v)(c:m=[]∨∃x,m=[x])
  (h:∀W S,ao X pins σ (af H a (.dK (gi kvs k))) S->ax v W->Q W S):wpAny (model X.prog X.w) A (call (.builtin "dict.pop") (.ref a::u::m)) Q E s:=by
 obtain⟨z,g,f,r,D⟩:=QX I.hok e
 obtain⟨W,j,b⟩:=dy.some_of (v:=v) (o:=valueAt f k) (by rw[<- l];exact r.val k)
 have n:(keyPart u).isSome=true:=by
  cases k with
  |inl i=>obtain⟨t,q⟩:=(show ∃t,u=Value.int i t from R);subst q;rfl
  |inr x=>obtain⟨t,q⟩:=(show ∃t,u=Value.str x t from R);subst q;rfl
 have p:argsOk "dict.pop" #[.ref a::u::m,[]]:=by
  rcases c with q | ⟨x,q⟩
  ·subst q;exact PySem.F.args_dict_pop_2 _ _
  ·subst q;exact PySem.F.args_dict_pop_3 _ _ _
 refine call_meetsIn PySem.F.slot_dict_pop D.typeIs PySem.F.entry_dict_pop p (meets_dict_pop_there (aL X.prog X.w) a (J1 R) m c n)
  #[f,W,D,by rw[<- r.length];exact z,j,λy d B=>h W _ ?_ b]
 have C:∃q,y.get? a=some q:=let #[q,_,_,G,_]:=d;#[q,G]
 exact QI I (by rw[e];exact True.intro) B C (Qx (DV (Kj kvs k) z) g (r.drop k) d)
end
def Ac(i:Expr):Prop:=∀o I,subscripted i false o I=operate [o,I] (getItem o I)
theorem uR{id:String}
  (k:typeLookup (.type T) "__getitem__"=pure (some (.builtin id))) (l:Ac a)
  (h:wpAny (model p w) A (eval v e) (λo b=>wpAny (model p w) A (eval a e) (λi S=>S.TypeIs o T/\wpAny (model p w) A (getItem o i) Q E S) E b) E s):
  wpAny (model p w) A (eval (.Subscript v a m) e) Q E s:=by
 refine Subscript_ (EK h (λo b d=>EK d (λi S H=>?_) λ_ _ x=>x) λ_ _ x=>x)
 obtain⟨j,H⟩:=H
 unfold subscriptTail
 refine DG ?_
 rw[getitemInPython_of_ne j.not_modules]
 refine DG (Fo j k ?_)
 have f:wpAny (model p w) A (subscripted a false o i) (λr c=>wpAny (model p w) A (letTemporaryGo v o r >>= λ_=>pure r) Q E c) E S:=by
  rw[l o i]
  exact wpAny_operating (EK H (λr c g=>DG (wpAny_letTemporaryGo (DH g))) λ_ _ x=>x)
 first
  |exact DH (DG f)
  |exact DG (DH (DG f))
  |exact DG f
theorem Xm{X:Cx}(I:ao X p c H s)(g:dm H a y o):s.TypeIs (.ref a) "dict":=by
 rcases g with ⟨K,k,e,_,_⟩ | ⟨K,k,b,e,_,_,_⟩
 ·obtain⟨_,_,v,_,d⟩:=J2 I.hok e
  exact d.typeIs
 ·obtain⟨_,_,x,_,d⟩:=KZ I.hok e
  exact d.typeIs
def Bm(t T:TE):TE:=λb H Q=>t b H λx c=>T b c λy h=>∃a v,x= .ref a/\dm h a y (some v)/\Q v h
def CQ(t T:TE):TE:=λb H Q=>t b H λy c=>T b c λx h=>∃a o,x= .ref a/\dm h a y o/\Q (.bl o.isSome) h
def ph(t T c:TE):TS:=λD b H=>c b H λv d=>t b d λx e=>T b e λy f=>∃a h,x= .ref a/\gE f a y v h/\D.nx b h
section
variable {X:Cx}{o i e value:Expr}{pos pos' tpos:Pos}{td ty tv:TE}
theorem ua(d:X.A.units+1 < cLine)(f:PE X o td)(j:PE X i ty)(k:Ac i):PE X (.Subscript o i pos) (Bm td ty):=by
 intro p s b H Q I h
 refine uR PySem.F.slot_dict_getitem.lookup k (aO (f p s b H _ I h) λu S #[x,l,m,R,q]=>aO (j p S b l _ m q) λC D z=>?_)
 obtain⟨y,n,c,t,a,v,E,g,w⟩:=z
 subst E
 obtain rfl:u=Value.ref a:=R
 exact#[Xm c g,Y8 d c g t λW G B r=>#[v,n,B,r,w]]
theorem x6(c:X.A.units+1 < cLine)(d:PE X i ty)(f:PE X o td):PC X .In i o (CQ ty td):=by
 intro p s b H Q I h
 refine aO (d p s b H _ I h) λv S #[y,j,k,r,q]=>aO (f p S b j _ k q) λu w z=>?_
 obtain⟨x,l,m,R,a,O,E,g,n⟩:=z
 subst E
 obtain rfl:u=Value.ref a:=R
 exact Ce c m g r λB t=>#[.bl O.isSome,l,t,Z,n]
theorem ze(c:X.A.units+1 < cLine)(d:PE X o td)(f:PE X i ty)(j:PE X value tv)(k:swapsWith value (some (.Subscript o i pos')) pos.line X.env=pure false):
  PS X (.Assign [.Subscript o i pos'] value pos) (ph td ty tv):=by
 intro p s b H D I h
 refine wpAny_Assign_Subscript (aO (j p s b H _ I h) λr S #[v,l,m,R,q]=>aO (d p S b l _ m q) λu n #[x,t,w,B,Q]=>aO (f p n b t _ w Q) λL M z=>?_) k
 obtain⟨y,N,C,E,a,F,G,g,J⟩:=z
 subst G
 obtain rfl:u=Value.ref a:=B
 exact Y9 c C g E R λO K=>#[b,F,K,J]
end
theorem oe{P:Program}(h:Heap)(a:sysModules < h.objs.size):aG P w H (h.push { cls:=.type "dict",data:=.dict (List.toArray []) }) h.objs.size (.dK []):=
 #[DX _,beq_eq_false_iff_ne.mpr (Eg (DS a)),[],.nil,Heap.DictOf.new h]
def yK:TE:=λ_ H Q=>∀p,H p=none->Q (.ref p) (af H p (.dK []))
section
variable {X:Cx}{pos:Pos}
theorem qi:PE X (.Dict [] [] pos) yK:=λp s b H Q I h=>
 wpAny_Dict_empty #[.ref s.heap.objs.size,_,I.laid (a:=s.heap.objs.size) (o:=.dK []) (t':=s.toks) (λ_ _ q=>DI _ q) (DN _) (oe s.heap I.big),Z,h _ (I.hok.fresh (DN _))]
end
noncomputable def cw(k m:List (aV×V)):List (aV×V):=m.foldl (λa K=>aH a K.1 K.2) k
theorem KV.merge:∀{m:List (aV×V)} {R:List (aV×Value)} {k:List (aV×V)} {v:List (aV×Value)},KV m R->KV k v->KV (cw k m) (merged v R):=by
 intro m R k v r
 unfold KV at r
 induction r generalizing k v with
 |nil=>intro q;exact q
 | @cons p q P Q h t i=>
  intro a
  have e:KV (aH k p.1 p.2) (stored v q.1 q.2):=by
   have:=a.put p.1 h.2
   rw[<- h.1];exact this
  exact i e
theorem qv:∀(m k:List (aV×V)),(cw k m).length<=k.length+m.length
 | [],k=>by show k.length<=k.length+0;omega
 |p::r,k=>by
  have h:=qv r (aH k p.1 p.2)
  have H:=qo k p.1 p.2
  show(cw (aH k p.1 p.2) r).length<=_
  rw[El];omega
structure M1(X:Cx)(o:Expr)(m:Str)(apos:Pos)(e:Expr)(cpos:Pos):Prop where
 base:attributeBase o m X.env (eval o X.env)=eval o X.env
 few:((backTo cpos (starEach [e] X.env)).all (λx=>!x.1)&&(backToKw cpos (keywordEach [] X.env)).all (λx=>x.1.isSome)
  &&decide (([e]:List Expr).length+([]:List Keyword).length+(if ([]:List Keyword).isEmpty then 0 else 1) < 30))=true
 line:(apos.endLine==cpos.line)=true
 trees:backTo cpos (starEach [e] X.env)=[(false,eval e X.env)]
structure M2(X:Cx)(o:Expr)(m:Str)(apos:Pos)(e f:Expr)(cpos:Pos):Prop where
 base:attributeBase o m X.env (eval o X.env)=eval o X.env
 few:((backTo cpos (starEach [e,f] X.env)).all (λx=>!x.1)&&(backToKw cpos (keywordEach [] X.env)).all (λx=>x.1.isSome)
  &&decide (([e,f]:List Expr).length+([]:List Keyword).length+(if ([]:List Keyword).isEmpty then 0 else 1) < 30))=true
 line:(apos.endLine==cpos.line)=true
 trees:backTo cpos (starEach [e,f] X.env)=[(false,eval e X.env),(false,eval f X.env)]
def BQ(H:Hp)(a:Addr):Prop:=(∃k,Rd H a (.dK k))∨∃k,Rd H a (.dT k)
theorem ZR{X:Cx}(I:ao X p g H s)(d:BQ H a):
  s.TypeIs (.ref a) "dict"/\(∀b,Value.ref a= .ref b->∃o,s.heap.get? b=some o/\o.dict=none)/\(a==sysModules)=false:=by
 rcases d with ⟨k,e⟩ | ⟨k,e⟩
 ·obtain⟨_,h,v,_,D⟩:=J2 I.hok e
  refine#[D.typeIs,λb q=>?_,h]
  cases q
  obtain⟨o,_,_,c,f,_⟩:=D
  exact#[o,c,f.2.1]
 ·obtain⟨_,h,x,_,D⟩:=KZ I.hok e
  refine#[D.typeIs,λb q=>?_,h]
  cases q
  obtain⟨o,_,_,c,f,_⟩:=D
  exact#[o,c,f.2.1]
section
variable {X:Cx}{pins:List (Addr×Obj)}{σ:St}{H:Hp}{s:Shared}{a:Addr}{y d:V}{u r:Value}{o:Option V}{A:Around}{E:Value->Shared->Prop}
theorem wE{Q:Value->Shared->Prop}(m:A.units+1 < cLine)(I:ao X pins σ H s)(g:dm H a y o)(i:ax y u)(j:ax d r)(h:∀W S,ao X pins σ H S->ax (o.getD d) W->Q W S):
  wpAny (model X.prog X.w) A (call (.builtin "dict.get") [.ref a,u,r]) Q E s:=by
 rcases g with ⟨K,k,e,c,l⟩ | ⟨K,k,b,e,c,n,l⟩
 ·subst c
  obtain⟨z,f,v,R,D⟩:=J2 I.hok e
  refine call_meetsIn Hw D.typeIs PySem.F.entry_dict_get (IH _ _ _) (meets_dict_get_default (aL X.prog X.w) a (J1 i) f r) #[_,D.mapOf,h _ _ (I.tok _) ?_]
  rw[l]
  exact(R.val k).getD j
 ·subst c
  cases (show u=Value.ref b from i)
  obtain⟨z,f,x,R,D⟩:=KZ I.hok e
  refine call_meetsIn Hw D.typeIs PySem.F.entry_dict_get (IH _ _ _) (meetsH_dict_get_default (tupleKind (aL X.prog X.w)) a b f r) #[GY m,k,x,Ka I.hok n,D,h _ _ (I.tok _) ?_]
  rw[l]
  exact(R.val k).getD j
end
def yJ(t T d:TE):TE:=λb H Q=>t b H λx h=>∃a,x= .ref a/\BQ h a/\T b h λy e=>d b e λz c=>∃o,dm c a y o/\Q (o.getD z) c
def yL(t T:TE):TE:=λb H Q=>t b H λx h=>∃a,x= .ref a/\BQ h a/\T b h λy c=>∃K k v,c a=some (.dK K)/\y=kV k/\be K k=some v/\Q v (af c a (.dK (gi K k)))
section
variable {X:Cx}{o e f:Expr}{apos cpos:Pos}{td ty tx:TE}
theorem kW(j:X.A.units+1 < cLine)(k:PE X o td)(l:PE X e ty)(n:PE X f tx)(m:M2 X o "get" apos e f cpos):PE X (.Call (.Attribute o "get" apos) [e,f] [] cpos) (yJ td ty tx):=by
 intro p s b H Q I h
 refine wpAny_Call_method m.base m.few m.line IF Hw PySem.F.type_dict_get (aO (k p s b H _ I h) λu S c=>?_)
 obtain⟨x,q,i,R,a,E,d,t⟩:=c
 subst E
 obtain rfl:u=Value.ref a:=R
 obtain⟨T,v,_⟩:=ZR i d
 refine#[T,v,?_]
 rw[m.trees]
 refine GG Z (HZ (Fg (aO (l p S b q _ i t) λO w #[y,B,C,D,G]=>
  Fg (aO (n p w b B _ C G) λP U #[z,J,K,L,V,g,M]=>FK ?_))))
 exact wE j K g D L λW Y N r=>#[_,J,N,r,M]
theorem oQ(c:PE X o td)(g:PE X e ty)(m:M1 X o "pop" apos e cpos):PE X (.Call (.Attribute o "pop" apos) [e] [] cpos) (yL td ty):=by
 intro p s b H Q I h
 refine wpAny_Call_method m.base m.few m.line IF PySem.F.slot_dict_pop PySem.F.type_dict_pop (aO (c p s b H _ I h) λu S z=>?_)
 obtain⟨x,j,i,R,a,E,d,q⟩:=z
 subst E
 obtain rfl:u=Value.ref a:=R
 obtain⟨t,T,_⟩:=ZR i d
 refine#[t,T,?_]
 rw[m.trees]
 refine GG Z (HZ (Fg (aO (g p S b j _ i q) λG J #[y,L,n,w,K,k,v,A,B,l,C]=>FK ?_)))
 subst B
 exact An n A w l (.inl Z) λW M D r=>#[v,_,D,r,C]
end
section
variable {X:Cx}{pins:List (Addr×Obj)}{σ:St}{H:Hp}{s:Shared}{a:Addr}{kvs:List (aV×V)}{A:Around}{E:Value->Shared->Prop}
theorem n9{Q:Value->Shared->Prop}(I:ao X pins σ H s)(e:Rd H a (.dK kvs))(h:∀p S,H p=none->ao X pins σ (af H p (.dK kvs)) S->Q (.ref p) S):wpAny (model X.prog X.w) A (call (.type "dict") [.ref a]) Q E s:=by
 obtain⟨z,f,v,r,D⟩:=J2 I.hok e
 refine kt_call_dict f D (by rw[<- r.length];exact z) λi d g=>?_
 refine h _ _ (I.hok.fresh (DN _)) (I.laid (a:=s.heap.objs.size) (o:=.dK kvs) (t':=s.toks) (λb q c=>?_) (DN _) (Qx z (beq_eq_false_iff_ne.mpr (Eg (DS I.big))) r d))
 exact(g.2 b (DS (DO c))).trans (DI _ c)
end
section
variable {κ:Type}[DecidableEq κ]
theorem Za{K:List (κ×V)}{k:κ}{p:κ×V}(h:p∈gi K k):p∈K:=(List.mem_filter.mp h).1
end
section
variable {X:Cx}{pins:List (Addr×Obj)}{σ:St}{H:Hp}{s:Shared}
theorem KV.get{a:Type}:∀{K:List (a×V)} {c:List (a×Value)} {i:Nat} {k:a} {x:V},KV K c->K[i]?=some (k,x)->∃v,c[i]?=some (k,v)/\ax x v
 |_,_,_,_,_,.nil,e=>by simp at e
 |_,_,0,k,x,.cons (b:=q) r _,e=>by
  simp at e
  subst e
  obtain⟨R,d⟩:=r
  obtain⟨g,Q⟩:=q
  cases R
  exact#[Q,Z,d]
 |_,_,i+1,k,x,.cons _ t,e=>by
  obtain⟨v,h,f⟩:=KV.get (i:=i) t (by simpa using e)
  exact#[v,by simpa using h,f]
theorem CA(h:gH k v=true):ax (kV k) v:=by
 rcases jR h with ⟨i,t,rfl,rfl⟩ | ⟨x,t,rfl,rfl⟩
 ·exact#[t,Z]
 ·exact#[t,Z]
theorem zO:dB X (.type "dict") (λx H Q=>∃a k,x=[.ref a]/\H a=some (.dK k)/\∀p,H p=none->Q (.ref p) (af H p (.dK k))):=by
 intro pins s σ H x U Q I r h
 obtain⟨a,k,rfl,b,q⟩:=h
 obtain⟨u,rfl,R⟩:=dW r
 cases R
 exact n9 I (.inl b) λp S n i=>#[.ref p,_,i,Z,q p n]
theorem JA{a:Type}[DecidableEq a]{k:a}{y:Value}:∀{K:List (a×Value)},(K.map (·.1)).Nodup->(k,y)∈K->valueAt K k=some y
 | [],_,h=>nomatch h
 | (j,z)::r,n,h=>by
  unfold valueAt
  rw[ES,Ij]at n
  rcases List.mem_cons.mp h with e |h
  ·cases e
   simp [Fx]
  ·have b:¬j=k:=λe=>n.1 (by rw[e];exact List.mem_map.mpr #[_,h,Z])
   rw[Fx]
   simp only[b,decide_false]
   exact JA n.2 h
theorem Q4{a:Type}[DecidableEq a]{A:Around}{s:Shared}{K:List (a×Value)}:∀{l:List (a×Value)},(∀p∈l,∃y,valueAt K p.1=some y/\SeqAt.EqAt A s p.2 y true)->PySem.W.KeqHits A s K l true
 | [],_=>.nil
 | (k,v)::r,h=>by
  obtain⟨y,c,d⟩:=h (k,v) D3
  exact .hit (e:=true) (b:=true) c d (Q4 λp f=>h p (D9 _ f))
theorem xU(o:X.A.units < cLine):gc X (compareOp .Eq) (λx y H Q=>∃a b k,x= .ref a/\y= .ref b/\H a=some (.dK k)/\H b=some (.dK k)/\(∀p∈k,∃i,p.2= .int i)/\Q (.bl true) H):=by
 intro pins s σ H x y v u Q I t w h
 obtain⟨a,b,k,rfl,rfl,z,B,C,q⟩:=h
 cases t
 cases w
 obtain⟨z1,M,V,R,E⟩:=QX I.hok z
 obtain⟨z2,F,vb,d,D⟩:=QX I.hok B
 have L:=R.length
 have G:=d.length
 obtain⟨_,_,_,_,_,_,_,_,N⟩:=id D
 refine PySem.W.keq_eq (r:=true) M F E D o (λ_=>Q4 λp J=>?_) ?_
 ·obtain⟨i,K,e⟩:=List.getElem_of_mem J
  have c:i < k.length:=by omega
  have f:k[i]?=some (k[i].1,k[i].2):=DJ c
  obtain⟨O,g,j⟩:=R.get f
  obtain⟨v2,P,l⟩:=d.get f
  have S:p=(k[i].1,O):=by
   have:V[i]?=some p:=by rw[DJ K,e]
   rw[this]at g
   exact Eo g
  subst S
  obtain⟨n,T⟩:=C _ (FJ c)
  rw[T]at j l
  obtain⟨U,rfl⟩:=j
  obtain⟨Y,rfl⟩:=l
  refine#[_,JA N (D5 P),?_]
  obtain⟨e',m,h2⟩:=HT.eqAt_int X.A.in1 s n U n Y
  rw[h2.mpr Z]at m
  exact m
 ·rw[<- L,<- G,beq_self_eq_true]
  exact#[.bl true,H,I,Z,q]
end
section
open PySem.W PySem.Calls Builtin Builtin.ObjectAttr
variable {prog:Program}{w:World}{A:Around}{E:Value->Shared->Prop}{s:Shared}{K:Frag}{x C:Addr}{ox:Obj}{od:Option Obj}{name:Str}
structure nV(K:Frag)(C:Addr):Prop where
 ga:findIn K (.ref C) "__getattribute__"=some (some (.builtin "BaseException.__getattribute__"))
 gh:findIn K (.ref C) "__getattr__"=some none
 sa:findIn K (.ref C) "__setattr__"=some (some (.builtin "object.__setattr__"))
 cl:findIn K (.ref C) "__class__"=some (some (.builtin "object.__class__"))
 gt:specialIn K (.builtin "object.__class__") "__get__"=some (some (.builtin "getset_descriptor.__get__"))
 tk:takesIn K (.builtin "object.__class__")=some true
 mb:mroIn K C (.type "BaseException")=some true
 mo:mroIn K C (.type "object")=some true
 hd:hasDictIn K C=true
abbrev nD:List Value:=[.type "ValueError",.type "Exception",.type "BaseException",.type "object"]
end
section
open PySem.W PySem.Calls
variable {prog:Program}{w:World}{A:Around}{E:Value->Shared->Prop}{R:Result->Shared->Prop}{K:Frag}{h:Heap}{g:Array GenState}{d:Drawn}{t:Nat}{os:OsState}{C B:Addr}
theorem Zb(q:excIn K C nD "ValueError.__new__"=true):(∃p q N r f a s sub u c D k i j m o,K.lookup C=some (excClassObj p q C N r f a s sub u c D k i j m o "ValueError.__new__")/\tailIn K nD f=true/\nsOkIn K N=true/\nsIn K N "__init__"=some none):=by
 unfold excIn at q
 split at q
 ·rename_i D z S F
  split at q
  ·rename_i O f k i j m n o x y
   simp only[EM,beq_iff_eq,Bool.not_eq_true']at q
   obtain⟨⟨⟨⟨⟨rfl,rfl⟩,H⟩,G⟩,b⟩,e⟩:=q
   obtain⟨p,r,M,I,Q,J,s,sub,u,c,L⟩:=z
   dsimp only at x H b e
   subst x H
   have v:S=(List.toArray [k,i,j,m,some (.builtin "ValueError.__new__"),o]):=by
    obtain⟨l⟩:=S
    simp only at y
    rw[y]
   subst v
   exact#[p,Q,I,r,f,J,s,sub,u,c,D,k,i,j,m,o,F,G,b,e]
  ·cases q
 ·cases q
end
theorem aG.obj{P:Program}{a:Addr}(x:aG P w H h a o):∃u,h.get? a=some u:=by
 cases o with
 |lst X=>obtain⟨_,_,_,_,e⟩:=x;exact#[_,e]
 |tup X=>obtain⟨_,_,_,o,e,_⟩:=x;exact#[_,e]
 |dK k=>obtain⟨_,_,_,_,o,_,_,e,_⟩:=x;exact#[_,e]
 |dT k=>obtain⟨_,_,_,_,o,_,_,e,_⟩:=x;exact#[_,e]
 |set S n=>obtain⟨o,_,_,_,e,_⟩:=x;exact#[_,e]
 |ins C d F=>obtain⟨_,_,_,e,_⟩:=x;exact#[_,e]
 |own y=>obtain⟨_,e⟩:=x;exact#[_,e]
 |xd F=>obtain⟨_,⟨_,_,_,e,_⟩,_⟩:=x;exact#[_,e]
 |rng lo b=>obtain⟨_,_,_,e⟩:=x;exact#[_,e]
 |frz O u=>obtain⟨e,_⟩:=x;exact#[_,e]
 |tbl p=>exact#[_,(show h.get? a=some _ from x)]
 |met f y=>exact#[_,(show h.get? a=some _ from x)]
 |ext c=>obtain⟨_,⟨_,e⟩,_⟩:=x;exact#[_,e]
theorem ao.laidN{X:Cx}{h':Heap}{a:Addr}{o:HO}{t':Nat}(I:ao X p g H s)(k:∀b u,s.heap.get? b=some u->h'.get? b=some u)(d:s.heap.get? a=none)(N:aG X.prog X.w (af H a o) h' a o):
  H a=none/\ao X p g (af H a o) { s with heap:=h',toks:=t' }:=by
 have i:∀b u,s.heap.get? b=some u->b≠a:=λb u q z=>by rw[z,d]at q;cases q
 have h:H a=none:=by
  cases q:H a with
  |none=>rfl
  |some u=>obtain⟨U,e⟩:=(I.hok a u q).obj;rw[d]at e;cases e
 refine#[h,I.un ?_ ?_]
 ·exact { keep:=λb u q _ _ _=>k b u q,slot:=λb u q _ _ _=>#[u.slots,k b u q],free:=λb u q n _=>by rw[jj (i b u q)];exact n,there:=λb u q _=>#[u,k b u q],tups:=λb x q=>by rw[jj (ji q h)];exact q,frzs:=λb u x q=>by rw[jj (ji q h)];exact q,tbls:=λb P q=>#[(List.toArray []),by rw[jj (ji q h),q];simp] }
 ·intro b u e
  by_cases f:b=a
  ·subst f;rw[jc]at e;cases e;exact N
  ·rw[jj f]at e
   exact(I.hok b u e).stay (λc v _ q=>k c v q) (λc q=>by rw[jj (ji q h)];exact q) λc x q=>by rw[jj (ji q h)];exact q
noncomputable def vg(C:Addr)(d:Option Addr)(x:Addr):HO:=.ext λh=>∃o,h.get? x=some o/\o.cls= .ref C/\notCls o=true/\o.dict=d/\∃v,o.data= .fields v/\v[1]?=some .none
theorem wI{P:Program}{h:Heap}(e:h.get? x=some o)(a:o.cls= .ref C)(b:notCls o=true)(c:o.dict=d)(f:∃v,o.data= .fields v/\v[1]?=some .none):aG P w H h x (vg C d x):=
 #[#[o,e,a,b,c,f],#[o,e],λg i #[O,E,q] k=>#[O,k O E,q]]
def uU(C:Addr):TE:=λa H Q=>∀x,H x=none->Q (.ref x) (af H x (vg C none x))
section
variable {X:Cx}{CX:nj}{k:Nat}{f C:Addr}{fd:FuncData}{ps:List Str}{sp:Sp}{E:XK}{x m g:Str}{p pos pos':Pos}{e o value:Expr}{es:List Expr}{ta tv:TE}{t:TA}
theorem Qh(M:excIn X.K C nD "ValueError.__new__"=true)(l:keepIn X.K (.ref C)=true)(n:Gl X x)(r:X.mg x=some (.ref C))(c:(x==("__debug__":Str))=false:=by decide):
  PE X (.Call (.Name x p) [] [] pos) (uU C):=by
 intro P s D H Q I h
 refine EF (zd I n r ?_ c)
 refine PySem.W.callWith_K0 I.kIn l ?_
 obtain⟨G,q,N,J,L,j,S,sub,O,u,R,U,V,Y,k3,k5,v,w,b,i⟩:=Zb M
 have y:=I.kIn _ _ v
 obtain⟨hp,g,d,T,os⟩:=s
 refine wpAny_call_exc_subT PySem.F.excBase_ValueError (PySem.W.tail_of_in I.kIn w) y (.of_isNs (PySem.W.isNs_of_in I.kIn b)) (PySem.W.nsMap_none_of_in I.kIn b i) (λh' e m=>?_) (DX _)
 obtain⟨t,z,_,_⟩:=m.there
 obtain⟨A,B⟩:=I.laidN (a:=e) (h':=h') (o:=vg C none e) (t':=T) m.keeps m.new (wI z Z Z Z #[_,Z,Z])
 exact#[.ref e,_,B,Z,h e A]
end
theorem ao.turnedN{X:Cx}{p:List (Addr×Obj)}{d:St}{H:Hp}{s:Shared}{g:Heap}{t':Nat}{f:List Addr}(I:ao X p d H s)(a:∀b∈f,eP X p H b)(k:∀b o,b∉f->s.heap.get? b=some o->g.get? b=some o):
  ao X p d H { s with heap:=g,toks:=t' }:=by
 have N:∀b u,H b=some u->b∉f:=λb u e z=>by rw[(a b z).1]at e;cases e
 refine I.step (g':=s.gens) (d':=s.drawn) (ch:=f) (λb i=>?_) (λb o _ _ h e _=>k b o h e) (λb o _ _ h e _=>#[o.slots,k b o h e]) (λ_ _ _ _ n=>n)
  (λb o h e=>#[o,k b o h e]) (λ_ _ e=>e) (λ_ _ _ e=>e) (λb P e=>#[(List.toArray []),by rw[e];simp]) (λm j=>?_) (λb u e=>?_) I.bare
 ·obtain⟨A,F,B,l,t,w⟩:=a b i
  exact#[l,F,t,w]
 ·obtain⟨o,E,x,y,r⟩:=j
  exact#[o,E,x,k _ o (λz=>(a _ z).2.1 Z) y,r]
 ·refine(I.hok b u e).stay (λc v h q=>k c v ?_ q) (λ_ q=>q) λ_ _ q=>q
  rcases h with z |z
  ·rw[z];exact N b u e
  ·exact N c _ z
section
variable {M:Model}{A:Around}{E:Value->Shared->Prop}{s:Shared}
structure cr(fl:Value)(ie:List Addr)(x:Addr)(ox:Obj)(h h':Heap):Prop where
 ex:∃T oT ts,h.objs.size<=T/\h'.get? x=some (Obj.mapFields (·.setIfInBounds 1 (.ref T)) ox)/\h'.get? T=some oT/\oT.data= .fields ts/\ts[3]?=some fl
 keep:∀b o,b∉ie->b≠x->h.get? b=some o->h'.get? b=some o
 slot:∀b o,b≠x->h.get? b=some o->∃sl,h'.get? b=some { o with slots:=sl }
theorem Qi{Q:Unit->Shared->Prop}
  (t:A.frames=some (d::O)) (F:s.heap.FunFrames G (d::O)) (N:d.frame=some L)
  (I:s.heap.get? x=some u) (v:u.data= .fields J) (w:1 < J.size)
  (h:∀K,cr (rawInt L) ((d::O).filterMap (·.frame)) x u s.heap K->Q () { s with heap:=K }):
  wpAny M A (do let a <- frameOf d;let p <- entryPlaceOf L q;let b <- EntryCells.newEntry f a .none (rawInt L) .none p;setField (.ref x) 1 b) Q E s:=by
 have y:x∉(d::O).filterMap (·.frame):=λP=>by
  obtain⟨_,o,r,z⟩:=F.mem P
  rw[I]at r;injection r with r;subst r;exact z J v
 refine DG (wpAny_frameOf_fun t F N λH c=>?_)
 refine DG (wpAny_entryPlaceOf λp B=>?_)
 unfold EntryCells.newEntry newFields
 refine DG (En ?_ (B.sizeOk5 _ _ _ _ _))
 have g:H.get? x=some u:=(c.2.1 x y).trans I
 have i:=DI (h:=H) { cls:=.type "traceback",dict:=none,data:=.fields ([f,.ref L,.none,rawInt L,.none]++(if p.isEmpty then List.replicate 6 Value.none else p)).toArray } g
 refine Ex i v w (h _ ?_)
 have C:H.objs.size≠x:=Ez (DO g)
 have j:=Ei v (·.setIfInBounds 1 (Value.ref H.objs.size))
 have l:=Em (Obj.mapFields (·.setIfInBounds 1 (Value.ref H.objs.size))) i (EL j)
 have k:∀b o,b≠x->H.get? b=some o->((H.push { cls:=.type "traceback",dict:=none,data:=.fields ([f,.ref L,.none,rawInt L,.none]++(if p.isEmpty then List.replicate 6 Value.none else p)).toArray }).update x (Obj.mapFields (·.setIfInBounds 1 (Value.ref H.objs.size)))).get? b=some o:=λb o D e=>by
  rw[DY _ _ (Eg D)]
  exact DI _ e
 have m:=(DY (H.push { cls:=.type "traceback",dict:=none,data:=.fields ([f,.ref L,.none,rawInt L,.none]++(if p.isEmpty then List.replicate 6 Value.none else p)).toArray })
  (Obj.mapFields (·.setIfInBounds 1 (Value.ref H.objs.size))) (Eg C)).trans (DP H Z)
 refine#[#[H.objs.size,_,_,Hh c.1.symm,l,m,Z,IN],λb o D n e=>k b o n ((c.2.1 b D).trans e),λb o n e=>?_]
 obtain⟨S,R⟩:=c.2.2 b o e
 exact#[S,k b _ n R]
theorem XT{Q:Unit->Shared->Prop}
  (H:A.frames=some (e::o)) (i:s.heap.FunFrames b (e::o)) (a:e.frame=some L)
  (c:s.heap.get? x=some O) (d:O.data= .fields v) (f:v[1]?=some .none)
  (h:∀g,cr (rawInt L) ((e::o).filterMap (·.frame)) x O s.heap g->Q () { s with heap:=g }):
  wpAny M A (noteFrame (.ref x) e) Q E s:=by
 unfold noteFrame
 simp only[a]
 refine DG (D7 c d f ?_)
 rw[D1 IL]
 exact Qi H i a c d (Array.getElem?_eq_some_iff.mp f).1 h
theorem wV{ie:List Addr}{Q:Unit->Shared->Prop}(N:cr C ie x O H s.heap)(j:H.get? x=some O)(v:O.data= .fields w)(k:1 < w.size)
  (h:∀p,cr .none ie x O H p->Q () { s with heap:=p }):wpAny M A (setFlight (.ref x) none) Q E s:=by
 obtain⟨T,D,F,c,r,t,g,y⟩:=N.ex
 have l:=Ei v (·.setIfInBounds 1 (Value.ref T))
 have m:T≠x:=λz=>absurd (DW (DO j) (by rw[<- z];exact c)) (EG _)
 unfold setFlight
 refine DG (D7 r l (x:=.ref T) (by simp [k]) ?_)
 rw[D0 (show(Value.ref T != Value.none)=true from by simp)]
 have i:=(Array.getElem?_eq_some_iff.mp y).1
 refine Ex t g i (h _ ?_)
 have a:=Ei g (·.setIfInBounds 3 ((none:Option Addr).elim Value.none λf=>rawInt f))
 have n:=Em (Obj.mapFields (·.setIfInBounds 3 ((none:Option Addr).elim Value.none λf=>rawInt f))) t (EL a)
 have u:∀b o,H.get? b=some o->T≠b:=λb o e z=>absurd (DW (DO e) (by rw[<- z];exact c)) (EG _)
 refine#[#[T,_,_,c,by rw[DY _ _ m];exact r,n,a,by simp [i]],λb o B d e=>?_,λb o d e=>?_]
 ·rw[DY _ _ (u b o e)]
  exact N.keep b o B d e
 ·obtain⟨S,q⟩:=N.slot b o d e
  exact#[S,by rw[DY _ _ (u b o e)];exact q]
theorem Xn{base:Heap}{Q:Unit->Shared->Prop}
  (a:A.frames=some (e::o)) (f:s.heap.FunFrames base (e::o)) (g:e.frame=some L)
  (b:s.heap.get? x=some O) (c:O.data= .fields v) (d:v[1]?=some .none)
  (h:∀H,cr .none ((e::o).filterMap (·.frame)) x O s.heap H->Q () { s with heap:=H }):
  wpAny M A (leaving e (.ref x)) Q E s:=by
 unfold leaving
 exact DG (XT a f g b c d λH N=>wV (s:={ s with heap:=H }) N b c (Array.getElem?_eq_some_iff.mp d).1 h)
end
section
variable {M:Model}{A:Around}{E:Value->Shared->Prop}{s:Shared}
noncomputable abbrev dI(T:Addr)(h:Heap):Heap:=h.update T (Obj.mapFields (·.setIfInBounds 3 Value.none))
theorem Qj{base:Heap}{Q:Unit->Shared->Prop}
  (f:A.frames=some (e::O)) (w:s.heap.FunFrames base (e::O)) (j:e.frame=some L)
  (k:s.heap.get? x=some l) (m:l.data= .fields v) (p:v[1]?=some (.ref T)) (g:T≠x) (i:s.heap.get? T=some y) (c:y.data= .fields t) (r:t[3]?=some .none)
  (h:∀u,cr (rawInt L) ((e::O).filterMap (·.frame)) x l (dI T s.heap) u->Q () { s with heap:=u }):
  wpAny M A (noteFrame (.ref x) e) Q E s:=by
 unfold noteFrame
 simp only[j]
 refine DG (D7 k m p ?_)
 rw[D0 (show(Value.ref T != Value.none)=true from by simp)]
 refine DG (D7 i c r ?_)
 rw[D1 (show ¬((Value.none==rawInt L)=true) from by simp [rawInt])]
 refine DG (Ex i c (Array.getElem?_eq_some_iff.mp r).1 ?_)
 have a:∀b,b≠T->(dI T s.heap).get? b=s.heap.get? b:=λb H=>DY _ _ (Eg H)
 have n:∀b o,s.heap.get? b=some o->(∀v,o.data≠ .fields v)->b≠T:=λb o H d q=>by
  rw[q,i]at H;injection H with H;subst H;exact d t c
 exact Qi (s:={ s with heap:=dI T s.heap }) f (w.of_keeps λb o H d=>#[o,(a b (n b o H d)).trans H,Z]) j ((a x (Eg g)).trans k) m (Array.getElem?_eq_some_iff.mp p).1 h
theorem XU{base:Heap}{Q:Unit->Shared->Prop}
  (b:A.frames=some (e::o)) (i:s.heap.FunFrames base (e::o)) (j:e.frame=some L)
  (d:s.heap.get? x=some O) (f:O.data= .fields v) (g:v[1]?=some (.ref T)) (H:T≠x) (k:s.heap.get? T=some l) (c:l.data= .fields t) (m:t[3]?=some .none)
  (h:∀a,cr .none ((e::o).filterMap (·.frame)) x O (dI T s.heap) a->Q () { s with heap:=a }):
  wpAny M A (leaving e (.ref x)) Q E s:=by
 unfold leaving
 exact DG (Qj b i j d f g H k c m λa N=>wV (s:={ s with heap:=a }) N ((DY _ _ H).trans d) f (Array.getElem?_eq_some_iff.mp g).1 h)
end
noncomputable def gg(C:Addr)(d:Option Addr)(T x:Addr):HO:=.ext λh=>∃o v,h.get? x=some o/\o.cls= .ref C/\notCls o=true/\o.dict=d/\o.data= .fields v/\v[1]?=some (.ref T)
noncomputable def eQ(T:Addr):HO:=.ext λh=>∃o t,h.get? T=some o/\o.data= .fields t/\t[3]?=some .none
theorem yP{P:Program}{h:Heap}(e:h.get? x=some o)(c:o.cls= .ref C)(f:notCls o=true)(g:o.dict=d)(i:o.data= .fields a)(b:a[1]?=some (.ref T)):aG P w H h x (gg C d T x):=
 #[#[o,a,e,c,f,g,i,b],#[o,e],λb j #[O,v,E,q] k=>#[O,v,k O E,q]]
theorem ZS{P:Program}{h:Heap}(e:h.get? T=some o)(b:o.data= .fields a)(c:a[3]?=some .none):aG P w H h T (eQ T):=
 #[#[o,a,e,b,c],#[o,e],λd f #[O,t,E,q] k=>#[O,t,k O E,q]]
def eN(P:Program)(w:World):nj:=λo H s E e S=>∃x C d T h,e= .ref x/\S.os=s.os/\AllBare S.gens/\Un (ie o) [] H h s.heap S.heap/\el P w h S.heap/\
 h x=some (gg C d T x)/\h T=some (eQ T)/\T≠x/\E (.ref C) d h
section
variable {X:Cx}{pins:List (Addr×Obj)}{σ:St}{H:Hp}{s:Shared}{x C:Addr}{d:Option Addr}
theorem cr.hok{fl:Value}(I:ao X pins σ H s)(g:H x=some (.ext M))(P:s.heap.get? x=some o)(B:o.cls= .ref C)(D:o.dict=d)(j:o.data= .fields E)(k:1 < E.size)(l:∀b∈G,H b=none)
  (N:cr .none G x o s.heap J):∃T,H T=none/\T≠x/\s.heap.objs.size<=T/\el X.prog X.w (af (af H T (eQ T)) x (gg C d T x)) J:=by
 obtain⟨T,Q,R,h,m,F,n,p⟩:=N.ex
 have i:H T=none:=I.hok.fresh h
 have r:T≠x:=Eg (ji g i)
 have a:=Ei j (·.setIfInBounds 1 (Value.ref T))
 refine#[T,i,r,h,λb u e=>?_]
 by_cases t:b=x
 ·subst t
  rw[jc]at e
  cases e
  refine yP m ((GF _ _).trans B) ?_ ?_ a (by simp [k])
  ·unfold notCls
   rw[a]
  ·obtain⟨S,U,O,K⟩:=o
   simp only at j
   subst j
   exact D
 ·rw[jj t]at e
  by_cases f:b=T
  ·subst f
   rw[jc]at e
   cases e
   exact ZS F n p
  ·rw[jj f]at e
   refine(I.hok b u e).stay (λc v A q=>?_) (λc q=>?_) λc V q=>?_
   ·have y:c≠x:=by
     rcases A with z |z
     ·rw[z];exact t
     ·exact jG z g (by intro q;cases q)
    refine N.keep c v (λL=>?_) y q
    have:=l c L
    rcases A with z |z
    ·rw[z,e]at this;cases this
    ·rw[z]at this;cases this
   ·rw[jj (jG q g (by intro z;cases z)),jj (ji q i)]
    exact q
   ·rw[jj (jG q g (by intro z;cases z)),jj (ji q i)]
    exact q
theorem cr.un{h':Heap}(I:ao X pins σ H s)(hex:X.ex=[])(j:H x=some (.ext k))(l:H T=none)(c:s.heap.objs.size<=T)(f:∀b∈p,b∈X.fs∨X.s₀.heap.objs.size<=b)
  (N:cr .none p x y s.heap h'):Un X.fs [] X.H₀ (af (af H T (eQ T)) x (gg C d T x)) X.s₀.heap h':=by
 have g:∀b,H b=none->b≠x:=λb e z=>by rw[z,j]at e;cases e
 have r:∀b o,X.s₀.heap.get? b=some o->b≠T:=λb o e=>DS (DW (DO e) (DV I.sz c))
 have a:∀b:Addr,b∉X.ex:=λb z=>by rw[hex]at z;cases z
 have t:∀b,H b=none->b≠T->af (af H T (eQ T)) x (gg C d T x) b=none:=λb e z=>by rw[jj (g b e),jj z];exact e
 have U:∀b u,H b=some u->(∀k,u≠ .ext k)->af (af H T (eQ T)) x (gg C d T x) b=some u:=λb u e z=>by
  rw[jj (λq=>by rw[q,j]at e;cases e;exact z _ Z),jj (ji e l)]
  exact e
 refine#[λb o e n h _=>?_,λb o e n h _=>?_,λb o e n _=>?_,λb o e _=>?_,λb v e=>U b _ (I.base.tups b v e) (by intro _ q;cases q),λb o u e=>U b _ (I.base.frzs b o u e) (by intro _ q;cases q),λb P e=>?_]
 ·refine N.keep b o (λz=>?_) (g b (I.base.free b o e n (a b))) (I.base.keep b o e n h (a b))
  rcases f b z with q |q
  ·exact h q
  ·exact absurd (DW (DO e) q) (EG _)
 ·obtain⟨w,q⟩:=I.base.slot b o e n h (a b)
  obtain⟨S,Q⟩:=N.slot b _ (g b (I.base.free b o e n (a b))) q
  exact#[S,Q]
 ·exact t b (I.base.free b o e n (a b)) (r b o e)
 ·obtain⟨O,q⟩:=I.base.there b o e (a b)
  by_cases h:b=x
  ·obtain⟨A,_,_,_,i,_⟩:=N.ex
   exact#[_,by rw[h];exact i]
  ·obtain⟨w,Q⟩:=N.slot b O h q
   exact#[_,Q]
 ·obtain⟨m,q⟩:=I.base.tbls b P e
  exact#[m,U b _ q (by intro _ q;cases q)]
end
section
variable {P:Program}{w:World}{K:Frag}{mg:Str->Option Value}{base:Heap}{N:List Str}{qual:Str}{scope:Scope}{f:Addr}{cd:Value}{A:Around}{outer:List Env}{s₀:Shared}{H₀:Hp}{E:XK}
variable {pins:List (Addr×Obj)}{σ:St}{H:Hp}{s:Shared}{x C:Addr}{d:Option Addr}
theorem rS(I:ao (eU (eN P w) P w K mg base N qual scope f cd A outer s₀ H₀ E) pins σ H s)(c:H x=some (vg C d x))
  (h:∀T,H T=none->E (.ref C) d (af (af H T (eQ T)) x (gg C d T x))):(eU (eN P w) P w K mg base N qual scope f cd A outer s₀ H₀ E).xe (.ref x) s:=by
 obtain⟨⟨O,l,q,t,r,v,m,n⟩,_⟩:=I.hok x _ c
 have g:=(Array.getElem?_eq_some_iff.mp n).1
 refine Xn (base:=base) I.ok.frames I.stack Z l m n λy o=>?_
 obtain⟨T,p,a,i,j⟩:=o.hok (C:=C) (d:=d) (fl:=.none) I c l q r m g λb k=>I.stkFree b k
 have u:=o.un (C:=C) (d:=d) I Z c p i λb k=>by
  rcases List.mem_cons.mp (I.stkSub b k) with e |e
  ·exact .inr (by rw[e];exact I.ok.above)
  ·exact .inl e
 exact#[x,C,d,T,_,Z,I.os,I.bare,u,j,jc,by rw[jj a,jc],a,h T p]
theorem ao.cleared{X:Cx}(I:ao X pins σ H s)(c:H T=some (eQ T))(i:s.heap.get? T=some O)(j:O.data= .fields t)(k:t[3]?=some .none):ao X pins σ H { s with heap:=dI T s.heap }:=by
 have h:=Ei j (·.setIfInBounds 3 Value.none)
 have g:=Em (Obj.mapFields (·.setIfInBounds 3 Value.none)) i (EL h)
 have:=I.write (x:=T) (e:=T) (o:=eQ T) (h':=dI T s.heap) (t':=s.toks) (by rw[c];exact True.intro) (.inl Z) (λb u a q=>(DY _ _ (Eg a)).trans q) #[_,g] (ZS g h (by simp [(Array.getElem?_eq_some_iff.mp k).1]))
 have l:af H T (eQ T)=H:=by
  funext b
  by_cases a:b=T
  ·rw[a,jc,c]
  ·rw[jj a]
 rw[l]at this
 exact this
theorem uZ(I:ao (eU (eN P w) P w K mg base N qual scope f cd A outer s₀ H₀ E) pins σ H s)(g:H x=some (gg C d T x))(n:H T=some (eQ T))(c:T≠x)
  (h:∀t,H t=none->E (.ref C) d (af (af H t (eQ t)) x (gg C d t x))):(eU (eN P w) P w K mg base N qual scope f cd A outer s₀ H₀ E).xe (.ref x) s:=by
 obtain⟨⟨O,V,o,D,G,F,p,q⟩,_⟩:=I.hok x _ g
 obtain⟨⟨J,L,r,u,v⟩,_⟩:=I.hok T _ n
 have i:=(Array.getElem?_eq_some_iff.mp q).1
 have y:=I.cleared n r u v
 refine XU (base:=base) I.ok.frames I.stack Z o p q c r u v λM z=>?_
 have j:(dI T s.heap).get? x=some O:=(DY _ _ c).trans o
 obtain⟨t,B,a,k,l⟩:=cr.hok (C:=C) (d:=d) (fl:=.none) y g j D F p i (λb m=>I.stkFree b m) z
 have U:=cr.un (C:=C) (d:=d) y Z g B k (λb m=>by
  rcases List.mem_cons.mp (I.stkSub b m) with e |e
  ·exact .inr (by rw[e];exact I.ok.above)
  ·exact .inl e) z
 exact#[x,C,d,t,_,Z,I.os,I.bare,U,l,jc,by rw[jj a,jc],a,h t B]
theorem tX{j:XK}(m:∀x C d T t a,a x=some (gg C d T x)->a T=some (eQ T)->a t=none->j (.ref C) d a->E (.ref C) d (af (af a t (eQ t)) x (gg C d t x))):
  cX (eN P w) (eU (eN P w) P w K mg base N qual scope f cd A outer s₀ H₀ E) j:=by
 intro pins σ H s e S I h
 obtain⟨x,C,d,T,a,rfl,os,B,u,c,k,l,i,n⟩:=h
 obtain⟨p,g,D,q,o⟩:=S
 obtain rfl:o=s.os:=os
 have r:=I.call (h':=p) (g':=g) (d':=D) (t':=q) (ch:=[]) u c B (λb z=>absurd z IN)
 exact uZ r k l i λt v=>m x C d T t a k l v n
end
section
open PySem.W
variable {prog:Program}{w:World}{A:Around}{E:Value->Shared->Prop}{K:Frag}{x C:Addr}{ox:Obj}{vs:Array Value}{env:Env}
theorem XV{ev:Sem Value}(e:A.handled=none)
  (h:wpAny (model prog w) A ev (λv S=>∃x C ox vs,v= .ref x/\K.In S.heap/\nV K C/\typeIn K (.ref C)=some (.type "type")/\S.heap.get? x=some ox/\ox.cls= .ref C/\ox.data= .fields vs/\vs[1]?=some .none/\E (.ref x) S) E s):
  wpAny (model prog w) A (raiseStmt env (some ev) none) Q E s:=by
 unfold raiseStmt
 refine DG (EK h (λv S a=>?_) λ_ _ z=>z)
 obtain⟨x,C,ox,vs,rfl,X,f,i,b,j,c,m,n⟩:=a
 obtain⟨H,g,d,T,os⟩:=S
 have L:Looks (model prog w) H (typeOf (.ref x)) (.ref C):=j▸(Looks.ld b).andThen .now
 have l:Looks (model prog w) H (isType (.ref x)) false:=by
  intro y B D F k q
  unfold isType loadHead
  refine DG (HQ (k _ _ b) ?_)
  rw[c]
  exact DH q
 have L2:=Ie (M:=model prog w) X f.mb
 have o:=looks_typeIn (M:=model prog w) X i
 have p:Looks (model prog w) H (isInstance (.ref x) (.type "BaseException")) true:=L.andThen L2
 have r:Looks (model prog w) H (isExcClass (.ref x)) false:=by
  unfold isExcClass
  exact l.andThen .now
 have t:Looks (model prog w) H (raisedInstance (.ref x)) (.ref x):=by
  unfold raisedInstance
  exact L.andThen (o.andThen (by rw[D0 IL];exact .now))
 have u:Looks (model prog w) H (excFromValue (.ref x) "exceptions must derive from BaseException") (.ref x):=by
  unfold excFromValue
  exact r.andThen (by rw[D1 IL];exact p.andThen (by rw[D0 Z];exact .now))
 refine DG (DH ?_)
 refine DG (D8 (u.at ?_))
 dsimp only
 refine DG (l.at ?_)
 rw[D1 IL]
 refine DG (t.at ?_)
 unfold setFlight
 refine DG (DG (D7 b c m ?_))
 rw[D1 IL]
 exact DH (wpAny_raiseNew_none e n)
end
def vh(X:Cx)(W:Addr->Addr->Option Addr->Hp->Prop):Prop:=∀(p:List (Addr×Obj)) (a:St) (H:Hp) (s:Shared) (x C:Addr) (d:Option Addr),ao X p a H s->H x=some (vg C d x)->W x C d H->X.xe (.ref x) s
theorem Qk{P:Program}{K:Frag}:
  vh (eU (eN P w) P w K m b N q s f g A o a c E) (λx C d H=>∀T,H T=none->E (.ref C) d (af (af H T (eQ T)) x (gg C d T x))):=
 λ_ _ _ _ _ _ _ I e h=>rS I e h
def yv(K:Frag)(t:TE)(W:Addr->Addr->Option Addr->Hp->Prop):TS:=λ_ a H=>t a H λv h=>∃x C d,v= .ref x/\h x=some (vg C d x)/\nV K C/\typeIn K (.ref C)=some (.type "type")/\W x C d h
theorem Q5{X:Cx}{e:Expr}{t:TE}{P:Pos}{W:Addr->Addr->Option Addr->Hp->Prop}(f:X.calm=true)(F:vh X W)(g:PE X e t):PS X (.Raise (some e) none P) (yv X.K t W):=by
 intro p s b H D I h
 rw[arm_exec_Raise]
 refine DG (FY ?_)
 refine XV (K:=X.K) (ev:=do let v <- eval e X.env;standAt P;pure v) (I.ok.hd f) (DG (aO (g p s b H _ I h) λu S a=>DG (FY (DH ?_))))
 obtain⟨v,j,i,r,x,C,d,ev,c,k,l,q⟩:=a
 subst ev
 obtain rfl:u=Value.ref x:=r
 obtain⟨⟨o,m,n,z,A,V,w,y⟩,_⟩:=i.hok x _ c
 exact#[x,C,o,V,Z,i.kIn,k,l,m,n,w,y,F p b j S x C d i c q]
section
variable {X:Cx}{pins:List (Addr×Obj)}{σ:St}{H:Hp}{s:Shared}{x C:Addr}{d:Option Addr}
theorem ao.noted{t':Nat}(I:ao X pins σ H s)(a:H x=some (.ext l))(p:s.heap.get? x=some O)(r:O.cls= .ref C)(t:O.dict=d)(v:O.data= .fields w)(c:1 < w.size)
  (N:cr .none (ie X.stack) x O s.heap y):∃T,H T=none/\T≠x/\ao X pins σ (af (af H T (eQ T)) x (gg C d T x)) { s with heap:=y,toks:=t' }:=by
 obtain⟨T,m,f,g,i⟩:=cr.hok (C:=C) (d:=d) (fl:=.none) I a p r t v c (λb h=>I.stkFree b h) N
 have j:∀b,H b=none->b≠x:=λb e z=>by rw[z,a]at e;cases e
 have U:∀b u,H b=some u->(∀l,u≠ .ext l)->af (af H T (eQ T)) x (gg C d T x) b=some u:=λb u e z=>by
  rw[jj (λq=>by rw[q,a]at e;cases e;exact z _ Z),jj (ji e m)]
  exact e
 refine#[T,m,f,I.call (g':=s.gens) (d':=s.drawn) (ch:=[]) ?_ i I.bare (λb z=>absurd z IN)]
 refine#[λb o e n h _=>N.keep b o h (j b n) e,λb o e n _ _=>N.slot b o (j b n) e,λb o e n _=>?_,λb o e _=>?_,λb A e=>U b _ e (by intro _ q;cases q),λb o u e=>U b _ e (by intro _ q;cases q),λb P e=>#[(List.toArray []),by rw[U b _ e (by intro _ q;cases q)];simp]]
 ·rw[jj (j b n),jj (DS (DW (DO e) g))]
  exact n
 ·by_cases h:b=x
  ·obtain⟨B,_,_,_,k,_⟩:=N.ex
   exact#[_,by rw[h];exact k]
  ·obtain⟨S,q⟩:=N.slot b o h e
   exact#[_,q]
end
noncomputable abbrev Cx.mark(X:Cx)(e:Value)(xe:Value->Shared->Prop):Cx:={ X with A:=X.A.mark (some e),calm:=false,xe:=xe }
theorem ao.mark{X:Cx}(I:ao X p a H s)(e:Value)(x:Value->Shared->Prop):ao (X.mark e x) p a H s:=
 #[#[I.ok.mod,I.ok.kind,I.ok.glob,I.ok.blt,I.ok.above,I.ok.inj,I.ok.has,I.ok.cab,(λz=>nomatch (show false=true from z)),I.ok.frames,I.ok.stk,I.ok.exf,I.ok.bs,I.ok.bsz,I.ok.noex,I.ok.exfs,I.ok.funs,I.ok.frf],I.os,I.bare,I.base,I.loc,I.cell,I.free,I.freeC,I.pin,I.hok,I.len]
theorem ao.unmark{X:Cx}(o:X.Ok)(I:ao (X.mark e x) p a H s):ao X p a H s:=
 #[o,I.os,I.bare,I.base,I.loc,I.cell,I.free,I.freeC,I.pin,I.hok,I.len]
section
open PySem.W
theorem qw{K:Frag}(X:K.In h)(a:h.get? x=some o)(b:o.cls= .ref C)(H:clsIn K B≠none)(tB:typeIn K (.ref B)=some (.type "type"))(m:mroIn K B (.type "BaseException")=some true)(c:mroIn K C (.ref B)=some true):
  Looks M h (excMatches (.ref x) (.ref B)) true:=by
 have L:Looks M h (typeOf (.ref x)) (.ref C):=b▸(Looks.ld a).andThen .now
 have l:=looks_typeIn (M:=M) X tB
 have L2:Looks M h (isInstance (.ref B) (.type "tuple")) false:=l.andThen (Looks.of_pure tc_notTuple)
 have d:Looks M h (isType (.ref B)) true:=by
  unfold clsIn at H
  split at H
  ·rename_i e
   intro A Q E s k q
   unfold isType loadHead
   exact DG (HQ (k _ _ (X _ _ e)) (DH q))
  ·exact absurd Z H
 have f:Looks M h (isExcClass (.ref B)) true:=by
  unfold isExcClass
  exact d.andThen (by rw[D0 Z];exact Ie X m)
 have g:=Ie (M:=M) X c
 intro A Q E s k q
 unfold excMatches
 refine DG (L2 A _ E s k ?_)
 rw[D1 IL]
 refine DG (DH ?_)
 dsimp only
 refine DG ?_
 rw[Fh]
 refine DG (DG (f A _ E s k ?_))
 simp only[Ga,DT,EN]
 refine DH ?_
 dsimp only
 rw[FX]
 refine DH ?_
 refine DG (L A _ E s k ?_)
 refine DG ?_
 rw[Fh]
 refine DG (DG (g A _ E s k ?_))
 simp only[Go]
 refine DH (DH ?_)
 exact DH q
end
abbrev XR:=Addr->Addr->Option Addr->Addr->Hp->Prop
def XW(X:Cx)(p:List (Addr×Obj))(a:St)(R:XR)(e:Value)(s:Shared):Prop:=
 ∃x C d T H,e= .ref x/\ao X p a H s/\H x=some (gg C d T x)/\H T=some (eQ T)/\T≠x/\R x C d T H
abbrev BV:=St->Hp->VK->XR->Prop
abbrev BW:=a9->XR->St->Hp->Prop
def C4(X:Cx)(e:Expr)(t:BV):Prop:=
 ∀(p:List (Addr×Obj)) (s:Shared) (a:St) (H:Hp) (Q:VK) (R:XR),ao X p a H s->t a H Q R->wpAny (model X.prog X.w) X.A (eval e X.env) (EP X p a Q) (XW X p a R) s
def C7(X:Cx)(st:Stmt)(t:BW):Prop:=
 ∀(p:List (Addr×Obj)) (s:Shared) (a:St) (H:Hp) (D:a9) (R:XR),ao X p a H s->t D R a H->wpAny (model X.prog X.w) X.A (exec st X.env) (SP X p D) (XW X p a R) s
def Dj(R:XR):XK:=λc d H=>∀x C T,c= .ref C->H x=some (gg C d T x)->H T=some (eQ T)->T≠x->R x C d T H
def yI(s:Sp)(d:List V)(t:TA):BV:=λa H Q R=>t a H λv h=>s (v++d) h Q (Dj R)
section
variable {X:Cx}{k:Nat}{f:Addr}{fd:FuncData}{ps:List Str}{sp:Sp}{dvs:List V}{ds:List Value}{x:Str}{p pos:Pos}{e:Expr}{es:List Expr}{t:TA}{te:BV}
theorem oU(F:aj X.prog X.w X.K X.mg X.base (eN X.prog X.w) k f fd ps sp)(y:bo k X.A)(D:Gl X x)(E:X.mg x=some (.ref f))(G:keepIn X.K (.ref f)=true)(J:aw X.K fd ps ds)(L:au dvs ds)
  (M:PA X.nox (e::es) t) (g:(x==("__debug__":Str))=false:=by decide) (N:starEach (e::es) X.env=(false,eval e X.env)::starEach es X.env:=by rfl) (j:(backTo pos (starEach es X.env)).any (·.1)=false:=by rfl):
  C4 X (.Call (.Name x p) (e::es) [] pos) (yI sp dvs t):=by
 intro P s O H Q R I h
 refine EF (zd I D E ?_ g)
 refine Iu (h₀:=X.base) I.ok.mod.kin G (EK (M pos P s O H _ (I.wish _) h) (λU S #[v,W,i,r,q]=>#[i.kIn,?_]) λ_ _ z=>z.elim) N j
 have i:=i.unwish
 have m:au (v++dvs) (U++ds):=r.append L
 have Y:(U++ds).length=ps.length:=by rw[<- m.length];exact F.len _ _ _ _ q
 refine wpAny_call (Gg (F.run X.A X.stack S W #[U,[]] (U++ds) (v++dvs) Q (Dj R) y i.env0 (J S U i.kIn Y) m q) λr s' a=>?_)
 cases r with
 |error e=>
  obtain⟨x,C,d,T,H',rfl,os,B,un,l,n,o,c,hw⟩:=a
  exact#[x,C,d,T,H',Z,i.call' os un l B (λb z=>absurd z IN),n,o,c,hw x C T Z n o c]
 |ok fl=>
  cases fl with
  |ret u=>exact i.after a
  |next=>exact False.elim a
  |brk=>exact False.elim a
  |cont=>exact False.elim a
theorem uj{i:Nat}{y:Str}{P:Pos}(d:X.N.Nodup)(g:X.N[i]?=some y)(j:nS X.env.scope y)(l:C4 X e te)(m:swapsWith e (some (.Name y P)) pos.line X.env=pure false:=by rfl)(n:X.fn y=true∨X.env.scope.names.lookup y=some .local:=by first |exact .inl Z |exact .inr Z |assumption):
  C7 X (.Assign [.Name y P] e pos) (λD R b H=>te b H (λv c=>D.nx (b.set i (some v)) c) R):=by
 intro a s b H D R I h
 refine wpAny_Assign_Name (aO (l a s b H _ R I h) λv S z=>?_) m
 obtain⟨y,c,o,r,q⟩:=z
 exact zq o d g j r (λw u=>#[_,c,u,q]) n
end
theorem aJ.ok1{P:Program}{K:Frag}{st:Stmt}{a:Sp}(F:aJ K x q st f g)(S:ak N p (aa st))(len:∀v H Q E,a v H Q E->v.length=p.length)
  (h:∀(c:Value) (A:Around) (o:List Env) (s:Shared) (H:Hp) (v:List V) (Q:VK) (E:XK),bo k (A.deeper (envOfC q (aa st) s.heap.objs.size f c))->a v H Q E->
   ∃t,iV (eU (eN P w) P w K m b N q (aa st) f c A o s H E) (aY st) t/\t { nx:=λ_ i=>Q .non i,rt:=Q } (fo N v) H):aj P w K m b (eN P w) (k+1) f g p a:=by
 obtain⟨l,n,kV,D,r,u,c,C,O,rfl,lk,d⟩:=F.ex
 exact vE lk d S len λA o s H v Q E j e=>h c A o s H v Q E j e
end L2
namespace L2
open PySem PySem.Spec PyProof.Rows PySem.SeqAt
noncomputable def og(x y:List V):Bool:=(List.range (min x.length y.length)).all (λj=>lE (x.getD j .non) (y.getD j .non))&&x.length==y.length
section
variable {X:Cx}
theorem Zc(r:au x i)(R:au y I)(f:x.all cg=true)(F:y.all cg=true)(j:Nat)(c:j < i.toArray.size)(d:j < I.toArray.size):EqAt A s i.toArray[j] I.toArray[j] (lE (x.getD j .non) (y.getD j .non)):=by
 have L:=r.length
 have p:=R.length
 have H:j < x.length:=by simp at c;omega
 have h:j < y.length:=by simp at d;omega
 have a:x[j]?=some x[j]:=DJ H
 have b:y[j]?=some y[j]:=DJ h
 obtain⟨u,q,g⟩:=r.get a
 obtain⟨U,Q,k⟩:=R.get b
 have l:=List.all_eq_true.mp f _ (FJ H)
 have m:=List.all_eq_true.mp F _ (FJ h)
 have E:i.toArray[j]=u:=by
  obtain⟨_,e⟩:=List.getElem?_eq_some_iff.mp q
  simpa using e
 have n:I.toArray[j]=U:=by
  obtain⟨_,e⟩:=List.getElem?_eq_some_iff.mp Q
  simpa using e
 have G:x.getD j .non=x[j]:=by rw[FV,a];rfl
 have o:y.getD j .non=y[j]:=by rw[FV,b];rfl
 rw[E,n,G,o]
 exact ZN g k l m
theorem xV(f:X.A.units < cLine):gc X (compareOp .Eq) (λx y H Q=>∃a b c Y,x= .ref a/\y= .ref b/\aA X.K H a c/\aA X.K H b Y/\c.all cg=true/\Y.all cg=true/\Q (.bl (og c Y)) H):=by
 intro p s z H x y v u Q I g k h
 obtain⟨a,b,c,Y,rfl,rfl,l,m,F,n,q⟩:=h
 cases g
 cases k
 obtain⟨i,r,P,_⟩:=I.tuple l
 obtain⟨d,R,o,_⟩:=I.tuple m
 refine eq_tupleAt (e:=λj=>lE (c.getD j .non) (Y.getD j .non)) (show s.heap.IsTuple a i.toArray from P) (show s.heap.IsTuple b d.toArray from o) f (λj t w=>Zc r R F n j t w) ?_
 have e:((List.range (min i.toArray.size d.toArray.size)).all (λj=>lE (c.getD j .non) (Y.getD j .non))&&i.toArray.size==d.toArray.size)=og c Y:=by
  unfold og
  rw[DQ,DQ,<- r.length,<- R.length]
 rw[e]
 exact#[.bl _,H,I,Z,q]
end
end L2
namespace L2
open PySem PySem.Spec PyProof.Rows
section
variable {prog:Program}{w:World}{A:Around}{E:Value->Shared->Prop}{s:Shared}
theorem XX{Q:Nat->Shared->Prop}(H:n≠0)(h:∀i d,i < n->Q i { s with drawn:=d }):wpAny (model prog w) A (choose a n) Q E s:=by
 intro Γ p _
 show Sem.wp _ Γ (.choose a n .pure) _ _ p s
 rw[Sem.wp_choose]
 exact#[H,h _ _ (Nat.mod_lt _ (Nat.pos_of_ne_zero H))]
theorem Xo{α:Type}:∀(n:Nat) (xs:List α) (s:Shared) {Q:List α->Shared->Prop},xs.length=n->(∀ys d,ys.Perm xs->Q ys { s with drawn:=d })->
  wpAny (model prog w) A (drawOrder n xs) Q E s:=by
 intro n
 induction n with
 |zero=>
  intro xs s Q hl h
  cases xs with
  |nil=>
   unfold drawOrder
   exact DH (h [] s.drawn .rfl)
  |cons _ _=>cases hl
 |succ n ih=>
  intro xs s Q hl h
  cases xs with
  |nil=>cases hl
  |cons x r=>
   unfold drawOrder
   refine DG (XX IN λi d hi=>?_)
   have hg:(x::r)[i]?=some ((x::r)[i]'hi):=DJ hi
   rw[hg]
   dsimp only
   refine DG (ih _ _ (by rw[Iv hi,hl];rfl) λys d' hp=>DH (h _ d' ?_))
   refine(List.Perm.cons _ hp).trans ?_
   rw[Ib]
   refine List.perm_middle.symm.trans ?_
   rw[Hi,Gw]
end
noncomputable def iU:Value->Str
 | .str x _=>x
 |_=>#[(List.toArray [])]
theorem KJ(t:SetTable)(n:Nat):(t.orStandIn n).led=t.led:=by
 unfold SetTable.orStandIn
 split
 ·rfl
 ·rfl
theorem XY(t:SetTable)(e:Array (Int×Value))(h:Int)(x:Value):(layNew t e h x).2.1.led=t.led:=by
 unfold layNew
 split
 ·exact KJ _ _
 ·rfl
theorem QP(t:SetTable)(E:Array (Int×Value))(n:Nat):(relayAll t E n).2.1.led=t.led:=by
 unfold relayAll
 split
 ·rename_i T o e
  unfold SetTable.relaid SetTable.laid at e
  cases h:SetTable.layClean (SetTable.sizeAbove n - 1) (E.map (·.1)) with
  |none=>rw[h]at e;cases e
  |some O=>
   rw[h]at e
   cases e
   dsimp only
   split<;>rfl
 ·rfl
theorem Ky(t:SetTable)(E:Array (Int×Value))(n:Nat)(H:t.plain=false):(relayAll t E n).2.1.plain=false:=by
 unfold relayAll
 split
 ·rename_i T o e
  unfold SetTable.relaid SetTable.laid at e
  cases h:SetTable.layClean (SetTable.sizeAbove n - 1) (E.map (·.1)) with
  |none=>rw[h]at e;cases e
  |some O=>
   rw[h]at e
   cases e
   dsimp only
   split
   ·exact H
   ·rfl
 ·rfl
def bZ(p:Program)(w:World)(h:Heap)(a:Addr)(L:List Str):Prop:=
 ∃o E b t,h.get? a=some o/\o.ExactSet/\o.data= .set E b t/\ElemsOf (PySem.strKind p w) E.toList/\(E.toList.map λe=>iU e.2).Perm L/\L.Nodup
  /\E.size < scanBound/\t.fits E.size=true/\t.led=!(w.params.followText "set-order")/\(t.plain=false∨E.size=0)
theorem bZ.at{H:Heap}{a:Addr}(x:bZ p w h a L)(e:∀o,h.get? a=some o->H.get? a=some o):bZ p w H a L:=
 let #[o,E,b,t,c,r]:=x;#[o,E,b,t,e o c,r]
section
variable {prog:Program}{w:World}{A:Around}{E:Value->Shared->Prop}{s:Shared}
theorem JB{a:Array (Int×Value)}(b:ElemsOf (PySem.strKind prog w) a.toList)(x:Str):
  (a.toList.findIdx? (λe=>(PySem.strKind prog w).is x e.2)=none↔¬x∈a.toList.map λe=>iU e.2):=by
 rw[List.findIdx?_eq_none_iff]
 constructor
 ·intro h m
  obtain⟨e,H,f⟩:=List.mem_map.mp m
  obtain⟨⟨k,g,_⟩,_⟩:=b e H
  obtain⟨t,c⟩:=GL g
  have q:=h e H
  rw[c]at f q
  have d:k=x:=f
  subst d
  have Q:(PySem.strKind prog w).is k (.str k t)=true:=strKind_is prog w k t
  rw[Q]at q;cases q
 ·intro h e H
  cases q:(PySem.strKind prog w).is x e.2 with
  |false=>rfl
  |true=>
   obtain⟨t,c⟩:=GL q
   exact absurd (List.mem_map.mpr #[e,H,by rw[c];rfl]) h
theorem JC{b:Array (Int×Value)}{T:SetTable}(d:s.heap.get? a=some o)(f:o.ExactSet)(h:o.data= .set p c t)
  (g:ElemsOf (PySem.strKind prog w) b.toList) (i:(b.toList.map λe=>iU e.2).Perm L) (j:L.Nodup) (k:b.size < scanBound) (l:T.fits b.size=true)
  (m:T.led=!(w.params.followText "set-order")) (n:T.plain=false):
  (s.heap.update a (Obj.putSet b T)).get? a=some { o with data:=.set b (c+1) T }/\bZ prog w (s.heap.update a (Obj.putSet b T)) a L:=by
 have H:(s.heap.update a (Obj.putSet b T)).get? a=some { o with data:=.set b (c+1) T }:=by
  have q:=Em (Obj.putSet b T) d (by rw[putSet_of b T h];rfl)
  rwa [putSet_of b T h]at q
 exact#[H,_,b,c+1,T,H,f,Z,g,i,j,k,l,m,.inl n]
theorem Xp{Q : Bool -> Shared -> Prop}(hS : bZ prog w s.heap a L)(room : L.length + 1 < scanBound)
    (h : ∀ b R l, Heap.SameBut a s.heap R -> bZ prog w R a (if x ∈ L then L else L ++ [x]) -> s.toks <= l -> Q b { s with heap := R, toks := l }) :
    wpAny (model prog w) A (setAdd a (.str x f)) Q E s := by
  obtain ⟨o, g, ep, t, n, U, u, H, v, B, hb, V, X, Y⟩ := hS
  have d : (PySem.strKind prog w).is x (.str x f) = true := strKind_is prog w x f
  have C : g.size = L.length := by rw [<- v.length_eq, DK, D6]
  unfold setAdd
  refine D8 (DG ((PySem.strKind prog w).pyHash (k := x) d ?_))
  unfold setAddHashed setAddHashedIn
  refine D8 (DG (Fm (s := { s with toks := s.toks + 1 }) n u V ?_))
  dsimp only
  rw [byScan_of Z hb H]
  simp only [↓reduceIte]
  unfold setAddByScan
  refine DG (DG (Fy (DG (wpAny_setScan_of (knd := PySem.strKind prog w) d n u V H ?_))))
  cases hr : List.findIdx? (λe => (PySem.strKind prog w).is x e.2) g.toList with
  | some j =>
    dsimp only
    have D : x ∈ L := by
      refine Decidable.byContradiction λhn => ?_
      have q := (JB (prog := prog) (w := w) H x).mpr λm => hn (v.mem_iff.mp m)
      rw [q] at hr; cases hr
    have q := h false s.heap (s.toks + 1) (Heap.SameBut.refl a s.heap) (by rw [D0 D]; exact #[o, g, ep, t, n, U, u, H, v, B, hb, V, X, Y]) (Ff _)
    exact DH (DH q)
  | none =>
    dsimp only
    have D : ¬ x ∈ L :=λm => (JB (prog := prog) (w := w) H x).mp hr (v.mem_iff.mpr m)
    have W : ∀ (b : Bool) {S : Shared} {Q' : Unit -> Shared -> Prop}, Q' () S -> wpAny (model prog w) A (match b with | true => rule "set.scan.the-table-gave-way" | false => pure ()) Q' E S := by
      intro b S Q' hq
      cases b
      · exact DH hq
      · exact Fy hq
    have p := layNew_perm t g ((PySem.strKind prog w).hash x) (.str x f)
    have M := layNew_fits t g ((PySem.strKind prog w).hash x) (.str x f)
    have O := XY t g ((PySem.strKind prog w).hash x) (.str x f)
    generalize layNew t g ((PySem.strKind prog w).hash x) (.str x f) = N at p M O ⊢
    obtain ⟨c, t1, w0, g4⟩ := N
    dsimp only at p M O ⊢
    rw [Array.toList_push] at p
    have F : ElemsOf (PySem.strKind prog w) c.toList := (H.push d Z).perm p
    have P : (c.toList.map λe => iU e.2).Perm (L ++ [x]) := by
      refine (p.map _).trans ?_
      rw [Ef]
      exact v.append_right _
    have G : (L ++ [x]).Nodup := List.nodup_append.mpr #[B, by simp,λy hy z hz e => by rw [HP] at hz; subst hz; subst e; exact D hy]
    have lg : c.size = g.size + 1 := by rw [<- D6, p.length_eq, DM, D6]; rfl
    have b1 : c.size < scanBound := by rw [lg, C]; exact room
    refine DG (W _ ?_)
    have i : ∀ T : SetTable, T.fits c.size = true -> T.led = t.led -> T.plain = false ->
        wpAny (model prog w) A (do
          storeSet a c T
          if (!w0 && T.tooFull) = true then do
              (match (relayAll T c (SetTable.grown c.size)).2.2 with | true => rule "set.scan.the-table-gave-way" | false => pure ())
              storeSet a (relayAll T c (SetTable.grown c.size)).1 (relayAll T c (SetTable.grown c.size)).2.1
              pure (some true)
            else pure (some true)) (λr s' => r = some true /\ Q true s') E { s with toks := s.toks + 1 } := by
      intro T g1 g2 g3
      refine DG (wpAny_storeSet_of (s := { s with toks := s.toks + 1 }) n u ?_ (Hm b1))
      obtain ⟨o1, S1⟩ := JC (s := s) (prog := prog) (w := w) n U u F P G b1 g1 (g2.trans X) g3
      have I := Fs s.heap a (Obj.putSet c T)
      split
      · have J := relayAll_perm T c (SetTable.grown c.size)
        have f2 := relayAll_fits T c (SetTable.grown c.size)
        have l2 := QP T c (SetTable.grown c.size)
        have q2 := Ky T c (SetTable.grown c.size) g3
        generalize relayAll T c (SetTable.grown c.size) = Z at J f2 l2 q2 ⊢
        obtain ⟨K, t3, g0⟩ := Z
        dsimp only at J f2 l2 q2 ⊢
        have bn : K.size = c.size := by rw [<- D6, J.length_eq, D6]
        have b2 : K.size < scanBound := by rw [bn]; exact b1
        refine DG (W _ (DG (wpAny_storeSet_of (s := { s with heap := s.heap.update a (Obj.putSet c T), toks := s.toks + 1 }) o1 Z ?_ (Hm b2))))
        obtain ⟨_, S2⟩ := JC (s := { s with heap := s.heap.update a (Obj.putSet c T) }) (prog := prog) (w := w) o1 U Z (F.perm J) ((J.map _).trans P) G b2 f2 (l2.trans (g2.trans X)) q2
        exact DH #[Z, h true _ _ (I.trans (Fs _ a _)) (by rw [D1 D]; exact S2) (Ff _)]
      · exact DH #[Z, h true _ _ I (by rw [D1 D]; exact S1) (Ff _)]
    split
    · rename_i tp
      refine DG ?_
      rw [hashByValue_scannable 8 (x := .str x f) Z]
      refine DH ?_
      have e0 : plainKind (.str x f) = false := rfl
      rw [e0]
      simp only [DT, ↓reduceIte]
      refine EK (i { t1 with plain := false } (SetTable.fits_plain_off M) O Z) (λr s' q => ?_) λ_ _ z => z
      obtain ⟨rfl, q⟩ := q
      exact DH q
    · rename_i tp
      refine DG (DH ?_)
      simp only [↓reduceIte]
      refine EK (i t1 M O (by simpa using tp)) (λr s' q => ?_) λ_ _ z => z
      obtain ⟨rfl, q⟩ := q
      exact DH q
end
noncomputable def a6(w:World):Obj:={ cls:=.type "set",dict:=none,data:=.set (List.toArray []) 0 (.fresh 0 0 (!(w.params.followText "set-order"))) }
section
variable {prog:Program}{w:World}{A:Around}{E:Value->Shared->Prop}{s:Shared}
theorem Xq{h:Heap}(e:h.get? a=some (a6 w)):bZ prog w h a []:=
 #[_,(List.toArray []),0,_,e,#[Z,Z,Z],Z,λ_ z=>by simp at z,IN,HH,(by decide:(0:Nat) < scanBound),Z,Z,.inr Z]
theorem KK(a:Value){G:Value->Shared->Prop}(h:G (.ref s.heap.objs.size) { s with heap:=s.heap.push (a6 w) }):
  codeAny (model prog w) A (.call (.builtin "set.__new__") #[[.type "set",a],[]]) (wants G E) s:=by
 refine codeAny_of_tree ?_
 show wpAny _ A.in1 (do checkBuiltinCall "set.__new__" _;again (.builtin "set.__new__" _)) _ _ s
 refine DG (Hl (PySem.F.newCall_set_1 a) (DH #[FL PySem.F.plain_set_new _,EW PySem.F.entry_set_new ?_]))
 rw[EE PySem.F.plain_set_new]
 unfold Builtin.«set.__new__» Builtin.Frozenset.newClass
 have o:=sub_set_self
 obtain⟨H,g,d,t,os⟩:=s
 dsimp only
 wp_walk
 refine Gf (DH ?_)
 dsimp only
 simp only[newObj]
 exact DG (wpAny_alloc (DH (DH h)))
end
theorem StrsAre.at':∀{V:List Value} {s:List Str},StrsAre V s->∀(i:Nat) (v:Value),V[i]?=some v->∃x t,s[i]?=some x/\v= .str x t
 |_,_,.nil,i,v,h=>by simp at h
 |_,_,.cons y t r,0,v,h=>by simp at h;exact#[y,t,Z,h.symm]
 |_,_,.cons y t r,i+1,v,h=>by
  simp only[List.getElem?_cons_succ]at h
  obtain⟨x,T,e,E⟩:=StrsAre.at' r i v h
  exact#[x,T,by simpa using e,E]
theorem StrsAre.len:∀{v:List Value} {s:List Str},StrsAre v s->s.length=v.length
 |_,_,.nil=>rfl
 |_,_,.cons _ _ r=>by simp [StrsAre.len r]
theorem jZ:Slot "set_iterator" "__next__" "set_iterator.__next__":=by
 refine .of (owner:="set_iterator") (n:="__next__") ?_ IP IP IP ?_ ?_
 ·rw[EV,Et];kernel_rfl
 ·first |exact .inl IP |exact .inr IP
 ·rw[Fj];kernel_rfl
theorem qd:Slot "set_iterator" "__iter__" "set_iterator.__iter__":=by
 refine .of (owner:="set_iterator") (n:="__iter__") ?_ IP IP IP ?_ ?_
 ·rw[EV,Et];kernel_rfl
 ·first |exact .inl IP |exact .inr IP
 ·rw[Fj];kernel_rfl
theorem Jr:entryFor table "set_iterator.__next__"=some Builtin.«set_iterator.__next__»:=Hz (by kernel_rfl)
theorem Js:entryFor table "set_iterator.__iter__"=some Builtin.«dict_keyiterator.__iter__»:=by
 refine HV (id':="dict_keyiterator.__iter__") ?_ Z IP ?_<;>kernel_rfl
theorem JH:entryFor table "set.__iter__"=some Builtin.«frozenset.__iter__»:=by
 refine HV (id':="frozenset.__iter__") ?_ Z IP ?_<;>kernel_rfl
theorem JI(a:Value):argsOk "set_iterator.__next__" #[[a],[]]:=by unfold argsOk;kernel_rfl
theorem JJ(a:Value):argsOk "set_iterator.__iter__" #[[a],[]]:=by unfold argsOk;kernel_rfl
def bL(h:Heap)(I:Addr)(f:Value)(i:Nat)(S:Addr)(n e:Nat):Prop:=
 ∃o,h.get? I=some o/\o.cls= .type "set_iterator"/\o.data= .fields (List.toArray [f,.int i 0,.ref S,.int n 0,.int e 0])
theorem bL.at{H:Heap}{i:Nat}{S:Addr}(x:bL h I f i S n E)(e:∀o,h.get? I=some o->H.get? I=some o):bL H I f i S n E:=
 let #[o,a,r]:=x;#[o,e o a,r]
theorem bL.is{s:Shared}{S:Addr}(x:bL s.heap I f i S n e):s.TypeIs (.ref I) "set_iterator":=let #[o,h,H,_]:=x;#[o,h,H]
section
variable {prog:Program}{w:World}{A:Around}{E:Value->Shared->Prop}{s:Shared}
theorem JM{c:Type}{Q:c->Shared->Prop}(d:A.handled=none)
  (h:∀H e,(∀b o,s.heap.get? b=some o->H.get? b=some o)->Shared.TypeIs { s with heap:=H } e "StopIteration"->E e { s with heap:=H }):
  wpAny (model prog w) A (do raiseNew (<- newExc (.type "StopIteration") []):Sem c) Q E s:=by
 refine DG ?_
 simp only[newExc,newTuple]
 refine DG (En ?_ (by size_fits))
 refine DG (m:=firstArgMember _ _) (Hl (a:=Value.none) ?_ ?_)
 ·first |rfl | (simp only[firstArgMember];rfl)
 refine En ?_ (by size_fits)
 simp only[raiseNew]
 refine DG (wpAny_handled ?_)
 rw[d]
 refine DG (DH (wpAny_throw (h _ _ (λb o e=>DI _ (DI _ e)) ?_)))
 exact#[_,DP _ Z,Z]
theorem JN{S:Addr}(H:bL s.heap I f i S n c)
  (h:wpAny (model prog w) A.in1 (Builtin.«set_iterator.__next__» #[[.ref I],[]]) (λF a=>∃v,F= .done (.ret v)/\Q (some v) a) (λe a=>a.TypeIs e "StopIteration"/\Q none a) s):
  wpAny (model prog w) A (pyNext (.ref I)) Q E s:=by
 unfold pyNext
 refine DG (Gn (Ek (name:=Str.ofString "__next__") H.is jZ (Ep jZ H.is Jr ?_ (JI _))))
 refine EK h (λF a q=>?_) λe a q=>?_
 ·obtain⟨v,e,q⟩:=q
  exact#[v,e,DH q]
 ·exact DG (FM (T:="StopIteration") (b:=true) q.1 HU (DH q.2))
theorem Ql{I:Addr}{f:Value}{i:Nat}{S:Addr}{n a:Nat}{o:Obj}{v:Array Value}(H:s.heap.get? I=some o)(b:o.cls= .type "set_iterator")(h:o.data= .fields v)(k:Nat)(x:Value)
  (e:v.setIfInBounds k x=(List.toArray [f,.int i 0,.ref S,.int n 0,.int a 0])):bL (s.heap.update I (Obj.mapFields (·.setIfInBounds k x))) I f i S n a:=
 #[_,Em _ H (EL (Ei h _)),(GF ..).trans b,by rw[Ei h,e]]
theorem XZ{I S P:Addr}{i:Nat}{O j:Obj}{e:Array (Int×Value)}{a:Nat}{t:SetTable}{k:Array Value}{c p:Nat}{hx:Int}{x:Value}{Q:Option Value->Shared->Prop}
  (h:bL s.heap I (.ref P) i S e.size a) (l:s.heap.get? S=some O) (H:O.data= .set e a t) (m:t.fits e.size=true) (n:s.heap.get? P=some j) (b:j.data= .seq k c)
  (q:k[i]?=some (.int p 0)) (r:e[p]?=some (hx,x)) (u:∀d,bL d I (.ref P) (i+1) S e.size a->Heap.SameBut I s.heap d->Q (some x) { s with heap:=d }):
  wpAny (model prog w) A (pyNext (.ref I)) Q E s:=by
 refine JN h ?_
 obtain⟨o,f,v,g⟩:=h
 show wpAny _ _ (fieldsOf (.ref I) >>= _) _ _ s
 refine DG (HR f g ?_)
 dsimp only
 refine DG (Gk l H m ?_)
 simp only[Fz,DT,↓reduceIte]
 refine DG (EB n b ?_)
 simp only[EA,q]
 unfold setNextDrawn
 refine DG (DG (Fm l H m ?_))
 simp only[Fz,DT,↓reduceIte,r]
 refine DH ?_
 refine DG (Ex f g IN (DH #[x,Z,u _ ?_ (Fs ..)]))
 exact Ql f v g _ _ (by simp [rawInt])
theorem Kz(q:A.handled=none){I S P:Addr}{i:Nat}{O l:Obj}{d:Array (Int×Value)}{m:Nat}{t:SetTable}{p:Array Value}{c:Nat}{Q:Option Value->Shared->Prop}
  (h:bL s.heap I (.ref P) i S d.size m) (r:s.heap.get? S=some O) (f:O.data= .set d m t) (u:t.fits d.size=true) (v:s.heap.get? P=some l) (g:l.data= .seq p c)
  (x:p[i]?=none) (y:∀H,(∀b o,b≠I->s.heap.get? b=some o->H.get? b=some o)->Q none { s with heap:=H }):
  wpAny (model prog w) A (pyNext (.ref I)) Q E s:=by
 refine JN h ?_
 obtain⟨o,j,B,a⟩:=h
 show wpAny _ _ (fieldsOf (.ref I) >>= _) _ _ s
 refine DG (HR j a ?_)
 dsimp only
 refine DG (Gk r f u ?_)
 simp only[Fz,DT,↓reduceIte]
 refine DG (EB v g ?_)
 simp only[EA,x]
 refine DG (Ex j a IN ?_)
 refine DG (Ex (Em _ j (EL (Ei a _))) (Ei a _) IN ?_)
 refine JM (s:={ s with heap:=_ }) (by simpa using q) λH e k T=>#[T,y H λb o n z=>k b o ?_]
 exact(DY _ _ (Eg n)).trans ((DY _ _ (Eg n)).trans z)
end
section
variable {prog:Program}{w:World}{A:Around}{E:Value->Shared->Prop}{s:Shared}
theorem Qm{I S:Addr}{i j nx:Nat}{O:Obj}{e:Array (Int×Value)}{a:Nat}{t:SetTable}{x:Value}{Q:Option Value->Shared->Prop}
  (h:bL s.heap I (.int j 0) i S e.size a) (f:s.heap.get? S=some O) (b:O.data= .set e a t) (k:t.fits e.size=true)
  (l:∀(q:Option (Value×Nat)->Shared->Prop) m,q (some (x,nx)) s->wpAny (model prog w) A.in1 (setNext S j i a) q m s)
  (n:∀c,bL c I (.int nx 0) (i+1) S e.size a->Heap.SameBut I s.heap c->Q (some x) { s with heap:=c }):
  wpAny (model prog w) A (pyNext (.ref I)) Q E s:=by
 refine JN h ?_
 obtain⟨o,d,p,H⟩:=h
 show wpAny _ _ (fieldsOf (.ref I) >>= _) _ _ s
 refine DG (HR d H ?_)
 dsimp only
 refine DG (Gk f b k ?_)
 simp only[Fz,DT,↓reduceIte]
 simp only[EA]
 refine DG (l _ _ ?_)
 dsimp only
 refine DG (Ex d H IN ?_)
 have g:=Em (Obj.mapFields (·.setIfInBounds 0 (rawInt nx))) d (EL (Ei H _))
 have D:=Ei H (·.setIfInBounds 0 (rawInt nx))
 refine DG (Ex g D IN (DH #[x,Z,n _ ?_ ((Fs ..).trans (Fs ..))]))
 exact Ql (s:={ s with heap:=_ }) g ((GF ..).trans p) D _ _ (by simp [rawInt])
theorem qx(l:A.handled=none){I S:Addr}{i j:Nat}{O:Obj}{a:Array (Int×Value)}{c:Nat}{t:SetTable}{Q:Option Value->Shared->Prop}
  (h:bL s.heap I (.int j 0) i S a.size c) (m:s.heap.get? S=some O) (d:O.data= .set a c t) (n:t.fits a.size=true)
  (p:∀(q:Option (Value×Nat)->Shared->Prop) r,q none s->wpAny (model prog w) A.in1 (setNext S j i c) q r s)
  (u:∀H,(∀b o,b≠I->s.heap.get? b=some o->H.get? b=some o)->Q none { s with heap:=H }):
  wpAny (model prog w) A (pyNext (.ref I)) Q E s:=by
 refine JN h ?_
 obtain⟨o,f,y,g⟩:=h
 show wpAny _ _ (fieldsOf (.ref I) >>= _) _ _ s
 refine DG (HR f g ?_)
 dsimp only
 refine DG (Gk m d n ?_)
 simp only[Fz,DT,↓reduceIte]
 simp only[EA]
 refine DG (p _ _ ?_)
 dsimp only
 refine DG (Ex f g IN ?_)
 refine JM (s:={ s with heap:=_ }) (by simpa using l) λH e k T=>#[T,u H λb o v x=>k b o ?_]
 exact(DY _ _ (Eg v)).trans x
theorem Je(a:w.params.followText "set-order"=true){S:Addr}(b:s.heap.get? S=some o)(H:o.data= .set c d t)
  (f:t.fits c.size=true) {Q:Option (Value×Nat)->Shared->Prop} (h:Q (((pickOrder (w.params.setOrder S d) c)[i]?).map λe=>(e.2,j)) s):
  wpAny (model prog w) A (setNext S j i d) Q E s:=by
 unfold setNext
 refine DG (Fm b H f ?_)
 dsimp only
 unfold setsByText
 refine DG (DG (Gf (DH ?_)))
 dsimp only
 rw[show(model prog w).w.params.followText "set-order"=_ from a]
 simp only[↓reduceIte,Fz,DT]
 unfold setWalk
 refine DG (DG (Fm b H f ?_))
 dsimp only
 unfold setsByText
 refine DG (DG (Gf (DH ?_)))
 dsimp only
 rw[show(model prog w).w.params.followText "set-order"=_ from a]
 simp only[↓reduceIte]
 exact DG (Gf (DH (DH h)))
theorem JD(a:w.params.followText "set-order"=false){S:Addr}(b:s.heap.get? S=some o)(H:o.data= .set e c t)
  (d:t.fits e.size=true) (f:t.led=true) (l:e.size<=1) {Q:Option (Value×Nat)->Shared->Prop}
  (h:Q (match e[SetTable.below t.place j]?,t.place[SetTable.below t.place j]? with |some (_,x),some k=>some (x,k+1) |_,_=>none) s):
  wpAny (model prog w) A (setNext S j i c) Q E s:=by
 unfold setNext
 refine DG (Fm b H d ?_)
 dsimp only
 unfold setsByText
 refine DG (DG (Gf (DH ?_)))
 dsimp only
 rw[show(model prog w).w.params.followText "set-order"=_ from a]
 simp only[DT,↓reduceIte]
 split
 ·rename_i z
  have g:(!t.plain&&decide (e.size > 1))=true:=z
  simp only[EM,decide_eq_true_eq]at g
  omega
 ·refine DG ?_
  show wpAny _ _ (if (!t.led&&!e.isEmpty)=true then _ else _) _ _ _
  rw[f]
  simp only[Ga,Bool.false_and,DT,↓reduceIte]
  exact DH (DH h)
end
theorem Xr{a:Type}(f:Nat->Nat):∀(n k:Nat) (l:List a) (o:Array a),l.length=n->(pickOrder.go f n k l o).toList.Perm (o.toList++l):=by
 intro n
 induction n with
 |zero=>
  intro k l o h
  rw[List.length_eq_zero_iff.mp h]
  unfold pickOrder.go
  simp
 |succ n i=>
  intro k l o h
  unfold pickOrder.go
  have H:f k % l.length < l.length:=Nat.mod_lt _ IM
  rw[DJ H]
  dsimp only
  refine(i _ _ _ (by rw[Iv H,h];rfl)).trans ?_
  rw[Array.toList_push,List.append_assoc,List.singleton_append]
  refine List.Perm.append_left _ ?_
  rw[Ib]
  refine List.perm_middle.symm.trans ?_
  rw[Hi,Gw]
theorem j9{a:Type}(f:Nat->Nat)(x:Array a):(pickOrder f x).toList.Perm x.toList:=by
 have h:=Xr f x.size 0 x.toList (List.toArray []) (D6 ..)
 simpa [pickOrder] using h
theorem Q6{a:Type}(x:Array a)(d:a):(List.range x.size).map (λp=>(x[p]?).getD d)=x.toList:=by
 refine List.ext_getElem IN λi b h=>?_
 have H:i < x.size:=by simpa using h
 simp [H]
def lH(ord:List (Int×Value))(i:Nat)(v:Value):Prop:=∃e,ord[i]?=some e/\v=e.2
section
variable {prog:Program}{w:World}{A:Around}{E:Value->Shared->Prop}{s:Shared}
theorem qI{S:Addr}(H:bL s.heap I f i S n e){Q:Value->Shared->Prop}(h:Q (.ref I) s):wpAny (model prog w) A (pyIter (.ref I)) Q E s:=by
 refine Ir H.is qd (Ep qd H.is Js ?_ (JJ _))
 show wpAny _ _ (ret (.ref I)) _ _ s
 exact DH #[_,Z,"set_iterator",_,H.is,jZ.lookup,h]
theorem X0(D:A.handled=none)(I S P:Addr)(l:S≠I)(m:P≠I){O oP:Obj}{y:List Nat}{c:Nat}(f:O.data= .set d G t)
  (u:t.fits d.size=true) (g:oP.data= .seq (y.map λ(i:Nat)=>rawInt i).toArray c) (n:y.Perm (List.range d.size)):
  WalksS prog w A I [I,S,P] [I] (λa b=>b=a) d.size (lH (y.map λp=>(d[p]?).getD (0,.none)))
   (λi s=>bL s.heap I (.ref P) i S d.size G/\s.heap.get? S=some O/\s.heap.get? P=some oP) where
 sub:=λb H=>by simp at H;simp [H]
 grefl:=λ_=>Z
 gtrans:=λ_ _ _ F J=>J.trans F
 frame:=λi s v T st _ k=>#[st.1.at λo e=>k I IN o e,k S IN _ st.2.1,k P IN _ st.2.2]
 item:=λi s Q E K st j=>by
  have B:y.length=d.size:=by rw[n.length_eq,HY]
  have h:i < y.length:=by omega
  have C:y[i] < d.size:=List.mem_range.mp (n.mem_iff.mp (FJ h))
  refine XZ (p:=y[i]) (hx:=(d[y[i]]).1) (x:=(d[y[i]]).2) st.1 st.2.1 f u st.2.2 g (by simp [h,rawInt]) (by simp [C]) λv q r=>?_
  refine j _ _ #[d[y[i]],by simp [h,C],Z] #[q,?_,?_] #[λb o H e=>?_,Z,Z,Z,DN _]
  ·rw[r.2 S l];exact st.2.1
  ·rw[r.2 P m];exact st.2.2
  ·rw[r.2 b (λz=>H (by simp [z]))];exact e
 done:=λs Q E st j=>by
  have B:y.length=d.size:=by rw[n.length_eq,HY]
  refine Kz D st.1 st.2.1 f u st.2.2 g (by simp [B]) λv k=>j _ #[λb o H e=>k b o (λz=>H (by simp [z])) e,Z,Z,Z,DN _]
 self:=λ_ _ _ _ st j=>qI st.1 j
theorem Zd(r:A.handled=none)(m:w.params.followText "set-order"=true)(I S:Addr)(l:S≠I){O:Obj}(h:O.data= .set c d t)
  (j:t.fits c.size=true):
  WalksS prog w A I [I,S] [I] (λa b=>b=a) c.size (lH (pickOrder (w.params.setOrder S d) c).toList)
   (λi s=>bL s.heap I (.int (0:Nat) 0) i S c.size d/\s.heap.get? S=some O) where
 sub:=λb H=>by simp at H;simp [H]
 grefl:=λ_=>Z
 gtrans:=λ_ _ _ u v=>v.trans u
 frame:=λi s n T st _ k=>#[st.1.at λo e=>k I IN o e,k S IN _ st.2]
 item:=λi s Q E D st f=>by
  have y:(pickOrder (w.params.setOrder S d) c).size=c.size:=by rw[<- D6,(j9 _ _).length_eq,D6]
  have g:i < (pickOrder (w.params.setOrder S d) c).size:=by omega
  refine Qm (x:=(pickOrder (w.params.setOrder S d) c)[i].2) (nx:=0) st.1 st.2 h j (λB C q=>Je m st.2 h j (by rw[Fv g];exact q)) λn q p=>?_
  refine f _ _ #[(pickOrder (w.params.setOrder S d) c)[i],by rw[Fc];exact Fv g,Z] #[q,?_] #[λb o H e=>?_,Z,Z,Z,DN _]
  ·rw[p.2 S l];exact st.2
  ·rw[p.2 b (λz=>H (by simp [z]))];exact e
 done:=λs Q E st f=>by
  have y:(pickOrder (w.params.setOrder S d) c).size=c.size:=by rw[<- D6,(j9 _ _).length_eq,D6]
  refine qx r st.1 st.2 h j (λB C q=>Je m st.2 h j (by rw[Hj IM];exact q)) λn k=>f _ #[λb o H e=>k b o (λz=>H (by simp [z])) e,Z,Z,Z,DN _]
 self:=λ_ _ _ _ st f=>qI st.1 f
theorem X1(p:Nat):SetTable.below (List.toArray [p]) 0=0:=by simp [SetTable.below,SetTable.below.go]
theorem X2(p:Nat):SetTable.below (List.toArray [p]) (p+1)=1:=by simp [SetTable.below,SetTable.below.go]
theorem rN(G:A.handled=none)(u:w.params.followText "set-order"=false)(I S:Addr)(n:S≠I){O:Obj}(h:O.data= .set c L t)
  (g:t.fits c.size=true) (v:t.led=true) (y:c.size<=1):
  WalksS prog w A I [I,S] [I] (λa b=>b=a) c.size (lH c.toList)
   (λi s=>(∃j:Nat,bL s.heap I (.int j 0) i S c.size L/\(i=0->j=0)/\(i=1->∃p,t.place=(List.toArray [p])/\j=p+1))/\s.heap.get? S=some O) where
 sub:=λb d=>by simp at d;simp [d]
 grefl:=λ_=>Z
 gtrans:=λ_ _ _ K M=>M.trans K
 frame:=λi s B W st _ k=>#[let #[j,a,r]:=st.1;#[j,a.at λo e=>k I IN o e,r],k S IN _ st.2]
 item:=λi s Q E X st l=>by
  obtain⟨⟨j,H,J,C⟩,f⟩:=st
  have N:i=0:=by omega
  subst N
  cases J Z
  have D:c.size=1:=by omega
  have P:t.place.size=1:=by
   simp only[SetTable.fits,EM,beq_iff_eq]at g
   omega
  obtain⟨p,m⟩:=Array.size_eq_one_iff.mp P
  refine Qm (x:=(c[0]'IM).2) (nx:=p+1) H f h g (λR T q=>JD u f h g v y (by rw[m,X1,Fv IM];exact q)) λB q F=>?_
  refine l _ _ #[c[0]'IM,by rw[Fc];exact Fv IM,Z] #[#[_,q,λz=>by omega,λ_=>#[p,m,Z]],?_] #[λb o d e=>?_,Z,Z,Z,DN _]
  ·rw[F.2 S n];exact f
  ·rw[F.2 b (λz=>d (by simp [z]))];exact e
 done:=λs Q E st l=>by
  obtain⟨⟨j,H,J,C⟩,f⟩:=st
  refine qx G H f h g (λR T q=>JD u f h g v y ?_) λB k=>l _ #[λb o d e=>k b o (λz=>d (by simp [z])) e,Z,Z,Z,DN _]
  by_cases z:c.size=0
  ·rw[Hj (show c.size<=_ by omega)];exact q
  ·have D:c.size=1:=by omega
   obtain⟨p,U,V⟩:=C D
   subst V
   rw[U,X2,Hj (show c.size<=1 by omega)];exact q
 self:=λ_ _ _ _ st l=>let #[#[_,a,_],_]:=st;qI a l
end
theorem zZ{prog:Program}{w:World}(h:ElemsOf (PySem.strKind prog w) E)(i:Nat)(v:Value)(b:lH E i v):∃x t,(E.map λe=>iU e.2)[i]?=some x/\v= .str x t:=by
 obtain⟨e,H,rfl⟩:=b
 obtain⟨⟨k,c,_⟩,_⟩:=h e (D5 H)
 obtain⟨t,a⟩:=GL c
 exact#[k,t,by rw[D4,H];show some (iU e.2)=_;rw[a];rfl,a]
def wn(p:Program)(w:World)(s c:Shared)(S I:Addr)(L:List Str):Prop:=
 ∃(f:List Addr) (d:List Str) (P:Nat->Value->Prop) (St:Nat->Shared->Prop),(∀b o,s.heap.get? b=some o->c.heap.get? b=some o)/\c.gens=s.gens/\c.os=s.os/\s.toks<=c.toks/\
  s.heap.objs.size<=I/\I < c.heap.objs.size/\c.TypeIs (.ref I) "set_iterator"/\(∀b∈f,b=S∨s.heap.objs.size<=b)/\(∀A:Around,A.handled=none->WalksS p w A I f [I] (λa b=>b=a) d.length P St)/\St 0 c/\
  (∀i v,P i v->∃x t,d[i]?=some x/\v= .str x t)/\d.Perm L
section
variable {prog:Program}{w:World}{A:Around}{E:Value->Shared->Prop}{s:Shared}
theorem X3{S:Addr}(V:bZ prog w s.heap S L){Q:Value->Shared->Prop}(h:∀f I,wn prog w s f S I L->Q (.ref I) f):wpAny (model prog w) A (pyIter (.ref S)) Q E s:=by
 obtain⟨o,a,x,t,H,W,m,n,M,X,r,u,Y,N⟩:=V
 have P:s.TypeIs (.ref S) "set":=#[o,H,W.1]
 have v:S < s.heap.objs.size:=DO H
 refine Ir P PySem.F.slot_set_iter (Ep PySem.F.slot_set_iter P JH ?_ (PySem.F.args_set_iter_1 _))
 unfold Builtin.«frozenset.__iter__»
 show wpAny _ _ (Builtin.Frozenset.sizeOf S >>= _) _ _ s
 unfold Builtin.Frozenset.sizeOf
 refine DG (DG (Gk H m u (DH ?_)))
 unfold setDrawn
 refine DG (DG (Fm H m u ?_))
 dsimp only
 unfold setsByText
 refine DG (DG (Gf (DH (DH ?_))))
 split
 ·rename_i z
  have B:(!(w.params.followText "set-order")&&(!t.plain&&decide (a.size > 1)))=true:=z
  simp only[EM,decide_eq_true_eq]at B
  refine DG (Xo a.size (List.range a.size) s IN λy d G=>?_)
  have C:y.length=a.size:=by rw[G.length_eq,HY]
  have O:((y.map λ(i:Nat)=>rawInt i).length)<=sizeLine:=by rw[DK,C];exact Hm r
  refine DG (wpAny_newTuple (s:={ s with drawn:=d }) ?_ O)
  refine DG ?_
  unfold setEpoch
  refine DG (Fm (DI _ H) m u (DH ?_))
  refine DG (En (DH #[_,Z,"set_iterator",_,#[_,DP _ Z,Z],jZ.lookup,h _ _ ?_]))
  generalize J:s.heap.push { cls:=.type "tuple",data:=.seq (y.map λ(i:Nat)=>rawInt i).toArray }=g
  have R:g.objs.size=s.heap.objs.size+1:=by rw[<- J,Ey]
  have gP:g.get? s.heap.objs.size=some { cls:=.type "tuple",data:=.seq (y.map λ(i:Nat)=>rawInt i).toArray }:=by rw[<- J];exact DP _ Z
  have gS:g.get? S=some o:=by rw[<- J];exact DI _ H
  refine#[[g.objs.size,S,s.heap.objs.size],(y.map λp=>(a[p]?).getD (0,.none)).map λe=>iU e.2,lH (y.map λp=>(a[p]?).getD (0,.none)),
   (λi f=>bL f.heap g.objs.size (.ref s.heap.objs.size) i S a.size x/\f.heap.get? S=some o/\f.heap.get? s.heap.objs.size=some { cls:=.type "tuple",data:=.seq (y.map λ(i:Nat)=>rawInt i).toArray }),λb o e=>?_,Z,Z,DN _,?_,?_,#[_,DP _ Z,Z],λb r=>?_,
   λT D=>?_,#[#[_,DP _ Z,Z,Z],DI _ gS,DI _ gP],?_,?_]
  ·exact DI _ (by rw[<- J];exact DI _ e)
  ·show s.heap.objs.size<=g.objs.size
   omega
  ·show g.objs.size < (g.push _).objs.size
   rw[Ey];exact ET _
  ·simp only[Fn,Eb,Gz]at r
   rcases r with e |e |e
   ·subst e;exact .inr IM
   ·exact .inl e
   ·rw[e];exact .inr (DN _)
  ·have q:=X0 (prog:=prog) (w:=w) D g.objs.size S s.heap.objs.size (DS (by rw[R];exact FQ v)) (DS (by rw[R];exact ET _)) m u (oP:={ cls:=.type "tuple",data:=.seq (y.map λ(i:Nat)=>rawInt i).toArray }) (c:=0) Z G
   simpa [C] using q
  ·refine zZ (prog:=prog) (w:=w) (n.perm ?_)
   have q:=G.map λp=>(a[p]?).getD ((0:Int),Value.none)
   rwa [Q6]at q
  ·have q:=G.map λp=>(a[p]?).getD ((0:Int),Value.none)
   rw[Q6]at q
   exact(q.map _).trans M
 ·rename_i z
  have B:¬(!(w.params.followText "set-order")&&(!t.plain&&decide (a.size > 1)))=true:=z
  refine DG (DH ?_)
  refine DG ?_
  unfold setEpoch
  refine DG (Fm H m u (DH ?_))
  refine DG (En (DH #[_,Z,"set_iterator",_,#[_,DP _ Z,Z],jZ.lookup,h _ _ ?_]))
  have k:∀b∈[s.heap.objs.size,S],b=S∨s.heap.objs.size<=b:=λb r=>by
   simp only[Fn,Eb,Gz]at r
   rcases r with e |e
   ·subst e;exact .inr (DN _)
   ·exact .inl e
  have l:∀U:Obj,s.heap.objs.size < (s.heap.push U).objs.size:=λU=>by rw[Ey];exact ET _
  cases K:w.params.followText "set-order" with
  |true=>
   have pl:(pickOrder (w.params.setOrder S x) a).toList.length=a.size:=by rw[(j9 _ _).length_eq,D6]
   refine#[[s.heap.objs.size,S],(pickOrder (w.params.setOrder S x) a).toList.map λe=>iU e.2,lH (pickOrder (w.params.setOrder S x) a).toList,
    (λi f=>bL f.heap s.heap.objs.size (.int (0:Nat) 0) i S a.size x/\f.heap.get? S=some o),λb o e=>DI _ e,Z,Z,DN _,DN _,l _,#[_,DP _ Z,Z],k,
    λT D=>?_,#[#[_,DP _ Z,Z,Z],DI _ H],?_,?_]
   ·have q:=Zd (prog:=prog) (w:=w) D K s.heap.objs.size S (DS v) m u
    rw[DK,pl];exact q
   ·exact zZ (prog:=prog) (w:=w) (n.perm (j9 _ _))
   ·exact((j9 _ _).map _).trans M
  |false=>
   have hs:a.size<=1:=by
    rw[K]at B
    rcases N with e |e
    ·rw[e]at B
     simp at B
     exact B
    ·omega
   refine#[[s.heap.objs.size,S],a.toList.map λe=>iU e.2,lH a.toList,
    (λi f=>(∃j:Nat,bL f.heap s.heap.objs.size (.int j 0) i S a.size x/\(i=0->j=0)/\(i=1->∃p,t.place=(List.toArray [p])/\j=p+1))/\f.heap.get? S=some o),λb o e=>DI _ e,Z,Z,DN _,DN _,l _,#[_,DP _ Z,Z],k,
    λT D=>?_,#[#[0,#[_,DP _ Z,Z,Z],λ_=>Z,λz=>by cases z],DI _ H],?_,?_]
   ·have q:=rN (prog:=prog) (w:=w) D K s.heap.objs.size S (DS v) m u (by rw[Y,K];rfl) hs
    rw[DK,D6];exact q
   ·exact zZ (prog:=prog) (w:=w) n
   ·exact M
theorem qy:∀(V:List Value) (S:List Str),V.length=S.length->(∀(i:Nat) (v:Value),V[i]?=some v->∃x t,S[i]?=some x/\v=Value.str x t)->StrsAre V S
 | [],[],_,_=>.nil
 | [],_::_,h,_=>by cases h
 |_::_,[],h,_=>by cases h
 |v::V,y::S,h,k=>by
  obtain⟨x,t,e,rfl⟩:=k 0 v Z
  cases e
  exact .cons y t (qy V S (by simpa using h) λi u H=>k (i+1) u (by simpa using H))
theorem KL{S:Addr}(hh:A.handled=none)(y:bZ prog w s.heap S L){Q:List Value->Shared->Prop}
  (h:∀a V g,s.heap.objs.size<=a.heap.objs.size->(∀b o,s.heap.get? b=some o->a.heap.get? b=some o)->a.gens=s.gens->a.os=s.os->s.toks<=a.toks->StrsAre V g->g.Perm L->Q V a):wpAny (model prog w) A (collect (.ref S)) Q E s:=by
 have n:L.length < scanBound:=by
  obtain⟨o,es,ep,t,j,M,hd,h0,u,h1,k,hf,hl,h2⟩:=y
  rw[<- u.length_eq,DK,D6];exact k
 unfold collect
 refine DG (wpAny_runValue (EW Io ?_))
 rw[EE Im]
 show wpAny _ A.in1 (newList [] >>= λl=>again (.builtin "list.__iadd__" #[[l,.ref S],[]])) _ _ s
 refine DG (En (DH #[FL Gi _,EW IG ?_]))
 rw[EE Gi]
 show wpAny _ A.in1 (Builtin.List.listExtendWith (.ref s.heap.objs.size) (.ref S) (.ref s.heap.objs.size)) _ _ _
 unfold Builtin.List.listExtendWith
 have p:S < s.heap.objs.size:=by obtain⟨o,_,_,_,j,_⟩:=y;exact DO j
 generalize x:s.heap.push { cls:=.type "list",data:=.seq ([]:List Value).toArray }=H
 have gl:H.get? s.heap.objs.size=some { cls:=.type "list",data:=.seq ([]:List Value).toArray }:=by rw[<- x];exact DP _ Z
 have R:bZ prog w H S L:=y.at λo e=>by rw[<- x];exact DI _ e
 have gk:∀b o,s.heap.get? b=some o->H.get? b=some o:=λb o e=>by rw[<- x];exact DI _ e
 have T:Shared.TypeIs { s with heap:=H } (.ref S) "set":=by
  obtain⟨o,_,_,_,j,M,_⟩:=R
  exact#[o,j,M.1]
 refine DG (Ft T ?_)
 have n1:Builtin.List.listSameRef (.ref s.heap.objs.size) (.ref S)=false:=by
  simp only[Builtin.List.listSameRef,beq_eq_false_iff_ne]
  exact Ez p
 have n2:(Value.type "set"==Value.type "list")=false:=by decide
 have n3:(Value.type "set"==Value.type "tuple")=false:=by decide
 simp only[n1,n2,n3,ID,DT,EN]
 refine DG (X3 (s:={ s with heap:=H }) R λr I B=>?_)
 obtain⟨fp,g,P,St,K,kg,ko,kt,C,h3,h4,D,W,st,hv,u⟩:=B
 have G:H.objs.size=s.heap.objs.size+1:=by rw[<- x,Ey]
 have f:r.TypeIs (.ref S) "set":=by
  obtain⟨o,j,hc⟩:=T
  exact#[o,K _ _ j,hc]
 refine DG (D8 ?_)
 unfold Builtin.List.listLengthHint
 refine DG (Fo f PySem.F.slot_set_len.lookup ?_)
 wp_delta
 refine DG (FM (b:=true) f sub_set_self ?_)
 show wpAny _ A.in1 (typeOf (Value.ref S) >>= _) _ _ _
 refine DG (Ft f (DH ?_))
 rw[D0 IL]
 refine DG (Fy ?_)
 have U:=K _ _ gl
 refine DG ?_
 show wpAny _ A.in1 (updateSeq s.heap.objs.size (·.push .none) >>= λ_=>updateSeq s.heap.objs.size (·.pop)) _ _ _
 refine DG (HL U Z ?_)
 have X:=Em (Obj.mapSeq (·.push Value.none)) U Z
 refine HL X Z ?_
 have g3:=Em (Obj.mapSeq (·.pop)) X Z
 have N:¬s.heap.objs.size∈fp:=λm=>by
  rcases D _ m with e |e
  ·exact absurd p (by rw[<- e];exact EG _)
  ·have e':H.objs.size<=s.heap.objs.size:=e
   omega
 have O:∀b o,b≠s.heap.objs.size->r.heap.get? b=some o->((r.heap.update s.heap.objs.size (Obj.mapSeq (·.push Value.none))).update s.heap.objs.size (Obj.mapSeq (·.pop))).get? b=some o:=
  λb o k e=>(DY _ _ (Eg k)).trans ((DY _ _ (Eg k)).trans e)
 have Y:=W A.in1 (by simpa using hh)
 have hn:g.length<=sizeLine:=by rw[u.length_eq];exact Hm n
 refine DH #[FL Ix _,codeAny_extend_loopS Y hn _ N _ g.length 0 _ _ _ Z (DX _) (Y.frame 0 r _ r.toks st (DN _) λb k o e=>O b o (λz=>N (z▸k)) e) g3 (ItemsOf.nil P) λa J c m gS d=>?_]
 show wpAny _ A (load s.heap.objs.size >>= _) _ _ a
 refine DG (wpAny_load gS (DH (h a J.toList g (F8 (DO gS)) (λb o e=>?_) ?_ ?_ ?_ ?_ u)))
 ·have ne:b≠s.heap.objs.size:=DS (DO e)
  refine m.heap b o ?_ (O b o ne (K b o (gk b o e)))
  simp only[Fn,Eb,Gz,not_or]
  refine#[ne,λz=>?_]
  have q:s.heap.objs.size+1<=I:=G▸C
  have q2:=DO e
  rw[z]at q2
  exact absurd (DW (FQ q2) q) (EG _)
 ·exact m.gens.trans kg
 ·exact m.os.trans ko
 ·exact DV kt m.toks
 ·refine qy _ _ (by rw[D6,d.1]) λi v e=>hv i v (d.2 i v (by rwa [Fc]at e))
end
section
variable {prog:Program}{w:World}{A:Around}{E:Value->Shared->Prop}{s:Shared}
theorem QQ{S:Addr}(z:A.handled=none)(B:bZ prog w s.heap S L)(j:L.length < 64){Q:Value->Shared->Prop}
  (h:∀f a c v i,s.heap.objs.size<=a->(∀b o,s.heap.get? b=some o->f.heap.get? b=some o)->f.gens=s.gens->f.os=s.os->f.heap.get? a=some (seqObj "list" v c)->StrsAre v.toList i->i.Perm L->sortedS i=true->Q (.ref a) f):
  wpAny (model prog w) A (call (.builtin "sorted") [.ref S]) Q E s:=by
 refine Calls.call_function_entry kind_sorted plain_sorted entry_sorted (args_sorted1 _) ?_
 unfold Builtin.«sorted»
 refine DG (m:=checkCount "sorted" 1 1 _) (DH ?_)
 refine DG (KL (by simpa using z) B λd v i K k C D P H r=>?_)
 have F:v.length < 64:=by rw[<- L2.StrsAre.len H,r.length_eq];exact j
 refine DG (wpAny_newList ?_ (by have q:sizeLine=1000000000∨64<=sizeLine:=.inr IL;omega))
 have g:=DP d.heap (o:=seqObj "list" v.toArray 0) Z
 refine DG (D8 (Ep slot_list_sort #[_,g,Z] entry_list_sort (list_sort_treeK strKind_oneLt g H.keysOf (λV t R e=>keyKind_strs (by rw[<- e];exact H)) F λl G I=>#[_,Z,?_]) (args_list_sort _)))
 obtain⟨n,u,J,M⟩:=sorted_out_str H G I
 generalize (arrOf l).map (·.2)=out at u ⊢
 obtain⟨c,N⟩:=sortedHeap_at (out:=out) g
 have O:∀b o,s.heap.get? b=some o->(sortedHeap (d.heap.push (seqObj "list" v.toArray 0)) d.heap.objs.size v out).get? b=some o:=by
  intro b o e
  have x:=k b o e
  have y:b < d.heap.objs.size:=DO x
  have p:b < (d.heap.push (seqObj "list" v.toArray 0)).objs.size:=by rw[size_push'];exact FQ y
  rw[sortedHeap_old (DS y) p]
  exact DI _ x
 exact DH #[_,Z,h { d with heap:=sortedHeap (d.heap.push (seqObj "list" v.toArray 0)) d.heap.objs.size v out } d.heap.objs.size c out n K O C D N u (J.trans r) M]
end
theorem Jf(h:StrsAre v s):au (s.map V.str) v:=by
 induction h with
 |nil=>exact .nil
 |cons y t _ i=>exact .cons #[t,Z] i
noncomputable def BB(P:Program)(w:World)(a:Addr)(L:List Str):HO:=.ext λh=>bZ P w h a L
section
variable {X:Cx}
theorem z9(i:X.calm=true):dB X (.builtin "sorted") (λx H Q=>∃(p:Addr) (L:List Str),x=[.ref p]/\H p=some (BB X.prog X.w p L)/\L.length < 64/\
  ∀l S,H l=none->S.Perm L->L.Nodup->sortedS S=true->Q (.ref l) (af H l (.lst (S.map V.str)))):=by
 intro P s B H x U Q I r h
 obtain⟨p,L,rfl,j,d,q⟩:=h
 obtain⟨u,rfl,R⟩:=dW r
 cases R
 obtain⟨f,_,_⟩:=I.hok p _ j
 have b:L.Nodup:=by obtain⟨_,_,_,_,_,_,_,_,_,b,_⟩:=f;exact b
 refine QQ (I.ok.hd i) f d λm a c v S e k K o t y g A=>?_
 have len:(S.map V.str).length<=sizeLine:=by rw[DK,g.length_eq];exact DV (F8 d) IL
 have n:aG X.prog X.w (af H a (.lst (S.map V.str))) m.heap a (.lst (S.map V.str)):=#[len,v.toList,c,Jf y,t]
 refine#[.ref a,_,I.call' (ch:=[]) o (Un.laid k e (I.hok.fresh e)) (I.hok.laid k e n) (by rw[K];exact I.bare) (λ_ z=>nomatch z),Z,q _ _ (I.hok.fresh e) g b A]
theorem QR:dB X (.builtin "sorted") (λx H Q=>∃(p:Addr) (a:List Str),x=[.ref p]/\aC X.K H p (a.map V.str)/\a.length < 64/\
  ∀l S,H l=none->S.Perm a->sortedS S=true->Q (.ref l) (af H l (.lst (S.map V.str)))):=by
 intro P s v H x U Q I r h
 obtain⟨p,a,rfl,f,b,q⟩:=h
 obtain⟨u,rfl,R⟩:=dW r
 cases R
 obtain⟨i,g,j,y⟩:=I.list f
 have d:=zX g
 have k:i.length=a.length:=(L2.StrsAre.len d).symm
 refine sorted_strs j.isList d (by rw[k];exact b) λo S m A n=>?_
 obtain⟨c,t⟩:=sortedAll_at s.heap i o
 have len:(S.map V.str).length<=sizeLine:=by rw[DK,A.length_eq];exact DV (F8 b) IL
 refine#[.ref (s.heap.objs.size+1),_,I.laid (t':=s.toks) (λ_ _ e=>sortedAll_old e) (Ff _) (show aG X.prog X.w _ _ _ (.lst (S.map V.str)) from #[len,o.toList,c,Jf m,t]),Z,q _ _ (I.hok.fresh (Ff _)) A n]
end
theorem Yy:mroOf (.type "reversed")=pure [.type "reversed",.type "object"]:=by rw[mroOf_type];kernel_rfl
theorem KA:typeLookup (.type "reversed") "__new__"=pure (some (.builtin "reversed.__new__")):=by rw[EV,Et];kernel_rfl
theorem KM:Slot "reversed" "__init__" "object.__init__":=by
 refine .of (owner:="object") (n:="__init__") ?_ IP IP IP ?_ ?_
 ·rw[EV,Et];kernel_rfl
 ·first |exact .inl IP |exact .inr IP
 ·rw[Fj];kernel_rfl
theorem X4:TypeCalled "reversed" "reversed.__new__" "object.__init__":=by
 refine#[IP,IP,#[_,_,Yy],madeBy_type Yy KA IP,IP,?_,KM]
 rw[Fj];kernel_rfl
theorem QS(a:Value):checkTypeCall "reversed" #[[a],[]]=pure ():=by kernel_rfl
theorem Xt(a:Value):checkBuiltinCall "reversed.__new__" #[[.type "reversed",a],[]]=pure ():=by kernel_rfl
theorem KN:entryFor table "reversed.__new__"=some Builtin.«reversed.__new__»:=Hz (by kernel_rfl)
theorem uS:isSubtype (.type "reversed") (.type "reversed")=pure true:=by rw[Fj];kernel_rfl
theorem QT:typeLookup (.type "tuple") "__reversed__"=pure none:=by rw[EV,Et];kernel_rfl
theorem KB:isSubtype (.type "tuple") (.type "dict")=pure false:=by rw[Fj];kernel_rfl
noncomputable def revObj(t:Addr)(n:Int):Obj:={ cls:=.type "reversed",data:=.fields (List.toArray [.ref t,.int (n - 1) 0]) }
section
variable {prog:Program}{w:World}{A:Around}{E:Value->Shared->Prop}{s:Shared}
theorem nW{Q:Value->Shared->Prop}(H:IsTup s.heap t i)(c:(i.size:Int) < 2 ^ 63)
  (h:Q (.ref s.heap.objs.size) { s with heap:=s.heap.push (revObj t i.size),toks:=s.toks+1+1 }):wpAny (model prog w) A (call (.type "reversed") [.ref t]) Q E s:=by
 refine callType_new (S:=λ_ R a=>a=s/\R (.ok (.ret (.ref s.heap.objs.size))) { s with heap:=s.heap.push (revObj t i.size),toks:=s.toks+1+1 }) X4 IL (QS _) (Xt _) (λo=>GK o _) KN
  (.of_wp λp W f R a d=>?_) #[Z,#[_,DP _ Z,Z],h]
 obtain⟨rfl,e⟩:=d
 unfold Builtin.«reversed.__new__» Builtin.SmallTypes.newClass
 refine DG ?_
 dsimp only
 refine DG (DH ?_)
 simp only[Ga,DT,EN]
 refine DG (Hl uS ?_)
 simp only[Ga,DT,EN]
 refine DH ?_
 refine DG (m:=Builtin.SmallTypes.refuseKeywords _ _ _) (DH ?_)
 refine DG (m:=checkCount "reversed" 1 1 _) (DH ?_)
 dsimp only
 refine DG (Fo H.typeIs QT ?_)
 dsimp only
 refine DG ?_
 show wpAny _ _ (isInstance (.ref t) (.type "dict") >>= _) _ _ _
 refine DG (FM (b:=false) H.typeIs KB ?_)
 simp only[DT,EN]
 refine DG (Fo H.typeIs PyProof.Rows.slot_tuple_getitem.lookup ?_)
 dsimp only
 rw[D0 IP]
 refine DH ?_
 simp only[Ga,DT,EN]
 refine DG (len_tuple H c ?_)
 refine DG (m:=asInt? _) (DH ?_)
 dsimp only
 show wpAny _ _ (newObj (.type "reversed") (.fields [Value.ref t,rawInt ((i.size:Int) - 1)].toArray) >>= _) _ _ _
 exact DG (En (DH #[_,Z,e]))
end
theorem zL:Slot "reversed" "__next__" "reversed.__next__":=by
 refine .of (owner:="reversed") (n:="__next__") ?_ IP IP IP ?_ ?_
 ·rw[EV,Et];kernel_rfl
 ·first |exact .inl IP |exact .inr IP
 ·rw[Fj];kernel_rfl
theorem qB:Slot "reversed" "__iter__" "reversed.__iter__":=by
 refine .of (owner:="reversed") (n:="__iter__") ?_ IP IP IP ?_ ?_
 ·rw[EV,Et];kernel_rfl
 ·first |exact .inl IP |exact .inr IP
 ·rw[Fj];kernel_rfl
theorem KC:entryFor table "reversed.__next__"=some Builtin.«reversed.__next__»:=Hz (by kernel_rfl)
theorem KD:entryFor table "reversed.__iter__"=some Builtin.«dict_keyiterator.__iter__»:=by
 refine HV (id':="dict_keyiterator.__iter__") ?_ Z IP ?_<;>kernel_rfl
theorem KO(a:Value):argsOk "reversed.__next__" #[[a],[]]:=by unfold argsOk;kernel_rfl
theorem KP(a:Value):argsOk "reversed.__iter__" #[[a],[]]:=by unfold argsOk;kernel_rfl
def dn(h:Heap)(I t:Addr)(k:Int):Prop:=∃o,h.get? I=some o/\o.cls= .type "reversed"/\o.data= .fields (List.toArray [.ref t,.int k 0])
theorem dn.at{H:Heap}(x:dn h I t k)(e:∀o,h.get? I=some o->H.get? I=some o):dn H I t k:=let #[o,a,r]:=x;#[o,e o a,r]
theorem dn.is{s:Shared}(x:dn s.heap I t k):s.TypeIs (.ref I) "reversed":=let #[o,h,H,_]:=x;#[o,h,H]
section
variable {prog:Program}{w:World}{A:Around}{E:Value->Shared->Prop}{s:Shared}
theorem Q7(H:dn s.heap I t k)
  (h:wpAny (model prog w) A.in1 (Builtin.«reversed.__next__» #[[.ref I],[]]) (λf S=>∃v,f= .done (.ret v)/\Q (some v) S) (λe S=>S.TypeIs e "StopIteration"/\Q none S) s):
  wpAny (model prog w) A (pyNext (.ref I)) Q E s:=by
 unfold pyNext
 refine DG (Gn (Ek (name:=Str.ofString "__next__") H.is zL (Ep zL H.is KC ?_ (KO _))))
 refine EK h (λf S q=>?_) λe S q=>?_
 ·obtain⟨v,e,q⟩:=q
  exact#[v,e,DH q]
 ·exact DG (FM (T:="StopIteration") (b:=true) q.1 HU (DH q.2))
theorem AE{I t:Addr}{k:Nat}{items:Array Value}{x:Value}{Q:Option Value->Shared->Prop}(H:dn s.heap I t k)(c:IsTup s.heap t items)(d:items[k]?=some x)(e:(items.size:Int) < 2 ^ 63)
  (f:∀b,dn b I t ((k:Int) - 1)->Heap.SameBut I s.heap b->Q (some x) { s with heap:=b,toks:=s.toks+1 }):wpAny (model prog w) A (pyNext (.ref I)) Q E s:=by
 refine Q7 H ?_
 obtain⟨o,a,g,h⟩:=H
 have i:k < items.size:=(Array.getElem?_eq_some_iff.mp d).1
 show wpAny _ _ (field (.ref I) 0 >>= _) _ _ s
 refine DG (D7 a h (x:=.ref t) Z (DG (D7 a h (x:=.int k 0) Z ?_)))
 dsimp only
 rw[D1 IM]
 refine DG (Fo c.typeIs PyProof.Rows.slot_tuple_getitem.lookup ?_)
 simp only[Option.isNone_some,DT,EN]
 refine DG (wpAny_mkInt (DG (Gn ?_)))
 refine getItem_tuple (s:={ s with toks:=s.toks+1 }) c IM IM (j:=k) ?_ d ?_
 ·unfold seqIndex?
  simp
  omega
 refine DG (D7 (s:={ s with toks:=s.toks+1 }) a h (x:=.int k 0) Z ?_)
 dsimp only
 refine DG (Ex a h IN (DH #[x,Z,f _ ?_ (Fs ..)]))
 exact#[_,Em _ a (EL (Ei h _)),(GF ..).trans g,by rw[Ei h];simp [rawInt]]
theorem Ze(f:A.handled=none){Q:Option Value->Shared->Prop}(h:dn s.heap I t (-1))
  (g:∀a,(∀b o,b≠I->s.heap.get? b=some o->a.get? b=some o)->Q none { s with heap:=a }):wpAny (model prog w) A (pyNext (.ref I)) Q E s:=by
 refine Q7 h ?_
 obtain⟨o,c,j,H⟩:=h
 show wpAny _ _ (field (.ref I) 0 >>= _) _ _ s
 refine DG (D7 c H (x:=.ref t) Z (DG (D7 c H (x:=.int (-1) 0) Z ?_)))
 dsimp only
 rw[D0 IL]
 refine DG (Fy (DG ?_))
 show wpAny _ _ (setField (.ref I) 1 (rawInt (-1)) >>= λ_=>setField (.ref I) 0 .none) _ _ _
 refine DG (Ex c H IN ?_)
 refine Ex (Em _ c (EL (Ei H _))) (Ei H _) IN ?_
 refine DG ?_
 refine JM (s:={ s with heap:=_ }) (by simpa using f) λa e k T=>#[T,g a λb o d i=>k b o ?_]
 exact(DY _ _ (Eg d)).trans ((DY _ _ (Eg d)).trans i)
theorem vG(H:dn s.heap I t k){Q:Value->Shared->Prop}(h:Q (.ref I) s):wpAny (model prog w) A (pyIter (.ref I)) Q E s:=by
 refine Ir H.is qB (Ep qB H.is KD ?_ (KP _))
 show wpAny _ _ (ret (.ref I)) _ _ s
 exact DH #[_,Z,"reversed",_,H.is,zL.lookup,h]
end
theorem JE:entryFor table "dict.update.loop"=some Builtin.«dict.update.loop»:=Hz (by kernel_rfl)
theorem zG:plainId "dict.update.loop"=true:=by decide+kernel
section
variable {X:Cx}{o lo hi:Expr}{to tl th:TE}{pos p2:Pos}
def Dl(to tl th:TE):TG:=λv d H Q=>to d H λO e=>tl d e λa f=>th d f λc h=>∃l b x y i j,O= .ref l/\v= .ref b/\a= .int i/\c= .int j/\h l=some (.lst x)/\h b=some (.lst y)/\l≠b/\0<=i/\i<=j/\j<=(x.length:Int)/\
 x.length+y.length<=sizeLine/\Q d (af h l (.lst (x.take i.toNat++y++x.drop j.toNat)))
theorem oV(n:PE X o to)(t:PE X lo tl)(w:PE X hi th)
  (A:∀v,assign (.Subscript o (.Slice (some lo) (some hi) none p2) pos) X.env v=(do
   let O <- holding [v] (eval o X.env)
   let c <- holding [v,O] (eval (.Slice (some lo) (some hi) none p2) X.env)
   standAt pos
   holding [v,O,c] (setItem O c v)
   release [c,v,O] []):=by intro _;rfl):PG X (.Subscript o (.Slice (some lo) (some hi) none p2) pos) (Dl to tl th):=by
 intro p s a H v u Q I r h
 rw[A]
 refine DG (D8 (aO (n p s a H _ I h) λO B d=>?_))
 obtain⟨x,C,D,R,E⟩:=d
 refine DG (D8 ?_)
 refine wpAny_Slice (aO (t p B a C _ D E) λV F #[y,G,J,K,L]=>aO (w p F a G _ J L) λm S f=>?_)
 obtain⟨z,M,N,P,l,b,xs,ys,i,j,T,U,W,Y,h1,h2,g,h0,k,hj,hz,q⟩:=f
 subst T U W Y
 cases (show O=Value.ref l from R)
 cases (show u=Value.ref b from r)
 refine DH ?_
 have I4:ao X p a M { S with heap:=S.heap.push { cls:=.type "slice",data:=.fields (List.toArray [V,m,.none]) } }:=N.kept (t':=S.toks) λb o e=>DI _ e
 refine DG (FY (DG (D8 ?_)))
 exact Y2 I4 h1 h2 g (Heap.IsSliceOf.new S.heap V m .none) K P h0 k hj hz λs5 I5=>wpAny_release #[a,_,I5,q]
end
end L2
namespace L2
open PySem PySem.Spec PyProof.Rows Builtin Builtin.Str
section
variable {prog:Program}{w:World}{A:Around}{E:Value->Shared->Prop}{s:Shared}
theorem Jh{lo:Option Int}{Q:Value->Shared->Prop}(H:IsTup s.heap t i)(d:s.heap.IsSliceOf e v j .none)(p:IsPart v lo)(P:IsPart j f)
  (g:HT.sIx i.size 0 lo=0/\HT.sIx i.size i.size f=i.size) (h:Q (.ref t) s):wpAny (model prog w) A (getItem (.ref t) (.ref e)) Q E s:=by
 obtain⟨os,a,b,k⟩:=id d
 have c:s.TypeIs (.ref e) "slice":=#[os,a,b]
 unfold getItem
 try with_reducible refine D8 ?_
 first |refine DG (DH ?_) |skip
 refine DG (Iq H.typeIs IL ?_)
 refine DG (Ek (name:=Str.ofString "__getitem__") H.typeIs FG
  (Ep FG H.typeIs PyProof.Rows.entry_tuple_getitem ?_ (PyProof.Rows.args_tuple_getitem _ _)))
 show wpAny _ _ (Builtin.Tuple.tupleItemsOf (.ref t) >>= _) _ _ s
 refine DG (PyProof.Rows.tupleItemsOf_ H ?_)
 refine DG (Ft c ?_)
 rw[D0 IL]
 refine DG (HT.sliceApplied_gen d p P ?_)
 show wpAny _ _ (if (((HT.sIx i.size 0 lo:Nat):Int)==0&&(1:Int)==1&&(HT.sIx i.size i.size f - HT.sIx i.size 0 lo)==i.size)=true then _ else _) _ _ s
 rw[g.1,g.2,D0 IN]
 unfold Builtin.Tuple.tupleIsExact
 refine DG (DG (Ft H.typeIs (DH ?_)))
 rw[D0 IL]
 first
  |exact Fy (DH #[_,Z,DH h])
  |exact DG (Fy (DH #[_,Z,DH h]))
  |exact DG (DH (DH #[_,Z,DH h]))
end
section
variable {X:Cx}
def vM:R2:=λx y H Q=>∃a b c Y,x= .ref a/\y= .ref b/\H a=some (.tup c)/\H b=some (.tup Y)/\c.length+Y.length<=sizeLine/\∀r h,h r=some (.tup (c++Y))->ae H h->Q (.ref r) h
theorem kh:gc X (binaryOp .Add) vM:=by
 intro P s G H x y v u Q I r R h
 obtain⟨a,b,m,Y,rfl,rfl,d,f,J,q⟩:=h
 have t:=aA.of (K:=X.K) d
 have w:=aA.of (K:=X.K) f
 by_cases z:m=[]
 ·subst z
  cases r
  cases R
  obtain⟨l,L,M,_⟩:=I.tuple t
  obtain⟨i,r2,N,_⟩:=I.tuple w
  have O:l=[]:=L.nil_iff.mpr Z
  subst O
  obtain⟨⟨T,U,A,V⟩,B,C,n,E⟩:=id M
  obtain⟨⟨F,D,data2,S⟩,g,j,W,k⟩:=id N
  simp only at C E j k
  subst C E j k
  exact concat_meets #[_,B,Z] #[_,g,Z] IB seq_tuple_add Hd G8 (GS _ _)
   (tuple_addW0 a b ([]:List Value).toArray i.toArray n W U D V S Z) #[B,g,.ref b,H,I,Z,q b H f (ae.refl H)]
 ·refine tV P s G H _ _ v u Q I r R #[a,b,m,Y,Z,Z,t,w,z,J,λe=>?_,λ_ p np=>?_]
  ·subst e
   exact q a H (by rw[Ge];exact d) (ae.refl H)
  ·exact q p _ jc λc o e=>by rw[jj (ji e np)];exact e
def AZ:V->Option Int->Option Int->Hp->VK->Prop:=λx lo c H Q=>∃a b,x= .ref a/\H a=some (.tup b)/\∀r h,h r=some (.tup (aK b lo c))->ae H h->Q (.ref r) h
theorem zU:By X AZ:=by
 intro P s u H x v V w lo j S Q I R k l m h
 obtain⟨a,b,rfl,d,q⟩:=h
 have n:=aA.of (K:=X.K) d
 by_cases g:HT.sIx b.length 0 lo=0/\HT.sIx b.length b.length j=b.length
 ·cases R
  obtain⟨i,r,t,y⟩:=I.tuple n
  have f:i.toArray.size=b.length:=by rw[DQ];exact r.length.symm
  refine#["tuple",_,PyProof.Rows.slot_tuple_getitem.lookup,t.typeIs,?_]
  refine Jh t k l m (by rw[f];exact g) #[.ref a,H,I,Z,q a H ?_ (ae.refl H)]
  rw[d]
  unfold aK
  rw[g.1,g.2,List.drop_zero,HW,Er]
 ·exact yE P s u H _ v V w lo j S Q I R k l m #[a,b,Z,n,g,λp N=>q p _ jc λc o e=>by rw[jj (ji e N)];exact e]
end
end L2
namespace L2
open PySem PySem.Spec PyProof.Rows
theorem vm{G:Bool->Hp->Prop}(y:G true H)(n:b=false->G b H):G b H:=by
 cases b
 ·exact n Z
 ·exact y
theorem aR{A:Prop}(h:∀G:Prop,(A->G)->G):A:=h A λz=>z
section
variable {t u:TS}{D:a9}{σ:St}{H:Hp}
theorem eL(h:∀E:a9,(∀a b,u D a b->E.nx a b)->t E σ H):fQ t u D σ H:=h { D with nx:=u D } λ_ _ h=>h
theorem ah(h:∀F:St->Hp->Prop,(∀a b,u D a b->F a b)->t { D with nx:=F } σ H):fQ t u D σ H:=h _ λ_ _ h=>h
theorem mv{c:TT}(h:∀F:Bool->Hp->Prop,(∀b a,(if b=true then t D σ a else u D σ a)->F b a)->c σ H F):iS c t u D σ H:=h _ λ_ _ x=>x
theorem wO{c:TT}(h:∀F:Bool->Hp->Prop,(∀a,t D σ a->F true a)->(∀a,u D σ a->F false a)->c σ H F):iS c t u D σ H:=by
 refine h _ (λa x=>?_) λa x=>?_
 ·show if true=true then _ else _
  rw[D0 Z];exact x
 ·show if false=true then _ else _
  rw[D1 IL];exact x
theorem dq(R:St->Hp->Prop)(c:∀E:a9,E.rt=D.rt->(∀a b,R a b->E.nx a b)->t E σ H)(d:∀a b,R a b->D.nx a b):Bo t D σ H:=#[R,c { D with nx:=R } Z λ_ _ h=>h,d]
theorem rP{c:TT}{T:TS}(W:Nat->St->Hp->Prop)(d:Nat)(e:W d σ H)
  (f:∀m σ H,∀E:a9,E.rt=D.rt->(∀M a b,M < m->W M a b->E.nx a b)->∀F:Bool->Hp->Prop,(∀b,T E σ b->F true b)->(∀b,D.nx σ b->F false b)->∀G:Prop,(c σ H F->G)->W m σ H->G):rJ c T D σ H:=by
 refine#[W,#[d,e],λm σ H w=>?_]
 refine f m σ H { D with nx:=λa b=>∃M,M < m/\W M a b,ct:=λa b=>∃M,M < m/\W M a b,bk:=D.nx } Z (λM a b l g=>#[M,l,g]) _ (λb x=>?_) (λb x=>?_) _ (λz=>z) w
 ·show if true=true then _ else _
  rw[D0 Z]
  exact#[_,λ_ _ h=>h,x]
 ·show if false=true then _ else _
  rw[D1 IL];exact x
def ny(J:It)(g:TG)(T:TS)(D:a9)(σ:St)(H:Hp):Prop:=∃W:Nat->Nat->St->Hp->Prop,(∃m,W 0 m σ H)/\∀i m σ H,W i m σ H->
 (J.stop i H/\D.nx σ H)∨(J.go i H/\∃N:St->Hp->Prop,(∀a h,N a h->∃M,M < m/\W (i+1) M a h)/\∀x h,J.yld i H x h->g x σ h λb c=>T { D with nx:=N,ct:=N,bk:=D.nx } b c)
theorem dJ{w:TI}(h:∀F:It->Hp->Prop,(∀J a,ny J g T D σ a->F J a)->w σ H F):yM w g T D σ H:=h _ λ_ _ z=>z
theorem Dx{g:TG}{Q:St->Hp->Prop}(h:∀F:St->Hp->Prop,(∀a b,Q a b->F a b)->g x σ H F):g x σ H Q:=h _ λ_ _ z=>z
theorem zC{lo:Int}{g:TG}{T:TS}{D:a9}{σ:St}{H:Hp}(Pv:Nat->St->Hp->Prop)(d:Pv 0 σ H)
  (e:∀E:a9,E.rt=D.rt->∀i σ H,i < n->(∀a c,Pv (i+1) a c->E.nx a c)->∀G:Prop,((g (.int (lo+i)) σ H λb f=>T E b f)->G)->Pv i σ H->G) (j:∀σ H,Pv n σ H->D.nx σ H):ny (sg lo n) g T D σ H:=
 K7 Pv d (λi σ H k p=>e { D with nx:=Pv (i+1),ct:=Pv (i+1),bk:=D.nx } Z i σ H k (λ_ _ h=>h) _ (λz=>z) p) j
theorem qq{K:Frag}{a:Addr}{xs:List V}{g:TG}{T:TS}{D:a9}{σ:St}{H:Hp}(Pv:Nat->St->Hp->Prop)(e:Pv 0 σ H)(f:∀i σ H,i<=xs.length->Pv i σ H->aC K H a xs)
  (j:∀E:a9,E.rt=D.rt->∀i x σ H,xs[i]?=some x->(∀b d,Pv (i+1) b d->E.nx b d)->∀G:Prop,((g x σ H λc k=>T E c k)->G)->Pv i σ H->G) (l:∀σ H,Pv xs.length σ H->D.nx σ H):ny (vj K a) g T D σ H:=
 oi Pv e f (λi x σ H m p=>j { D with nx:=Pv (i+1),ct:=Pv (i+1),bk:=D.nx } Z i x σ H m (λ_ _ h=>h) _ (λz=>z) p) l
theorem qj{K:Frag}{a:Addr}{xs:List V}{g:TG}{T:TS}{D:a9}{σ:St}{H:Hp}(Pv:Nat->St->Hp->Prop)(e:Pv 0 σ H)(f:∀i σ H,i<=xs.length->Pv i σ H->aA K H a xs)
  (j:∀E:a9,E.rt=D.rt->∀i x σ H,xs[i]?=some x->(∀b d,Pv (i+1) b d->E.nx b d)->∀G:Prop,((g x σ H λc k=>T E c k)->G)->Pv i σ H->G) (l:∀σ H,Pv xs.length σ H->D.nx σ H):ny (sh K a) g T D σ H:=
 sM Pv e f (λi x σ H m p=>j { D with nx:=Pv (i+1),ct:=Pv (i+1),bk:=D.nx } Z i x σ H m (λ_ _ h=>h) _ (λz=>z) p) l
end
end L2
namespace L2
open PySem PySem.Spec PyProof.Rows PySem.SeqAt
inductive Tr where
 |lf (v:V) |tp (l:Tr) |nil |cons (h t:Tr)
noncomputable def Tr.isL:Tr->Bool
 | .nil=>true
 | .cons _ _=>true
 |_=>false
noncomputable def Dq:V->Bool
 | .byt _=>false
 | .flt _=>false
 |_=>true
end L2
namespace L2
open PySem PySem.Spec PyProof.Rows
noncomputable def BR(K:Frag)(a:Addr)(n:Nat):It:=
 #[λi H=>∃X x,aA K H a X/\X.length=n/\X.reverse[i]?=some x,λi H x h=>h=H/\∀X,aA K H a X->X.reverse[i]?=some x,λi H=>∃X,aA K H a X/\X.length=n/\i=n]
theorem rK{P:Program}{K:Frag}(a f:Addr)(n:Nat):lK P w K tg (BR K a n) [f] f (λi h=>dn h f a ((n:Int) - 1 - i)) where
 mem:=by simp
 obj:=λi h st b j=>by
  have e:b=f:=by simpa using j
  subst e
  obtain⟨o,e,c,d⟩:=st
  exact#[o,e,λv z=>by rw[d]at z;cases z]
 keep:=λi h q st k=>st.at λo e=>k f IN o e
 item:=by
  intro X y A B O i g s Q H E I t st C
  subst y A B
  obtain⟨l,x,D,T,m⟩:=C
  obtain⟨r,R,p,hz⟩:=I.tuple D
  have hl:=R.length
  have U:=dP
  have V:i < l.length:=by
   rcases Hg i l.length with z |z
   ·exact z
   ·rw[Fb (by simpa using z)]at m;cases m
  have F:l[l.length - 1 - i]?=some x:=by rw[Gx V]at m;exact m
  obtain⟨u,W,Y⟩:=R.get F
  obtain⟨G,J,f2,L,M,N⟩:=t f IN
  have e:((n:Int) - 1 - i)=((l.length - 1 - i:Nat):Int):=by omega
  rw[e]at st
  refine AE (items:=r.toArray) st (show IsTup s.heap a r.toArray from p) (x:=u) (by simpa using W) (by simp only[DQ];omega) λq S sb=>?_
  have I1:ao X g Q H { s with heap:=q,toks:=s.toks+1 }:=I.turned (t':=s.toks+1) (λb o j e=>(sb.2 b j).trans e) G J L M N
  obtain⟨o,e',c,d⟩:=id S
  refine#[u,Z,Yl (s:={ s with heap:=q,toks:=s.toks+1 }) e' c d IL #[x,H,I1,Y,#[Z,λys hy=>by rw[I.tuple_inj hy D];exact m],?_,λb j=>(t b j).1]]
  have e2:((n:Int) - 1 - ((i+1:Nat):Int))=((l.length - 1 - i:Nat):Int) - 1:=by omega
  show dn q f a ((n:Int) - 1 - ((i+1:Nat):Int))
  rw[e2];exact S
 done:=by
  intro X y A B O i g s Q H E I t st C
  subst y A B
  obtain⟨l,D,T,m⟩:=C
  obtain⟨G,J,f2,L,M,N⟩:=t f IN
  have e:((n:Int) - 1 - (i:Int))= -1:=by omega
  rw[e]at st
  exact Ze (I.ok.hd O) st λq eb=>#[Z,I.turned (t':=s.toks) (λb o j e=>eb b o j e) G J L M N]
 self:=λ_ _ _ _ _ st h=>vG st h
section
variable {X:Cx}{tg:Expr}
def Ck(K:Frag)(t:TE):TI:=λc H R=>t c H λx h=>∃a b,x= .ref a/\aA K h a b/\R (BR K a b.length) h
theorem ZT{e:Expr}{t:TE}{c:Str}{p P:Pos}(j:Gl X c)(k:X.mg c=none)(l:bootBuiltins c=some (.type "reversed"))(y:PE X e t)(m:c≠"__name__":=by decide)(n:(c==("__debug__":Str))=false:=by decide)
  (r:starEach [e] X.env=(false,eval e X.env)::starEach [] X.env:=by rfl) (A:(backTo P (starEach [] X.env)).any (·.1)=false:=by rfl):PI X tg (.Call (.Name c p) [e] [] P) (Ck X.K t):=by
 intro d s B H R I h
 refine EF (zH I j k l ?_ m n)
 refine Ew ?_ r A
 rw[r]
 show wpAny _ _ (spliced ((false,eval e X.env)::backTo P (starEach [] X.env))) _ _ s
 refine Fg (aO (y d s B H _ I h) λu S z=>?_)
 obtain⟨x,C,g,D,a,v,E,F,q⟩:=z
 subst E
 cases (show u=Value.ref a from D)
 obtain⟨i,G,J,N⟩:=g.tuple F
 have f:=G.length
 have L:=dP
 refine FK (nW (show IsTup S.heap a i.toArray from J) (by simp only[DQ];omega) ?_)
 have w:dn (S.heap.push (revObj a i.toArray.size)) S.heap.objs.size a ((v.length:Int) - 1 - ((0:Nat):Int)):=#[_,DP _ Z,Z,by rw[DQ,<- f];simp [revObj]]
 refine vG (s:={ S with heap:=S.heap.push (revObj a i.toArray.size),toks:=S.toks+1+1 }) w ?_
 refine#[S.heap.objs.size,[S.heap.objs.size],_,_,C,Z,g.kept (t':=S.toks+1+1) λb o e=>DI _ e,rK a _ v.length,w,λb M=>?_,q]
 have e:b=S.heap.objs.size:=by simpa using M
 subst e
 exact g.fpOk (DN _) (g.hok.fresh (DN _))
end
theorem Q8{K:Frag}{xs:List V}{g:TG}{t:TS}{D:a9}(Pv:Nat->St->Hp->Prop)(k:Pv 0 b H)(l:∀i b H,i<=xs.length->Pv i b H->aA K H a xs)
  (n:∀E:a9,E.rt=D.rt->∀i x b H,xs.reverse[i]?=some x->(∀c f,Pv (i+1) c f->E.nx c f)->∀G:Prop,((g x b H λj o=>t E j o)->G)->Pv i b H->G) (r:∀b H,Pv xs.length b H->D.nx b H):ny (BR K a xs.length) g t D b H:=by
 refine#[λi m b H=>m=xs.length - i/\i<=xs.length/\Pv i b H,#[xs.length,IN,DX _,k],?_]
 rintro i m b H ⟨rfl,s,p⟩
 have q:=l i b H s p
 by_cases d:i < xs.length
 ·refine .inr #[#[xs,_,q,Z,DJ (by simpa using d)],Pv (i+1),λc f P=>#[xs.length - (i+1),IM,Z,d,P],λx f y=>?_]
  obtain⟨e,y⟩:=y
  subst e
  exact n { D with nx:=Pv (i+1),ct:=Pv (i+1),bk:=D.nx } Z i x b _ (y xs q) (λ_ _ h=>h) _ (λz=>z) p
 ·have e:i=xs.length:=by omega
  subst e
  exact .inl #[#[xs,q,Z,Z],r b H p]
theorem re:Slot "list_reverseiterator" "__length_hint__" "list_reverseiterator.__length_hint__":=by
 refine Slot.of (owner:="list_reverseiterator") (n:="__length_hint__") (by rw[EV,Et];kernel_rfl) IP IP IP ?_ (by rw[Fj];kernel_rfl)
 first |exact .inl IP |exact .inr IP
theorem Zf:typeLookup (.type "list_reverseiterator") "__len__"=pure none:=by rw[EV,Et];kernel_rfl
theorem yH:isSubtype (.type "list_reverseiterator") (.type "list_reverseiterator")=pure true:=by rw[Fj];kernel_rfl
section
variable {prog:Program}{w:World}{A:Around}{E:Value->Shared->Prop}{s:Shared}
theorem wM(H:s.heap.IsRevIter I t k){Q:Bool->Shared->Prop}(h:Q false s):wpAny (model prog w) A (Builtin.List.listLengthHint (.ref I)) Q E s:=by
 unfold Builtin.List.listLengthHint
 refine DG (Fo H.typeIs Zf ?_)
 show wpAny _ A (specialOf (Value.ref I) (Str.ofString "__length_hint__") >>= _) _ _ _
 refine DG (Fo H.typeIs re.lookup ?_)
 have e:splitId "list_reverseiterator.__length_hint__"=some ("list_reverseiterator","__length_hint__"):=by decide+kernel
 dsimp only
 rw[e]
 dsimp only
 refine DG (FM (b:=true) H.typeIs yH ?_)
 simp only[Ga,DT,EN]
 rw[D0 IP,D1 IP]
 exact DH h
theorem nE{a:Array Value}{Q:List Value->Shared->Prop}(z:A.handled=none)(f:s.heap.IsRevIter I t ((a.size:Int) - 1))(r:s.heap.IsList t a)(B:t≠I)(C:a.size<=sizeLine)
  (D:∀S,(∀b o,b≠I->s.heap.get? b=some o->S.heap.get? b=some o)->s.heap.objs.size<=S.heap.objs.size->S.gens=s.gens->S.os=s.os->Q a.toList.reverse S):wpAny (model prog w) A (collect (.ref I)) Q E s:=by
 have j:I < s.heap.objs.size:=by obtain⟨o,k,_⟩:=f;exact DO k
 have n:t < s.heap.objs.size:=by obtain⟨o,k,_⟩:=r;exact DO k
 have u:I≠s.heap.objs.size:=DS j
 have F:t≠s.heap.objs.size:=DS n
 unfold collect
 refine DG (wpAny_runValue (EW Io (by
  rw[EE Im _]
  show wpAny _ A.in1 (newList [] >>= λl=>again (.builtin "list.__iadd__" #[[l,.ref I],[]])) _ _ s
  refine DG (En (DH #[FL Gi _,EW IG ?_]))
  rw[EE Gi _]
  generalize v:s.heap.push { cls:=.type "list",data:=.seq ([]:List Value).toArray }=H
  have J:H.get? s.heap.objs.size=some { cls:=.type "list",data:=.seq (List.toArray []) }:=by rw[<- v];exact DP _ Z
  have G:∀b o,s.heap.get? b=some o->H.get? b=some o:=λb o e=>by rw[<- v];exact DI _ e
  have h:H.IsRevIter I t ((a.size:Int) - 1):=f.at λo e=>G I o e
  have p:H.IsList t a:=r.at λo e=>G t o e
  show wpAny _ A.in1 (Builtin.List.listExtendWith (.ref s.heap.objs.size) (.ref I) (.ref s.heap.objs.size)) _ _ { s with heap:=H }
  unfold Builtin.List.listExtendWith
  refine DG (Ft (s:={ s with heap:=H }) h.typeIs ?_)
  have K:Builtin.List.listSameRef (.ref s.heap.objs.size) (.ref I)=false:=by
   simp only[Builtin.List.listSameRef,beq_eq_false_iff_ne]
   exact Eg u
  have L:(Value.type "list_reverseiterator"==Value.type "list")=false:=by decide
  have M:(Value.type "list_reverseiterator"==Value.type "tuple")=false:=by decide
  simp only[K,L,M,ID,DT,EN]
  refine DG (wpAny_pyIter_revIter (s:={ s with heap:=H }) h (DG (D8 (wM (s:={ s with heap:=H }) h ?_))))
  have N:¬s.heap.objs.size∈[I,t]:=by simp only[Fn,Eb,Gz,not_or];exact#[Eg u,Eg F]
  rw[D1 IP]
  refine DH #[FL Ix _,?_]
  have W:=(Walks.listRev (prog:=prog) (w:=w) (A:=A.in1) (by simpa using z) I t B a).toS
  refine codeAny_extend_loopS W C _ N _ a.size 0 _ (List.toArray []) _ Z (DX _) #[DX _,by simpa using h,p] J (ItemsOf.nil _) λS d U m x c=>?_
  have O:d=a.toList.reverse.toArray:=by
   apply Array.ext'
   refine List.ext_getElem? λi=>?_
   by_cases y:i < a.size
   ·have g:i < d.size:=by rw[c.1];exact y
    have q:=c.2 i d[i] (by simp [g])
    rw[Fc,Fv g,<- q]
    show a[a.size - 1 - i]?=a.toList.reverse[i]?
    rw[Gx (by simpa using y)]
    simp
   ·rw[Fb (by rw[D6,c.1];omega),Fb (by simp;omega)]
  subst O
  show wpAny _ A (load s.heap.objs.size >>= _) _ _ S
  refine DG (wpAny_load x (DH ?_))
  have P:a.toList.reverse.toArray.toList=a.toList.reverse:=by simp
  rw[P]
  refine D S (λb o R e=>?_) ?_ m.gens m.os
  ·have T:b≠s.heap.objs.size:=DS (DO e)
   exact m.heap b o (by simp only[Fn,Eb,Gz,not_or];exact#[T,R]) (G b o e)
  ·exact F8 (DO x))))
end
section
variable {prog:Program}{w:World}{A:Around}{E:Value->Shared->Prop}{s:Shared}
theorem QU{i:Array Value}{Q:Value->Shared->Prop}(f:A.handled=none)(H:s.heap.IsRevIter I t ((i.size:Int) - 1))(g:s.heap.IsList t i)(j:t≠I)(d:i.size<=sizeLine)
  (h:∀S:Shared,(∀b o,b≠I->s.heap.get? b=some o->S.heap.get? b=some o)->s.heap.objs.size<=S.heap.objs.size->S.gens=s.gens->S.os=s.os->
   Q (.ref S.heap.objs.size) { S with heap:=S.heap.push { cls:=.type "tuple",data:=.seq i.toList.reverse.toArray } }):
  codeAny (model prog w) A (.call (.builtin "tuple.__new__") #[[.type "tuple",.ref I],[]]) (wants Q E) s:=by
 refine codeAny_of_tree (show wpAny _ A.in1 (do checkBuiltinCall "tuple.__new__" #[[.type "tuple",.ref I],[]];again (.builtin "tuple.__new__" #[[.type "tuple",.ref I],[]])) _ _ s from ?_)
 refine DG (Hl (PySem.F.newCall_tuple_1 _) (DH #[FL IE _,EW PySem.F.entry_tuple_new (by
  rw[EE IE _]
  have e:=sub_tuple_self
  have a:=init_tuple_lookup
  have l:=madeHere_tuple
  have c:=H.typeIs
  wp_walk using Ft c,nE (by simpa using f) H g j d
  intro S k z m n
  show wpAny _ _ (Builtin.Tuple.tupleExact i.toList.reverse.toArray >>= λv=>ret v) _ _ _
  unfold Builtin.Tuple.tupleExact
  exact DG (En (DH (h S k z m n)) (by show i.toList.reverse.toArray.size<=sizeLine;simpa using d)))]))
theorem QV{items:Array Value}{Q:Value->Shared->Prop}(d:A.handled=none)(c:s.heap.IsRevIter I t ((items.size:Int) - 1))(e:s.heap.IsList t items)(f:t≠I)(g:items.size<=sizeLine)
  (h:∀a:Shared,(∀b o,b≠I->s.heap.get? b=some o->a.heap.get? b=some o)->s.heap.objs.size<=a.heap.objs.size->a.gens=s.gens->a.os=s.os->
   Q (.ref a.heap.objs.size) { a with heap:=a.heap.push { cls:=.type "tuple",data:=.seq items.toList.reverse.toArray } }):wpAny (model prog w) A (call (.type "tuple") [.ref I]) Q E s:=by
 refine callType_codes (Q₁:=λO S=>S.TypeIs O "tuple"/\Q O S) PySem.F.called_tuple (PySem.F.typeCall_tuple_1 _) PySem.F.entry_object_init (QU (by simpa using d) c e f g λa k z i j=>#[#[_,DP _ Z,Z],h a k z i j]) λO S H=>?_
 exact#[H.1,GK O _,object_init_meets PySem.F.called_tuple.init.lookup PySem.F.called_tuple.made IL prog w A.in1 _ S #[H.1,Z,H.2]]
end
section
variable {X:Cx}{e:Expr}{te:TE}{xl xr:Str}{p p2 pos pos2:Pos}
def uV(K:Frag)(te:TE):TE:=λc H Q=>te c H λx h=>∃a b,x= .ref a/\aC K h a b/\∀l,h l=none->Q (.ref l) (af h l (.tup b.reverse))
theorem Zg(M:X.calm=true)(g:Gl X xl)(j:X.mg xl=none)(l:bootBuiltins xl=some (.type "tuple"))(m:Gl X xr)(n:X.mg xr=none)(r:bootBuiltins xr=some (.type "reversed"))(O:PE X e te)
  (t:xl≠"__name__":=by decide) (v:(xl==("__debug__":Str))=false:=by decide) (y:xr≠"__name__":=by decide) (A:(xr==("__debug__":Str))=false:=by decide)
  (E:starEach [.Call (.Name xr p2) [e] [] pos2] X.env=(false,eval (.Call (.Name xr p2) [e] [] pos2) X.env)::starEach [] X.env:=by rfl) (T:(backTo pos (starEach [] X.env)).any (·.1)=false:=by rfl)
  (F:starEach [e] X.env=(false,eval e X.env)::starEach [] X.env:=by rfl) (U:(backTo pos2 (starEach [] X.env)).any (·.1)=false:=by rfl):
  PE X (.Call (.Name xl p) [.Call (.Name xr p2) [e] [] pos2] [] pos) (uV X.K te):=by
 intro P s V H Q I h
 refine EF (zH I g j l ?_ t v)
 refine Ew ?_ E T
 rw[E]
 show wpAny _ _ (spliced ((false,eval (.Call (.Name xr p2) [e] [] pos2) X.env)::backTo pos (starEach [] X.env))) _ _ s
 refine Fg ?_
 refine EF (zH I m n r ?_ y A)
 refine Ew ?_ F U
 rw[F]
 show wpAny _ _ (spliced ((false,eval e X.env)::backTo pos2 (starEach [] X.env))) _ _ s
 refine Fg (aO (O P s V H _ I h) λu d B=>?_)
 obtain⟨x,W,f,Y,a,G,ex,hq,q⟩:=B
 subst ex
 cases (show u=Value.ref a from Y)
 obtain⟨i,R,C,hz⟩:=f.list hq
 have J:=R.length
 refine FK (call_reversed_list C.isList (FK ?_))
 have D:a < d.heap.objs.size:=by obtain⟨o,ho,_⟩:=C.isList;exact DO ho
 refine QV (s:={ d with heap:=d.heap.push (PySem.revObj a ((i.toArray.size:Int) - 1)) }) (items:=i.toArray) (I.ok.hd M) #[_,DP _ Z,Z,Z] (C.isList.at λo e=>DI _ e) (DS D)
  (by simp only[DQ];omega) λS k hl kg ko=>?_
 have c:d.heap.objs.size<=S.heap.objs.size:=DV (by show _<=(d.heap.push _).objs.size;rw[Ey];exact Ff _) hl
 have L:∀b o,d.heap.get? b=some o->(S.heap.push { cls:=.type "tuple",data:=.seq i.toArray.toList.reverse.toArray }).get? b=some o:=λb o e=>DI _ (k b o (DS (DO e)) (DI _ e))
 have hg:(S.heap.push { cls:=.type "tuple",data:=.seq i.toArray.toList.reverse.toArray }).get? S.heap.objs.size=some { cls:=.type "tuple",data:=.seq i.toArray.toList.reverse.toArray }:=DP _ Z
 have N:aG X.prog X.w (af W S.heap.objs.size (.tup G.reverse)) (S.heap.push { cls:=.type "tuple",data:=.seq i.toArray.toList.reverse.toArray }) S.heap.objs.size (.tup G.reverse):=by
  refine#[by rw[List.length_reverse];exact hz,i.reverse,au.reverse R,?_]
  have ee:i.toArray.toList.reverse.toArray=i.reverse.toArray:=by simp
  rw[<- ee]
  exact#[_,hg,Z,_,Z]
 exact#[.ref S.heap.objs.size,_,f.call' (ch:=[]) ko (Un.laid L c (f.hok.fresh c)) (f.hok.laid L c N) (by show AllBare S.gens;rw[kg];exact f.bare) (λ_ z=>nomatch z),Z,q _ (f.hok.fresh c)]
end
section
variable {prog:Program}{w:World}{A:Around}{E:Value->Shared->Prop}{s:Shared}
theorem Ku{x:Value}{Q:Value->Shared->Prop}(a:s.heap.IsTupleIter J T i)(e:s.heap.IsTuple T I)(f:I[i]?=some x)
  (q:∀b,b.IsTupleIter J T (i+1)->Heap.SameBut J s.heap b->Q x { s with heap:=b }):wpAny (model prog w) A (Builtin.SmallTypes.nextOf (.ref J)) Q E s:=by
 obtain⟨o,H,g,h⟩:=id a
 obtain⟨O,c,_,n,d⟩:=e
 unfold Builtin.SmallTypes.nextOf
 refine DG (Ek (name:=Str.ofString "__next__") a.typeIs EJ (Ep EJ a.typeIs Gm (show wpAny _ _ (field (.ref J) 0 >>= _) _ _ s from ?_) (Gh _)))
 refine DG (D7 H h (x:=.ref T) Z (show wpAny _ _ (if (Value.ref T==Value.none)=true then _ else _) _ _ s from ?_))
 rw[D1 (show ¬((Value.ref T==Value.none)=true) from DR)]
 refine(show wpAny _ _ (field (.ref J) 1 >>= _) _ _ s from DG (D7 H h (x:=.int i 0) Z (show wpAny _ _ (seqItems? (.ref T) >>= _) _ _ s from DG (EB c d ?_))))
 simp only[EA,f]
 refine DG (Ex H h IN (DH #[x,Z,DH (q _ #[_,Em _ H (EL (Ei h _)),(GF ..).trans g,by rw[Ei h];simp [rawInt]] (Fs ..))]))
theorem Zh(g:A.handled=none)(H:s.heap.IsTupleIter J T i)(j:s.heap.IsTuple T I)(l:I[i]?=none)
  (q:∀h e,Heap.ExtBut J s.heap h->Shared.TypeIs { s with heap:=h } e "StopIteration"->E e { s with heap:=h }):wpAny (model prog w) A (Builtin.SmallTypes.nextOf (.ref J)) Q E s:=by
 obtain⟨o,a,p,c⟩:=id H
 obtain⟨O,d,_,N,f⟩:=j
 unfold Builtin.SmallTypes.nextOf
 refine DG (Ek (name:=Str.ofString "__next__") H.typeIs EJ (Ep EJ H.typeIs Gm (show wpAny _ _ (field (.ref J) 0 >>= _) _ _ s from ?_) (Gh _)))
 refine DG (D7 a c (x:=.ref T) Z (show wpAny _ _ (if (Value.ref T==Value.none)=true then _ else _) _ _ s from ?_))
 rw[D1 (show ¬((Value.ref T==Value.none)=true) from DR)]
 refine(show wpAny _ _ (field (.ref J) 1 >>= _) _ _ s from DG (D7 a c (x:=.int i 0) Z (show wpAny _ _ (seqItems? (.ref T) >>= _) _ _ s from DG (EB d f ?_))))
 simp only[EA,l]
 refine DG (Fy (DG (Ex a c IN ?_)))
 refine JM (by simpa using g) λh e k t=>q h e (λb o m n=>k b o ?_) t
 exact(DY _ _ (Eg m)).trans n
end
def gf(b:Bool)(h:Heap)(i l:Addr)(k:Nat):Prop:=match b with
 |true=>h.IsListIter i l k
 |false=>h.IsTupleIter i l k
def hG(b:Bool)(h:Heap)(l:Addr)(x:Array Value):Prop:=match b with
 |true=>h.IsList l x
 |false=>h.IsTuple l x
noncomputable def eV:Bool->String
 |true=>"list_iterator"
 |false=>"tuple_iterator"
theorem gf.kp{b:Bool}{H:Heap}(x:gf b h i l k)(e:∀o,h.get? i=some o->H.get? i=some o):gf b H i l k:=by
 cases b
 ·exact Heap.IsTupleIter.at x e
 ·obtain⟨o,a,r⟩:=x;exact#[o,e o a,r]
theorem hG.kp{b:Bool}{H:Heap}(x:hG b h l a)(e:∀o,h.get? l=some o->H.get? l=some o):hG b H l a:=by
 cases b
 ·obtain⟨o,c,r⟩:=x;exact#[o,e o c,r]
 ·exact Heap.IsList.at x e
theorem gf.ob(x:gf b h i l k):∃o,h.get? i=some o/\o.cls= .type (eV b)/\∀v,o.data≠ .cell v:=by
 cases b
 ·obtain⟨o,H,c,d⟩:=x;exact#[o,H,c,λv z=>by rw[d]at z;cases z]
 ·obtain⟨o,H,c,d⟩:=x;exact#[o,H,c,λv z=>by rw[d]at z;cases z]
section
variable {prog:Program}{w:World}{A:Around}{E:Value->Shared->Prop}{s:Shared}
theorem zY{Q:Value->Shared->Prop}(H:gf b s.heap J T i)(a:hG b s.heap T I)(c:I[i]?=some x)
  (q:∀h,gf b h J T (i+1)->Heap.SameBut J s.heap h->Q x { s with heap:=h }):wpAny (model prog w) A (Builtin.SmallTypes.nextOf (.ref J)) Q E s:=by
 cases b
 ·exact Ku H a c q
 ·exact wpAny_nextOf_list_item H a c q
theorem Qn(H:A.handled=none)(a:gf b s.heap J T i)(c:hG b s.heap T I)(d:I[i]?=none)
  (q:∀h e,Heap.ExtBut J s.heap h->Shared.TypeIs { s with heap:=h } e "StopIteration"->E e { s with heap:=h }):wpAny (model prog w) A (Builtin.SmallTypes.nextOf (.ref J)) Q E s:=by
 cases b
 ·exact Zh H a c d q
 ·exact wpAny_nextOf_list_end H a c d λh e k #[o,f,g]=>q h (.ref e) k #[o,f,g]
theorem vH{Q:Value->Shared->Prop}(h:hG b s.heap T i)
  (q:Q (.ref s.heap.objs.size) { s with heap:=s.heap.push { cls:=.type (eV b),data:=.fields (List.toArray [.ref T,.int 0 0]) } }):wpAny (model prog w) A (pyIter (.ref T)) Q E s:=by
 cases b
 ·exact Gv h q
 ·exact Hk h q
structure sr(z u v c d a b:Addr):Prop where
 uz:u≠z
 vz:v≠z
 cz:c≠z
 dz:d≠z
 uv:u≠v
 uc:u≠c
 ud:u≠d
 vc:v≠c
 vd:v≠d
 cd:c≠d
 az:a≠z
 av:a≠v
 ac:a≠c
 ad:a≠d
 bz:b≠z
 bv:b≠v
 bc:b≠c
 bd:b≠d
theorem u6{Q:Option Value->Shared->Prop}(D:sr z u v c d a b)
  (H:IsZip s.heap z u v .none) (hu:IsPair s.heap u (.ref c) (.ref d)) (hv:IsPair s.heap v p q) (h1:gf B s.heap c a k) (h2:gf C s.heap d b k) (g1:hG B s.heap a xs) (g2:hG C s.heap b ys) (hx:xs[k]?=some x) (hy:ys[k]?=some y)
  (hQ:∀h,IsZip h z u v (rawInt s.heap.objs.size)->IsPair h v x y->gf B h c a (k+1)->gf C h d b (k+1)->IsPair h s.heap.objs.size x y->h.objs.size=s.heap.objs.size+1->
   (∀e o,e≠z->e≠v->e≠c->e≠d->s.heap.get? e=some o->h.get? e=some o)->Q (some (.ref s.heap.objs.size)) { s with heap:=h }):wpAny (model prog w) A (pyNext (.ref z)) Q E s:=by
 have W:s.TypeIs (.ref z) "zip":=#[_,H,Z]
 unfold pyNext
 refine DG (Gn (Ek (name:=Str.ofString "__next__") W ER (Ep ER W Gp (show wpAny _ _ (field (.ref z) 2 >>= _) _ _ _ from ?_) (Gj _))))
 refine DG (D7 H Z (x:=.bool false) Z (show wpAny _ _ (field (.ref z) 3 >>= _) _ _ _ from DG (D7 H Z (x:=.ref u) Z (DG (EB hu Z ?_)))))
 refine(show wpAny _ _ (Builtin.SmallTypes.ownedTupleIsFree (.ref z) >>= _) _ _ _ from DG ?_)
 unfold Builtin.SmallTypes.ownedTupleIsFree
 refine DG (D7 H Z (x:=.none) Z (DH ?_))
 simp only[Go]
 refine DG (Fy (DG (D7 H Z (x:=.ref v) Z (DG (FR H IN λX F S=>?_)))))
 replace F:IsZip X z u v .ellipsis:=F
 refine DG ?_
 simp only[List.zipIdx_cons,List.zipIdx_nil,Fh,FX]
 refine DG (DG (wpAny_onRaise (show wpAny _ _ (Builtin.SmallTypes.nextOf (.ref c) >>= _) _ _ _ from ?_)))
 refine DG (zY (s:={ s with heap:=X }) (h1.kp λo e=>S.extBut _ _ D.cz e) (g1.kp λo e=>S.extBut _ _ D.az e) hx λG i2 l=>DH ?_)
 have Y:IsPair G v p q:=l.extBut _ _ D.vc (S.extBut _ _ D.vz hv)
 refine DG (EB (s:={ s with heap:=G }) Y Z (DG (wpAny_updateSeq_pair (s:={ s with heap:=G }) Y λI J r=>?_)))
 replace J:IsPair I v x q:=J
 refine DG (wpAny_letGo (DH (DG (DG (wpAny_onRaise (show wpAny _ _ (Builtin.SmallTypes.nextOf (.ref d) >>= _) _ _ _ from ?_))))))
 have K:∀e o,e≠z->e≠c->e≠v->s.heap.get? e=some o->I.get? e=some o:=λe o N f g w=>r.extBut _ _ g (l.extBut _ _ f (S.extBut _ _ N w))
 refine DG (zY (s:={ s with heap:=I }) (h2.kp λo e=>K _ _ D.dz D.cd.symm D.vd.symm e) (g2.kp λo e=>K _ _ D.bz D.bc D.bv e) hy λL i4 i=>DH ?_)
 have v4:IsPair L v x q:=i.extBut _ _ D.vd J
 refine DG (EB (s:={ s with heap:=L }) v4 Z (DG (wpAny_updateSeq_pair (s:={ s with heap:=L }) v4 λm V j=>?_)))
 replace V:IsPair m v x y:=V
 refine DG (wpAny_letGo (DH (DH (DG (EB (s:={ s with heap:=m }) V Z (DG (wpAny_newTuple ?_)))))))
 have e5:m.objs.size=s.heap.objs.size:=by rw[j.1,i.1,r.1,l.1,S.1]
 have k5:∀e o,e≠z->e≠v->e≠c->e≠d->s.heap.get? e=some o->m.get? e=some o:=λe o N f g O w=>j.extBut _ _ f (i.extBut _ _ O (K e o N g f w))
 have z5:IsZip m z u v .ellipsis:=j.extBut _ _ D.vz.symm (i.extBut _ _ D.dz.symm (r.extBut _ _ D.vz.symm (l.extBut _ _ D.cz.symm F)))
 have j1:gf B m c a (k+1):=i2.kp λo e=>j.extBut _ _ D.vc.symm (i.extBut _ _ D.cd (r.extBut _ _ D.vc.symm e))
 have j2:gf C m d b (k+1):=i4.kp λo e=>j.extBut _ _ D.vd.symm e
 have lz:z < m.objs.size:=DO z5
 refine(show wpAny _ _ (Builtin.SmallTypes.ownedTupleHandOut (.ref z) (.ref m.objs.size) >>= _) _ _ _ from DG ?_)
 unfold Builtin.SmallTypes.ownedTupleHandOut
 have z6:IsZip (m.push { cls:=.type "tuple",data:=.seq (List.toArray [x,y]) }) z u v .ellipsis:=DI _ z5
 refine DG (FR z6 IN λm7 P R=>?_)
 replace P:IsZip m7 z u v (rawInt m.objs.size):=P
 refine FR P IN λM t T=>?_
 replace t:IsZip M z u v (rawInt m.objs.size):=t
 have U:∀e o,e≠z->m.get? e=some o->M.get? e=some o:=λe o n w=>T.extBut _ _ n (R.extBut _ _ n (DI _ w))
 have t8:IsPair M m.objs.size x y:=T.extBut _ _ (Ez lz) (R.extBut _ _ (Ez lz) (DP _ Z))
 have e8:M.objs.size=m.objs.size+1:=by rw[T.1,R.1,Ey]
 rw[e5]at t t8 e8
 refine DH #[_,Z,DH ?_]
 show Q (some (.ref m.objs.size)) _
 rw[e5]
 exact hQ M t (U _ _ D.vz V) (j1.kp λo e=>U _ o D.cz e) (j2.kp λo e=>U _ o D.dz e) t8 e8 λe o N f g O w=>U e o N (k5 e o N f g O w)
theorem yT{b2:Bool}{ys:Array Value}{p q:Value}{Q:Option Value->Shared->Prop}(C:A.handled=none)(D:sr z u v c d a b)
  (h:IsZip s.heap z u v .none) (F:IsPair s.heap u (.ref c) (.ref d)) (G:gf I s.heap c a k) (J:hG I s.heap a L) (K:L[k]?=none)
  (O:∀H,(∀e o,e≠z->e≠v->e≠c->e≠d->s.heap.get? e=some o->H.get? e=some o)->Q none { s with heap:=H }):wpAny (model prog w) A (pyNext (.ref z)) Q E s:=by
 have g:s.TypeIs (.ref z) "zip":=#[_,h,Z]
 unfold pyNext
 refine DG (Gn (Ek (name:=Str.ofString "__next__") g ER (Ep ER g Gp (show wpAny _ _ (field (.ref z) 2 >>= _) _ _ _ from ?_) (Gj _))))
 refine DG (D7 h Z (x:=.bool false) Z (show wpAny _ _ (field (.ref z) 3 >>= _) _ _ _ from DG (D7 h Z (x:=.ref u) Z (DG (EB F Z ?_)))))
 refine(show wpAny _ _ (Builtin.SmallTypes.ownedTupleIsFree (.ref z) >>= _) _ _ _ from DG ?_)
 unfold Builtin.SmallTypes.ownedTupleIsFree
 refine DG (D7 h Z (x:=.none) Z (DH ?_))
 simp only[Go]
 refine DG (Fy (DG (D7 h Z (x:=.ref v) Z (DG (FR h IN λm f S=>?_)))))
 replace f:IsZip m z u v .ellipsis:=f
 refine DG ?_
 simp only[List.zipIdx_cons,List.zipIdx_nil,Fh,FX]
 refine DG (DG (wpAny_onRaise (show wpAny _ _ (Builtin.SmallTypes.nextOf (.ref c) >>= _) _ _ _ from ?_)))
 refine DG (Qn (s:={ s with heap:=m }) (by simpa using C) (G.kp λo e=>S.extBut _ _ D.cz e) (J.kp λo e=>S.extBut _ _ D.az e) K λM e i j=>?_)
 have l:IsZip M z u v .ellipsis:=i _ _ D.cz.symm f
 refine FR (s:={ s with heap:=M }) l IN λn U r=>?_
 have t:Shared.TypeIs { s with heap:=n } e "StopIteration":=by
  cases e with
  |ref x=>
   obtain⟨o,y,B⟩:=j
   have P:x≠z:=λw=>by
    subst w
    have:=y.symm.trans l
    cases this
    injection B with w
    exact absurd w IL
   exact#[o,r.extBut _ _ P y,B]
  |_=>exact j
 exact DG (FM (T:="StopIteration") (b:=true) t HU (DH (O n λe o N V R W w=>r.extBut _ _ N (i _ _ R (S.extBut _ _ N w)))))
theorem yU{b1 b2:Bool}{xs ys:Array Value}{Q:Value->Shared->Prop}(J:hG b1 s.heap a xs)(L:hG b2 s.heap b ys)
  (h:∀H,IsZip H (s.heap.objs.size+4) (s.heap.objs.size+2) (s.heap.objs.size+3) .none->IsPair H (s.heap.objs.size+2) (.ref s.heap.objs.size) (.ref (s.heap.objs.size+1))->
   IsPair H (s.heap.objs.size+3) .none .none->gf b1 H s.heap.objs.size a 0->gf b2 H (s.heap.objs.size+1) b 0->(∀e o,s.heap.get? e=some o->H.get? e=some o)->Q (.ref (s.heap.objs.size+4)) { s with heap:=H }):
  wpAny (model prog w) A (call (.type "zip") [.ref a,.ref b]) Q E s:=by
 refine callType_new (S:=λ_ R c=>c=s/\R (.ok (.ret (.ref (s.heap.objs.size+4)))) { s with heap:=((((s.heap.push { cls:=.type (eV b1),data:=.fields (List.toArray [.ref a,.int 0 0]) }).push { cls:=.type (eV b2),data:=.fields (List.toArray [.ref b,.int 0 0]) }).push { cls:=.type "tuple",data:=.seq (List.toArray [.ref s.heap.objs.size,.ref (s.heap.objs.size+1)]) }).push { cls:=.type "tuple",data:=.seq (List.toArray [.none,.none]) }).push { cls:=.type "zip",data:=.fields (List.toArray [.none,.bool false,.bool false,.ref (s.heap.objs.size+2),.ref (s.heap.objs.size+3)]) } })
  PySem.F.called_zip IL (PySem.F.typeCall_zip_2 _ _) (PySem.F.newCall_zip_2 _ _) (λO=>PySem.F.args_object_init_3 O _ _) PySem.F.entry_zip_new (.of_wp λp w' A' R c P=>?_) #[Z,?_]
 ·obtain⟨rfl,q⟩:=P
  obtain⟨r,g,D,t,os⟩:=c
  have u:=sub_zip
  have T:hG b1 (Shared.heap #[r,g,D,t,os]) a xs:=J
  have L2:hG b2 (Shared.heap #[r.push { cls:=.type (eV b1),data:=.fields (List.toArray [.ref a,.int 0 0]) },g,D,t,os]) b ys:=L.kp λo e=>DI _ e
  wp_walk using vH T,vH L2
  refine#[_,Z,?_]
  simp only[Ey]at q ⊢
  exact q
 ·have z (h:Heap) (o:Obj):(h.push o).objs.size=h.objs.size+1:=Ey ..
  generalize d:s.heap.push { cls:=.type (eV b1),data:=.fields (List.toArray [.ref a,.int 0 0]) }=M
  generalize f:M.push { cls:=.type (eV b2),data:=.fields (List.toArray [.ref b,.int 0 0]) }=i
  generalize j:i.push { cls:=.type "tuple",data:=.seq (List.toArray [.ref s.heap.objs.size,.ref (s.heap.objs.size+1)]) }=k
  generalize l:k.push { cls:=.type "tuple",data:=.seq (List.toArray [.none,.none]) }=n
  generalize v:n.push { cls:=.type "zip",data:=.fields (List.toArray [.none,.bool false,.bool false,.ref (s.heap.objs.size+2),.ref (s.heap.objs.size+3)]) }=m
  have N:M.objs.size=s.heap.objs.size+1:=by rw[<- d,z]
  have x:i.objs.size=s.heap.objs.size+2:=by rw[<- f,z,N]
  have y:k.objs.size=s.heap.objs.size+3:=by rw[<- j,z,x]
  have U:n.objs.size=s.heap.objs.size+4:=by rw[<- l,z,y]
  have K:∀e o,n.get? e=some o->m.get? e=some o:=λe o w=>by rw[<- v];exact DI _ w
  have B:∀e o,k.get? e=some o->m.get? e=some o:=λe o w=>K e o (by rw[<- l];exact DI _ w)
  have C:∀e o,i.get? e=some o->m.get? e=some o:=λe o w=>B e o (by rw[<- j];exact DI _ w)
  have G:∀e o,M.get? e=some o->m.get? e=some o:=λe o w=>C e o (by rw[<- f];exact DI _ w)
  have V:∀e o,s.heap.get? e=some o->m.get? e=some o:=λe o w=>G e o (by rw[<- d];exact DI _ w)
  have I:IsZip m (s.heap.objs.size+4) (s.heap.objs.size+2) (s.heap.objs.size+3) .none:=by rw[<- U,<- v];exact DP _ Z
  have W:IsPair m (s.heap.objs.size+3) .none .none:=K _ _ (by rw[<- y,<- l];exact DP _ Z)
  have X:IsPair m (s.heap.objs.size+2) (.ref s.heap.objs.size) (.ref (s.heap.objs.size+1)):=B _ _ (by rw[<- x,<- j];exact DP _ Z)
  have Y:m.get? (s.heap.objs.size+1)=some { cls:=.type (eV b2),data:=.fields (List.toArray [.ref b,.int 0 0]) }:=C _ _ (by rw[<- N,<- f];exact DP _ Z)
  have q1:m.get? s.heap.objs.size=some { cls:=.type (eV b1),data:=.fields (List.toArray [.ref a,.int 0 0]) }:=G _ _ (by rw[<- d];exact DP _ Z)
  refine#[#[_,I,Z],h m I X W ?_ ?_ V]
  ·cases b1<;>exact#[_,q1,Z,Z]
  ·cases b2<;>exact#[_,Y,Z,Z]
end
theorem u7(n a b:Nat)(h:a < n)(H:b < n):sr (n+4) (n+2) (n+3) n (n+1) a b:=by
 refine#[?_,?_,?_,?_,?_,?_,?_,?_,?_,?_,?_,?_,?_,?_,?_,?_,?_,?_]<;>(show(_:Nat)≠_;omega)
section
variable {prog:Program}{w:World}{A:Around}{E:Value->Shared->Prop}
theorem vo(h:l≠J):∀(n i:Nat) (s:Shared) (Q:List Value->Shared->Prop),s.heap.IsListIter J l i->s.heap.IsList l I->i+n<=I.size->
  (∀a,a.IsListIter J l (i+n)->Heap.SameBut J s.heap a->Q ((I.toList.drop i).take n) { s with heap:=a })->wpAny (model prog w) A (draw (.ref J) n) Q E s
 |0,i,s,Q,b,_,_,q=>show wpAny _ _ (pure []) Q E s from DH (by simpa using q s.heap b (Heap.SameBut.refl ..))
 |n+1,i,s,Q,b,c,d,q=>by
  have H:i < I.size:=by omega
  refine(show wpAny _ _ (pyNext (.ref J) >>= _) Q E s from DG (wpAny_pyNext_list_item b c (x:=I[i]) (by simp [H]) λm j S=>?_))
  refine DG (D8 (vo h n (i+1) _ _ j (c.extBut S.extBut h) IM λf g k=>DH ?_))
  have e:=q f (by rw[show i+(n+1)=i+1+n by omega];exact g) (S.trans k)
  rwa [show I.toList.drop i=I[i]::I.toList.drop (i+1) by simp [List.drop_eq_getElem_cons,H],List.take_succ_cons]at e
theorem uW{s:Shared}{Q:List Value->Shared->Prop}(f:A.handled=none)(h:s.heap.IsList l i)(a:i.size=n)
  (q:∀c,Heap.ExtBut s.heap.objs.size s.heap c->Q i.toList { s with heap:=c }):wpAny (model prog w) A (unpackItems (.ref l) n none) Q E s:=by
 have H:l≠s.heap.objs.size:=by obtain⟨o,g,_⟩:=h;exact DS (DO g)
 unfold unpackItems
 refine DG ?_
 unfold notIterableAtAll
 refine DG (Fo h.typeIs slot_list_iter.lookup ?_)
 refine DH ?_
 simp only[DT,EN]
 refine DG (D8 (Hk h ?_))
 have I:(s.heap.push { cls:=.type "list_iterator",data:=.fields (List.toArray [.ref l,.int 0 0]) }).IsListIter s.heap.objs.size l 0:=#[_,DP _ Z,Z,Z]
 refine DG (D8 (vo H n 0 _ _ I (h.push _) IM λj J S=>?_))
 have k:(i.toList.drop 0).take n=i.toList:=by rw[List.drop_zero,Fk (by simp [a])]
 rw[k,D1 (by simp [a])]
 have L:j.IsList l i:=(h.push _).extBut S.extBut H
 refine DG (D8 (wpAny_pyNext_list_end f J L (by simp [a]) λm p=>?_))
 simp only[Option.isSome_none,DT,EN]
 exact DH (q m λb o d e=>p b o d (S.extBut b o d (DI _ e)))
end
section
variable {X:Cx}{pos:Pos}
def Dg(K:Frag)(n:Nat)(t:rW):TG:=λv b H Q=>∃a x,v= .ref a/\aC K H a x/\x.length=n/\t x b H Q
theorem Yz{E:List Expr}{k n:Nat}{t:rW}(g:X.calm=true)(h:yY X E t)
  (i:(assignEach E X.env).length=n:=by rfl) (c:(assignEach E X.env).findIdx? (·.1)=none:=by rfl):PG X (.Tuple E k pos) (Dg X.K n t):=by
 intro P s f H v u Q I r d
 obtain⟨a,x,j,l,m,d⟩:=d
 subst j
 cases r
 obtain⟨q,R,p,A⟩:=I.list l
 rw[assign_Tuple]
 refine DG (FY ?_)
 unfold unpack
 rw[i,c]
 refine DG (D8 (uW (I.ok.hd g) p.isList (by simp [<- m,R.length]) λw y=>?_))
 have z:ao X P f H { s with heap:=w }:=I.kept (t':=s.toks) λb o e=>y b o (DS (DO e)) e
 exact h P _ f H x _ Q z (by simpa using R) d
def vZ(K:Frag)(t:TE)(i j k:Nat):TS:=λD b H=>t b H λx h=>∃a v V c,x= .ref a/\aA K h a [v,V,c]/\D.nx (((b.set k (some c)).set j (some V)).set i (some v)) h
theorem uh{t e:Expr}{T:TE}{x y z:Str}{i j k:Nat}(n:X.calm=true)(c:X.N.Nodup)(w:X.N[i]?=some x)(A:X.N[j]?=some y)(B:X.N[k]?=some z)(L:nS X.env.scope x)(C:nS X.env.scope y)(E:nS X.env.scope z)(F:PE X e T)
  (G:X.fn x=true∨X.env.scope.names.lookup x=some .local:=by first |exact .inl Z |exact .inr Z) (J:X.fn y=true∨X.env.scope.names.lookup y=some .local:=by first |exact .inl Z |exact .inr Z) (M:X.fn z=true∨X.env.scope.names.lookup z=some .local:=by first |exact .inl Z |exact .inr Z)
  (O:swapsWithSole [t] e pos.line X.env=pure false:=by rfl) (P:swappedStores [t] e X.env=pure (some [x,y,z]):=by rfl):PS X (.Assign [t] e pos) (vZ X.K T i j k):=by
 intro p s f H D I h
 rw[exec_Assign_arm]
 refine DG (FY ?_)
 rw[O]
 refine DG (DH ?_)
 rw[D1 IL]
 refine DG (aO (F p s f H _ I h) λv S d=>?_)
 obtain⟨xv,g,l,R,a,v1,v2,v3,Q,V,q⟩:=d
 rw[P]
 refine DG (DH ?_)
 subst Q
 cases R
 obtain⟨W,r,Y,hz⟩:=l.tuple V
 cases r with
 |cons q1 r=>
  cases r with
  |cons q2 r=>
   cases r with
   |cons q3 r=>
    cases r
    rename_i u U m
    unfold assignStores
    refine DG (Fy (DG (wpAny_unpackItems_tuple (items:=(List.toArray [u,U,m])) (I.ok.hd n) Y λh' hx=>?_)))
    have I2:ao X p f g { S with heap:=h' }:=l.kept (t':=S.toks) λb o e=>hx b o (DS (DO e)) e
    refine DG ?_
    show wpAny _ _ (assignInOrder [λv=>bindName X.env z v,λv=>bindName X.env y v,λv=>bindName X.env x v] [m,U,u]) _ _ _
    refine DG (D8 (wpAny_bindName (zq I2 c B E q3 (λs2 I3=>?_) M)))
    refine DG (D8 (wpAny_bindName (zq I3 c A C q2 (λs3 I4=>?_) J)))
    refine DG (D8 (wpAny_bindName (zq I4 c w L q1 (λs4 I5=>?_) G)))
    exact DH (DH #[_,g,I5,q])
end
theorem sK(l b:Addr)(I i:Array Value)(n N:Nat)(D:Option Addr)(S:Array (Option Value))(e:¬(!I.isEmpty&&Builtin.List.listTooLong (I.size+i.size))=true)(W:I.size<=sizeLine)(a:I.size+i.size<=sizeLine+1):
  Meets (Builtin.«list.extend» #[[.ref l,.ref b],[]]) (λ_ R s=>s.heap.get? l=some { cls:=.type "list",dict:=none,data:=.seq I n,slots:=(List.toArray []) }/\s.heap.get? b=some #[.type "tuple",D,.seq i N,S]/\R (.ok (.ret Value.none)) { s with heap:=s.heap.update l (Obj.mapSeq λx=>x++i),toks:=s.toks }):=by
 refine Meets.of_wp λp w A R s h=>?_
 obtain⟨f,g,d,t,os⟩:=s
 obtain⟨H,c,h⟩:=h
 have F:=AutoSeq1.idx_int
 have j:=AutoSeq1.sub_tuple_tuple
 have k:=AutoSeq1.sub_list_list
 have m:=AutoSeq1.sub_tuple_list
 have o:=AutoSeq1.sub_list_tuple
 have hz:(I++i).size<=sizeLine+1:=by rw[Ia];exact a
 wp_walk using (HL H Z (hz:=W) (_hz':=hz)),Fi H,Fi c
 exact#[_,Z,h]
section
variable {X:Cx}
def i5(K:Frag):V->List V->Hp->VK->Prop:=λx v H Q=>∃l b a z,x= .ref l/\v=[.ref b]/\H l=some (.lst a)/\aA K H b z/\a.length+z.length<=sizeLine/\Q .non (af H l (.lst (a++z)))
theorem X5:Bx X "list.extend" (i5 X.K):=by
 intro p s A H x V v U Q I g j h
 obtain⟨l,b,B,C,rfl,rfl,f,k,D,q⟩:=h
 cases g
 obtain⟨u,rfl,m⟩:=j.one
 cases m
 obtain⟨z,a,n,r,E,e⟩:=I.lstM f
 obtain⟨i,R,P,G⟩:=I.tuple k
 have o:=R.length
 have d:a.toArray.size+i.toArray.size<=sizeLine:=by rw[DQ,DQ];omega
 have c:¬(!a.toArray.isEmpty&&Builtin.List.listTooLong (a.toArray.size+i.toArray.size))=true:=by
  rw[eX d,Iw]
  exact DR
 obtain⟨⟨J,O,L,S⟩,t,w,N,y⟩:=P
 cases w
 cases y
 refine Ih F.slot_list_extend #[_,e,Z] F.entry_list_extend (F.args_list_extend_2 _ _) (sK l b a.toArray i.toArray n N O S c (by rw[DQ];omega) IM) #[e,t,?_]
 refine#[.non,_,I.lset (its':=a++i) f e IN (r.append R) (by rw[DM];omega),Z,q]
end
section
variable {prog:Program}{w:World}{A:Around}{E:Value->Shared->Prop}{s:Shared}
theorem Ji{R:Result->Shared->Prop}{P:Nat->Value->Prop}{St:Nat->Shared->Prop}
  (W:WalksS prog w A.in1 I N j G n P St) (S:Addr) (H:¬S∈N) (c:List Str) (O:c.length=n) (Q:∀i v,P i v->∃x t,c[i]?=some x/\v= .str x t) (d:∀L:List Str,L.Nodup->(∀x∈L,x∈c)->L.length+1 < scanBound):
  ∀(k i:Nat) (s:Shared) (L:List Str),n - i=k->i<=n->St i s->bZ prog w s.heap S L->(∀x,x∈L↔x∈c.take i)->L.length<=i->
   (∀a l,Moved (S::j) G s a->bZ prog w a.heap S l->(∀x,x∈l↔x∈c)->l.length<=n->R (.ok (.ret .none)) a)->
   codeAny (model prog w) A (.builtin "set.update.loop" #[[.ref S,.ref I],[]]) R s:=by
 have f:¬S∈j:=λz=>H (W.sub _ z)
 have sub:∀b∈j,b∈S::j:=λb z=>D9 _ z
 intro k
 induction k with
 |zero=>
  intro i s L T U st p q F r
  have e:i=n:=by omega
  subst e
  refine EW HJ ?_
  rw[EE F']
  show wpAny _ A.in1 (pyNext (.ref I) >>= _) _ _ s
  refine DG (W.done s _ _ st λa m=>?_)
  show wpAny _ A.in1 (ret Value.none) _ _ a
  refine DH (r a L (m.mono sub) (p.at λo e=>m.heap S o f e) (λx=>?_) F)
  rw[q x,<- O,Er]
 |succ k V=>
  intro i s L T U st p q F r
  have J:i < n:=by omega
  refine EW HJ ?_
  rw[EE F']
  show wpAny _ A.in1 (pyNext (.ref I) >>= _) _ _ s
  refine DG (W.item i s _ _ J st λv a X u m=>?_)
  obtain⟨x,t,B,rfl⟩:=Q i v X
  show wpAny _ A.in1 (holding [Value.str x t] (setAdd S (.str x t)) >>= _) _ _ a
  refine DG (D8 ?_)
  have h:L.Nodup:=by obtain⟨_,_,_,_,_,_,_,_,_,h,_⟩:=p;exact h
  refine Xp (p.at λo e=>m.heap S o f e) (d L h λx B=>EC ((q x).mp B)) λb h' Y K S2 g=>?_
  refine DH #[FL F' _,V (i+1) _ _ IM J (W.frame _ a _ _ u g λb d o e=>?_) S2 (λy=>?_) ?_ λC l M D q1 q2=>?_]
  ·rw[K.2 b (λz:b=S=>H (by rw[<- z];exact d))];exact e
  ·have tk:c.take (i+1)=c.take i++[x]:=by rw[FT,B];rfl
   rw[tk,Gd,HP,<- q y]
   split
   ·rename_i hm
    exact#[.inl,λz=>z.elim id λe=>e▸hm]
   ·rw[Gd,HP]
  ·split
   ·omega
   ·rw[DM,FN];omega
  ·refine r C l (Moved.trans W.gtrans ((m.mono sub).then_heap g λb o d e=>?_) M) D q1 q2
   rw[K.2 b (λz:b=S=>d (by rw[z];exact D3))];exact e
end
section
variable {prog:Program}{w:World}{A:Around}{E:Value->Shared->Prop}{s:Shared}
set_option maxHeartbeats 3200000 in
theorem JK{Q:Value->Shared->Prop}
  (hh:A.handled=none) (hl:s.heap.IsList l I) (hi:StrsAre I.toList n) (C:∀L:List Str,L.Nodup->(∀x∈L,x∈n)->L.length+1 < scanBound)
  (h:∀(a:Heap) (t:Nat) L,bZ prog w a s.heap.objs.size L->(∀x,x∈L↔x∈n)->L.length<=I.size->
   (∀b o,b < s.heap.objs.size->s.heap.get? b=some o->a.get? b=some o)->s.toks<=t->Q (.ref s.heap.objs.size) { s with heap:=a,toks:=t }):
  wpAny (model prog w) A (call (.type "set") [.ref l]) Q E s:=by
 obtain⟨c,tl,m1⟩:=PySem.F.called_set.mro
 have m0:=PySem.F.called_set.made
 have sb:=PySem.F.called_set.sub
 refine wpAny_call (codeAny_of_tree ?_)
 show wpAny _ _ (callAny (.type "set") _) _ _ _
 refine DH #[Code.quiet_builtin _ IP,EW PySem.F.entry_type_call ?_]
 rw[Around.under_plain (weight_type_call_type "set" [.ref l] []) Z]
 have n1:=PySem.F.called_set.notType
 have n2:=PySem.F.called_set.canCreate
 have ct:=PySem.F.typeCall_set_1 (.ref l)
 repeat (any_goals (first |assumption |wp_step))
 refine Gg (KK (.ref l) (E:=E) (G:=λv S=>v= .ref s.heap.objs.size/\S={ s with heap:=s.heap.push (a6 w) }) #[Z,Z]) λr S D=>?_
 cases r with
 |error e=>exact D
 |ok fl=>
  cases fl with
  |ret o2=>
   obtain⟨rfl,rfl⟩:=D
   have J:(s.heap.push (a6 w)).get? s.heap.objs.size=some (a6 w):=DP _ Z
   have hT:Shared.TypeIs { s with heap:=s.heap.push (a6 w) } (.ref s.heap.objs.size) "set":=#[_,J,Z]
   have li:=PySem.F.called_set.init.lookup
   have bi:=PySem.F.called_set.init.bind (.ref s.heap.objs.size)
   repeat (any_goals (first |assumption |wp_step))
   refine Gg (codeAny_call_builtin (R:=wants (λr d=>r= .none/\∃a t L,d={ s with heap:=a,toks:=t }/\bZ prog w a s.heap.objs.size L/\(∀x,x∈L↔x∈n)/\L.length<=I.size/\
     (∀b o,b < s.heap.objs.size->s.heap.get? b=some o->a.get? b=some o)/\s.toks<=t) E) PySem.F.called_set.init.plain PySem.F.entry_set_init (check_set_init_1 hT ?_)) λp d H=>?_
   ·obtain⟨ol,q,u,nl,y⟩:=hl
    obtain⟨o1,g,K,O⟩:=ol
    simp only at u y
    subst u
    subst y
    have f:(s.heap.push (a6 w)).get? l=some { cls:=.type "list",dict:=g,data:=.seq I nl,slots:=O }:=DI _ q
    have ns:=PySem.F.sub_list_set
    have nf:=PySem.F.sub_list_frozenset
    have ne:(Value.type "list"==Value.type "dict")=false:=by decide
    have j:(s.heap.push (a6 w)).IsList l I:=#[_,f,Z,nl,Z]
    unfold a6 at J hT f j ⊢
    unfold Builtin.«set.__init__» noKeywords Builtin.Frozenset.updateFrom
    generalize M:pyIter=PI
    wp_walk
    subst M
    refine Hk j ?_
    refine DG (wpAny_runValue ?_)
    have z:l < s.heap.objs.size:=DO q
    have h3:A.in1.in1.in1.handled=none:=by simp [hh]
    have N:l≠(s.heap.push (a6 w)).objs.size:=by rw[Ey];exact DS (FQ z)
    have P:¬s.heap.objs.size∈[(s.heap.push (a6 w)).objs.size,l]:=by
     rw[Ey]
     simp only[Fn,Eb,Gz,not_or]
     exact#[DS (ET _),Ez z]
    have B:n.length=I.size:=by rw[L2.StrsAre.len hi,D6]
    refine Ji ((Walks.list h3 _ l N I).toS) s.heap.objs.size P n B (λi v hv=>StrsAre.at' hi i v (by rw[Fc];exact hv)) C (I.size - 0) 0 _ [] IM (DX _)
     #[#[_,DP _ Z,Z,Z],j.push _] (Xq (DI _ J)) (λx=>by simp) (DN _) λs' L m T U V=>?_
    obtain⟨a,g',d',W,X⟩:=s'
    have eg:g'=s.gens:=m.gens
    have ed:d'=s.drawn:=m.drawn
    have eo:X=s.os:=m.os
    subst eg
    subst ed
    subst eo
    show wpAny _ _ _ _ _ _
    refine DH ?_
    show wpAny _ _ (ret Value.none) _ _ _
    refine DH #[Z,a,W,L,Z,T,U,V,λb o C e=>?_,m.toks]
    have b1:b≠s.heap.objs.size:=DS C
    have b2:b≠(s.heap.push (a6 w)).objs.size:=by rw[Ey];exact DS (FQ C)
    exact m.heap b o (by simp only[Fn,Eb,Gz,not_or];exact#[b1,b2]) (DI _ (DI _ e))
   ·cases p with
    |error e=>exact H
    |ok k=>
     cases k with
     |ret r=>
      obtain⟨rfl,a,t,L,rfl,T,U,V,Y,q3⟩:=H
      repeat (any_goals (first |assumption |wp_step))
      exact h _ _ _ T U V Y q3
     |_=>exact H.elim
  |_=>exact D.elim
end
section
variable {X:Cx}
theorem qJ(m:X.calm=true):dB X (.type "set") (λg H Q=>∃(p:Addr) (S:List Str),g=[.ref p]/\aC X.K H p (S.map V.str)/\(∀L:List Str,L.Nodup->(∀x∈L,x∈S)->L.length+1 < scanBound)/\
  ∀l L,H l=none->L.Nodup->(∀x,x∈L↔x∈S)->Q (.ref l) (af H l (BB X.prog X.w l L))):=by
 intro P s B H g U Q I r h
 obtain⟨p,S,rfl,n,t,q⟩:=h
 obtain⟨u,rfl,R⟩:=dW r
 cases R
 obtain⟨i,v,y,C⟩:=I.list n
 have j:=zX v
 have D:i.length=S.length:=(L2.StrsAre.len j).symm
 refine JK (I.ok.hd m) y.isList (by simpa using j) t λc T L d z E k _=>?_
 have a:L.Nodup:=by obtain⟨_,_,_,_,_,_,_,_,_,a,_⟩:=d;exact a
 have A:∀b o,s.heap.get? b=some o->c.get? b=some o:=λb o e=>k b o (DO e) e
 obtain⟨o,f⟩:∃o,c.get? s.heap.objs.size=some o:=let #[o,_,_,_,f,_]:=d;#[o,f]
 exact#[.ref s.heap.objs.size,_,I.laid A (DN _) (show aG X.prog X.w _ c _ (BB X.prog X.w s.heap.objs.size L) from #[d,#[o,f],λF G x e=>bZ.at x e]),Z,q _ _ (I.hok.fresh (DN _)) a z]
end
section
variable {X:Cx}{CX:nj}{k:Nat}{f C:Addr}{fd:FuncData}{ps:List Str}{sp:Sp}{dvs:List V}{ds:List Value}{E:XK}{x m:Str}{p pos apos:Pos}{e:Expr}{es:List Expr}{t:TA}
structure we(K:Frag)(C:Addr)(m:Str)(f:Addr):Prop where
 rd:PySem.W.readsIn K C (.type "type")=true
 ga:specialIn K (.ref C) "__getattribute__"=some (some (.builtin "type.__getattribute__"))
 at_:PySem.W.findCls K (.ref C) (.type "type") m=some (.val (.ref f))
 kp:keepIn K (.ref f)=true
theorem t6{pl:Sem Bool}(j:Gl X x)(l:X.mg x=some (.ref C))(M:we X.K C m f)(F:aj X.prog X.w X.K X.mg X.base CX k f fd ps sp)(n:bo k X.A)(q:aw X.K fd ps ds)(u:au dvs ds)(v:cX CX X E)(y:PA X (e::es) t)
  (a:(x==("__debug__":Str))=false:=by decide)
  (c:starEach (e::es) X.env=(false,eval e X.env)::starEach es X.env:=by rfl) (d:(backTo pos (starEach es X.env)).any (·.1)=false:=by rfl)
  (z:eval (.Call (.Attribute (.Name x p) m apos) (e::es) [] pos) X.env=(do
   let O <- eval (.Name x p) X.env
   standAt apos.atName
   let (f,first) <- holding [O] (getMethod O m pl)
   callWith pos f first (backTo pos (starEach (e::es) X.env)) (backToKw pos (keywordEach [] X.env))):=by rfl):
  PE X (.Call (.Attribute (.Name x p) m apos) (e::es) [] pos) (dD sp dvs E t):=by
 intro P s g H Q I h
 refine Ht (pl:=pl) (zd I j l ?_ a) z
 refine PySem.W.method_cls I.kIn M.ga (PySem.W.cls_value I.kIn M.rd M.at_ Z ?_)
 have B:ao X P g H { s with toks:=s.toks+1 }:=I.kept (h':=s.heap) λb o e=>e
 refine Iu (h₀:=X.base) I.ok.mod.kin M.kp (aO (y pos P _ g H _ B h) λU S #[G,J,i,r,D]=>#[i.kIn,?_]) c d
 exact Qw F n q u v i r D
end
abbrev eG(h:Heap)(z u v T:Addr)(f:Bool):Prop:=
 h.get? z=some { cls:=.type "zip",dict:=none,data:=.fields (List.toArray [rawInt T,.bool f,.bool false,.ref u,.ref v]),slots:=(List.toArray []) }
section
variable {prog:Program}{w:World}{A:Around}{E:Value->Shared->Prop}{s:Shared}
theorem Zi{Q:Option Obj->Shared->Prop}(h:Q (s.heap.get? a) s):wpAny M A (loadIfAlive a) Q E s:=λ_ _ _=>h
theorem Ai{Q:Bool->Shared->Prop}(H:eG s.heap z u v T f)(a:∃o,s.heap.get? T=some o)
  (q:∀h,eG h z u v T true->Heap.ExtBut z s.heap h->h.objs.size=s.heap.objs.size->Q false { s with heap:=h }):wpAny (model prog w) A (Builtin.SmallTypes.ownedTupleIsFree (.ref z)) Q E s:=by
 unfold Builtin.SmallTypes.ownedTupleIsFree
 refine DG (D7 H Z (x:=rawInt T) Z ?_)
 show wpAny _ _ (loadIfAlive ((T:Int).toNat) >>= _) _ _ s
 refine DG (Zi ?_)
 obtain⟨o,c⟩:=a
 rw[EA,c]
 simp only[Option.isNone_some,DT,EN]
 refine DG (D7 H Z (x:=.bool f) Z ?_)
 cases f with
 |true=>
  simp only[Fz,DT,EN]
  exact DG (DH (DH (q s.heap H (λb o _ e=>e) Z)))
 |false=>
  rw[D0 IL]
  refine DG (FR H IN λh d S=>DH (q h d S.extBut S.1))
theorem u5{Q:Option Value->Shared->Prop}(D:sr z u v c d a b)
  (g:eG s.heap z u v T f) (p:∃o,s.heap.get? T=some o) (q:IsPair s.heap u (.ref c) (.ref d)) (r:gf B s.heap c a k) (t:gf l s.heap d b k) (G:hG B s.heap a C) (F:hG l s.heap b Y) (I:C[k]?=some x) (J:Y[k]?=some y)
  (L:∀h,eG h z u v T true->gf B h c a (k+1)->gf l h d b (k+1)->IsPair h s.heap.objs.size x y->h.objs.size=s.heap.objs.size+1->
   (∀e o,e≠z->e≠c->e≠d->s.heap.get? e=some o->h.get? e=some o)->Q (some (.ref s.heap.objs.size)) { s with heap:=h }):wpAny (model prog w) A (pyNext (.ref z)) Q E s:=by
 have H:s.TypeIs (.ref z) "zip":=#[_,g,Z]
 unfold pyNext
 refine DG (Gn (Ek (name:=Str.ofString "__next__") H ER (Ep ER H Gp (show wpAny _ _ (field (.ref z) 2 >>= _) _ _ _ from ?_) (Gj _))))
 refine DG (D7 g Z (x:=.bool false) Z (show wpAny _ _ (field (.ref z) 3 >>= _) _ _ _ from DG (D7 g Z (x:=.ref u) Z (DG (EB q Z ?_)))))
 refine(show wpAny _ _ (Builtin.SmallTypes.ownedTupleIsFree (.ref z) >>= _) _ _ _ from DG (Ai g p λO P i n=>?_))
 simp only[DT,EN]
 refine DG ?_
 simp only[List.forIn_toArray,Fh,FX]
 refine DG (DG (D8 (show wpAny _ _ (Builtin.SmallTypes.nextOf (.ref c) >>= _) _ _ _ from ?_)))
 refine DG (zY (s:={ s with heap:=O }) (r.kp λo e=>i _ _ D.cz e) (G.kp λo e=>i _ _ D.az e) I λM R j=>DH (DH ?_))
 refine DG (DG (D8 (show wpAny _ _ (Builtin.SmallTypes.nextOf (.ref d) >>= _) _ _ _ from ?_)))
 have K:∀e o,e≠z->e≠c->s.heap.get? e=some o->M.get? e=some o:=λe o n U w=>j.extBut _ _ U (i _ _ n w)
 refine DG (zY (s:={ s with heap:=M }) (t.kp λo e=>K _ _ D.dz D.cd.symm e) (F.kp λo e=>K _ _ D.bz D.bc e) J λm V S=>DH (DH (DH ?_)))
 show wpAny _ _ (newTuple [x,y] >>= _) _ _ _
 refine DG (wpAny_newTuple (DH #[_,Z,DH ?_]))
 have N:m.objs.size=s.heap.objs.size:=by rw[S.1,j.1];exact n
 have W:eG m z u v T true:=S.extBut _ _ D.dz.symm (j.extBut _ _ D.cz.symm P)
 show Q (some (.ref m.objs.size)) _
 rw[N]
 refine L _ (DI _ W) (R.kp λo e=>DI _ (S.extBut _ _ D.cd e)) (V.kp λo e=>DI _ e) (by rw[<- N];exact DP _ Z) (by rw[Ey,N]) λe o X a2 a3 w=>DI _ (S.extBut _ _ a3 (K _ _ X a2 w))
theorem yS{b2:Bool}{ys:Array Value}{Q:Option Value->Shared->Prop}(j:A.handled=none)(D:sr z u v c d a b)
  (H:eG s.heap z u v T f) (l:∃o,s.heap.get? T=some o) (m:IsPair s.heap u (.ref c) (.ref d)) (p:gf B s.heap c a k) (G:hG B s.heap a q) (r:q[k]?=none)
  (t:∀i,(∀e o,e≠z->e≠c->e≠d->s.heap.get? e=some o->i.get? e=some o)->Q none { s with heap:=i }):wpAny (model prog w) A (pyNext (.ref z)) Q E s:=by
 have h:s.TypeIs (.ref z) "zip":=#[_,H,Z]
 unfold pyNext
 refine DG (Gn (Ek (name:=Str.ofString "__next__") h ER (Ep ER h Gp (show wpAny _ _ (field (.ref z) 2 >>= _) _ _ _ from ?_) (Gj _))))
 refine DG (D7 H Z (x:=.bool false) Z (show wpAny _ _ (field (.ref z) 3 >>= _) _ _ _ from DG (D7 H Z (x:=.ref u) Z (DG (EB m Z ?_)))))
 refine(show wpAny _ _ (Builtin.SmallTypes.ownedTupleIsFree (.ref z) >>= _) _ _ _ from DG (Ai H l λM F g n=>?_))
 simp only[DT,EN]
 refine DG ?_
 simp only[List.forIn_toArray,Fh,FX]
 refine DG (DG (D8 (show wpAny _ _ (Builtin.SmallTypes.nextOf (.ref c) >>= _) _ _ _ from ?_)))
 refine DG (Qn (s:={ s with heap:=M }) (by simpa using j) (p.kp λo e=>g _ _ D.cz e) (G.kp λo e=>g _ _ D.az e) r λy e S C=>?_)
 exact DG (FM (T:="StopIteration") (b:=true) C HU (DH (t y λe o n N I w=>S _ _ N (g _ _ n w))))
end
theorem Jt:typeLookup (.type "zip") "__getattr__"=pure none:=by rw[EV,Et];kernel_rfl
theorem Xu:typeLookup (.type "zip") "keys"=pure none:=by rw[EV,Et];kernel_rfl
theorem QW:entryFor table "zip.__getattribute__"=some Builtin.«object.__getattribute__»:=
 HV (id':="object.__getattribute__") (by kernel_rfl) IP IP (by kernel_rfl)
theorem KE(a:Addr)(x:Array Value)(S:Array (Option Value))(u:Tok):
  Meets (Builtin.«object.__getattribute__» #[[.ref a,.str "keys" u],[]]) (λA R s=>s.heap.get? a=some { cls:=.type "zip",dict:=none,data:=.fields x,slots:=S }/\raisesAttr (.ref a) "keys" A R s):=
 Meets.of_wp λp w A R s H=>by
  obtain⟨c,g,d,t,os⟩:=s
  obtain⟨e,H⟩:=H
  have f:(#[c,g,d,t,os]:Shared).TypeIs (.ref a) "zip":=#[_,e,Z]
  have b:=Xu
  have h:(["__module__","__name__","__qualname__","__doc__","__annotations__"]:List Str).contains "keys"=false:=by decide+kernel
  unfold Builtin.«object.__getattribute__»
  repeat (any_goals (first |assumption |wp_step))
  try simp only[h,DT,EN]
  repeat (any_goals (first |assumption |wp_step))
  exact wpAny_raiseAttrError H.1 H.2 (attrMsg_fits IP (by size_fits))
section
variable {prog:Program}{w:World}{A:Around}{E:Value->Shared->Prop}{s:Shared}
theorem sX{Q:Option Value->Shared->Prop}(f:s.heap.get? a=some { cls:=.type "zip",dict:=none,data:=.fields x,slots:=j })(k:A.handled=none)
  (h:∀c T,(∀b o,s.heap.get? b=some o->c.get? b=some o)->Q none { s with heap:=c,toks:=T }):wpAny (model prog w) A (getAttr? (.ref a) "keys") Q E s:=by
 obtain⟨l,g,d,T,os⟩:=s
 have i:∀t,(#[l,g,d,t,os]:Shared).TypeIs (.ref a) "zip":=λ_=>#[_,f,Z]
 have m:=sub_AttributeError
 have n:=PySem.F.slot_zip_getattribute.lookup
 have p:=PySem.F.slot_zip_getattribute.bind (.ref a)
 have q:=Jt
 unfold getAttr? getAttrBy? getAttrBy
 repeat (any_goals (first |assumption |exact i _ | ((with_reducible show wpAny _ _ (call (Value.builtin "zip.__getattribute__") _ _) _ _ _);refine Ih PySem.F.slot_zip_getattribute (i _) QW (PySem.F.args_zip_getattribute_2 _ _) (KE a x j _) #[f,by simpa using k,λc t e H=>?_]) |wp_step))
 obtain⟨r,u,v⟩:=H.there
 show wpAny _ _ (getattributeRaised _ _ _ _ _ _ _) _ _ _
 unfold getattributeRaised
 repeat (any_goals (first |assumption |wp_step))
 exact h _ _ H.keeps
def wt(h:Heap)(z u v c d a b Dd:Addr)(x y:Array Value)(i:Nat):Prop:=
 ((IsZip h z u v .none/\∃p q,IsPair h v p q)∨∃T f o,eG h z u v T f/\h.get? T=some o/\T≠z/\T≠c/\T≠d/\T≠Dd)/\IsPair h u (.ref c) (.ref d)/\gf false h c a i/\gf false h d b i/\hG false h a x/\hG false h b y
theorem ve{Dd:Addr}{Q:Option Value->Shared->Prop}(D:sr z u v c d a b)(l:Dd < s.heap.objs.size)(S:wt s.heap z u v c d a b Dd J Y k)(L:J[k]?=some x)(M:Y[k]?=some y)
  (N:∀h,wt h z u v c d a b Dd J Y (k+1)->IsPair h s.heap.objs.size x y->h.objs.size=s.heap.objs.size+1->(∀e o,e≠z->e≠v->e≠c->e≠d->s.heap.get? e=some o->h.get? e=some o)->Q (some (.ref s.heap.objs.size)) { s with heap:=h }):wpAny (model prog w) A (pyNext (.ref z)) Q E s:=by
 obtain⟨H,g,j,m,G,i⟩:=S
 obtain⟨oc,n,_⟩:=j.ob
 obtain⟨od,r,_⟩:=m.ob
 rcases H with ⟨H,p,q,U⟩ | ⟨T,f,o,H,O,t,P,R,V⟩
 ·refine u6 D H g U j m G i L M λh B v1 I C t F K=>N h #[.inr #[s.heap.objs.size,false,_,B,t,Ez (DO H),Ez (DO n),Ez (DO r),Ez l],K _ _ D.uz D.uv D.uc D.ud g,I,C,G.kp λo e=>K _ _ D.az D.av D.ac D.ad e,i.kp λo e=>K _ _ D.bz D.bv D.bc D.bd e] t F K
 ·refine u5 D H #[o,O] g j m G i L M λh B I C W F K=>N h #[.inr #[T,true,o,B,K _ _ t P R O,t,P,R,V],K _ _ D.uz D.uc D.ud g,I,C,G.kp λo e=>K _ _ D.az D.ac D.ad e,i.kp λo e=>K _ _ D.bz D.bc D.bd e] W F λe o X n2 n3 n4 w=>K e o X n3 n4 w
theorem yV{Dd:Addr}{Q:Option Value->Shared->Prop}(g:A.handled=none)(D:sr z u v c d a b)(n:wt s.heap z u v c d a b Dd x ys k)(i:x[k]?=none)
  (j:∀H,(∀e o,e≠z->e≠v->e≠c->e≠d->s.heap.get? e=some o->H.get? e=some o)->Q none { s with heap:=H }):wpAny (model prog w) A (pyNext (.ref z)) Q E s:=by
 obtain⟨h,l,m,B,G,C⟩:=n
 rcases h with ⟨h,p,q,F⟩ | ⟨T,f,o,h,r,I,J,L,M⟩
 ·exact yT (b2:=false) (p:=p) (q:=q) (ys:=ys) g D h l m G i j
 ·exact yS (b2:=false) (ys:=ys) g D h #[o,r] l m G i λH K=>j H λe o N O t y w=>K e o N t y w
structure BO(D z u v c d a b:Addr):Prop where
 z:D≠z
 u:D≠u
 v:D≠v
 c:D≠c
 d:D≠d
 a:D≠a
 b:D≠b
theorem wt.keep{h j:Heap}{Dd:Addr}(F:BO Dd z u v c d a b)(k:∀e o,e≠Dd->h.get? e=some o->j.get? e=some o)(st:wt h z u v c d a b Dd x y i):wt j z u v c d a b Dd x y i:=by
 obtain⟨H,l,m,n,G,r⟩:=st
 refine#[?_,k _ _ F.u.symm l,m.kp λo e=>k _ _ F.c.symm e,n.kp λo e=>k _ _ F.d.symm e,G.kp λo e=>k _ _ F.a.symm e,r.kp λo e=>k _ _ F.b.symm e]
 rcases H with ⟨H,p,q,B⟩ | ⟨T,f,o,H,g,C,D,I,t⟩
 ·exact .inl #[k _ _ F.z.symm H,p,q,k _ _ F.v.symm B]
 ·exact .inr #[T,f,o,k _ _ F.z.symm H,k _ _ t g,C,D,I,t]
theorem KF{K:Type}[DecidableEq K]{knd:KeyKind prog w K}{R:Result->Shared->Prop}{Dd:Addr}{x:Array Value}(X:A.handled=none)(D:sr z u v c d a b)(F:BO Dd z u v c d a b)(m:List (K×Value))(Y:m.length=x.size)(h0:x.size<=sizeLine)
  (hP:∀(i:Nat),i < x.size->∃f V k,x[i]?=some f/\ys[i]?=some V/\knd.is k f=true/\m[i]?=some (k,V)):
  ∀(j i:Nat) (s:Shared) (n:Int),x.size - i=j->i<=x.size->wt s.heap z u v c d a b Dd x ys i->s.heap.DictOf knd Dd (merged [] (m.take i))->
   (∀h T,(∀e o,e≠Dd->e≠z->e≠v->e≠c->e≠d->s.heap.get? e=some o->h.get? e=some o)->h.DictOf knd Dd (merged [] m)->R (.ok (.ret .none)) { s with heap:=h,toks:=T })->
   codeAny (model prog w) A (.builtin "dict.update.loop" #[[.ref Dd,.ref z,.int n 0,.none],[]]) R s:=by
 intro j
 induction j with
 |zero=>
  intro i s n hj hi st q C
  have e:i=x.size:=by omega
  subst e
  refine EW JE ?_
  rw[EE zG]
  show wpAny _ A.in1 (pyNext (.ref z) >>= _) _ _ s
  refine DG (yV (by simpa using X) D st IN λh g=>?_)
  show wpAny _ A.in1 (Builtin.Dict.addKeywords Dd [] >>= λ_=>ret Value.none) _ _ { s with heap:=h }
  refine DG ?_
  unfold Builtin.Dict.addKeywords
  refine DH (DH (C h s.toks (λe o _ N t y B w=>g e o N t y B w) ?_))
  rw[<- Y,Er]at q
  obtain⟨o,es,ep,ho,r⟩:=q
  exact#[o,es,ep,g _ _ F.z F.v F.c F.d ho,r]
 |succ j ih=>
  intro i s n hj hi st q C
  have M:i < x.size:=by omega
  obtain⟨f,V,k,hx,hy,O,hm⟩:=hP i M
  refine EW JE ?_
  rw[EE zG]
  show wpAny _ A.in1 (pyNext (.ref z) >>= _) _ _ s
  obtain⟨oD,G,I,H,rD⟩:=id q
  have L:Dd < s.heap.objs.size:=DO H
  refine DG (ve D L st hx hy λl S P N g=>?_)
  have hb:Shared.TypeIs { s with heap:=l } (.ref s.heap.objs.size) "tuple":=#[_,P,Z]
  have J:l.DictOf knd Dd (merged [] (m.take i)):=#[oD,G,I,g _ _ F.z F.v F.c F.d H,rD]
  dsimp only
  refine DG (D8 ?_)
  refine DG (wpAny_tryCatch ?_)
  unfold Builtin.Dict.pairItems
  refine DG (Ft hb ?_)
  rw[D0 IL]
  refine DG (EB P Z (DH ?_))
  show wpAny _ A.in1 (holding [f,V] (dictSet Dd f V)) _ _ { s with heap:=l }
  unfold dictSet
  refine D8 (D8 (DG (knd.pyHash O ?_)))
  have Q:(merged ([]:List (K×Value)) (m.take i)).length<=i:=by
   have:=merged_length_le ([]:List (K×Value)) (m.take i)
   rw[Ec]at this
   simp only[Il]at this
   omega
  refine wpAny_dictSetHashed_pairs (s:={ s with heap:=l,toks:=s.toks+1 }) O J (λh p sb=>?_) IM
  rw[<- merged_take_succ [] m i (k,V) hm]at p
  have U:∀e o,e≠Dd->l.get? e=some o->h.get? e=some o:=λe o ne w=>(sb.2 e ne).trans w
  refine DH #[FL zG _,ih (i+1) _ (n+1) IM M (S.keep F U) p λh2 T k2 d2=>C h2 T (λe o W N t y B w=>k2 e o W N t y B (U _ _ W (g e o N t y B w))) d2]
theorem KQ{K:Type}[DecidableEq K]{knd:KeyKind prog w K}{more:List (K×Value)}{Q:Value->Shared->Prop}(N:A.handled=none)(D:sr z u v c d a b)
  (j:IsZip s.heap z u v .none) (P:IsPair s.heap u (.ref c) (.ref d)) (m:∃p q,IsPair s.heap v p q) (U:gf false s.heap c a 0) (V:gf false s.heap d b 0) (W:hG false s.heap a x) (X:hG false s.heap b ys)
  (hn:more.length=x.size) (n:x.size<=sizeLine) (hP:∀(i:Nat),i < x.size->∃Y vu k,x[i]?=some Y/\ys[i]?=some vu/\knd.is k Y=true/\more[i]?=some (k,vu))
  (h:∀l t,l.DictOf knd s.heap.objs.size (merged [] more)->(∀e o,e≠z->e≠v->e≠c->e≠d->s.heap.get? e=some o->l.get? e=some o)->Q (.ref s.heap.objs.size) { s with heap:=l,toks:=t }):
  wpAny (model prog w) A (call (.type "dict") [.ref z]) Q E s:=by
 refine callType_codes (Q₁:=λO S=>O= .ref s.heap.objs.size/\S={ s with heap:=s.heap.push { cls:=.type "dict",data:=.dict (List.toArray []) } }) PySem.F.kt_called_dict (PySem.F.kt_typeCall_dict_1 _) PySem.F.entry_dict_init (kt_code_dict_new _ #[Z,Z]) ?_
 rintro O S ⟨rfl,rfl⟩
 have f:(s.heap.push { cls:=.type "dict",data:=.dict (List.toArray []) }).DictOf knd s.heap.objs.size []:=Heap.DictOf.new s.heap
 refine#[f.typeIs,PySem.F.args_dict_init_2 _ _,?_]
 unfold Builtin.«dict.__init__»
 refine DG ?_
 unfold Builtin.Dict.selfAndRest
 refine DG (wpAny_notOrdered_dict f.typeIs ?_)
 show wpAny _ _ (pure (s.heap.objs.size,[Value.ref z])) _ _ _
 refine DH ?_
 show wpAny _ _ (Builtin.Dict.updateFrom "dict.__init__" s.heap.objs.size (.ref z) [] .none) _ _ _
 unfold Builtin.Dict.updateFrom
 generalize hH:s.heap.push { cls:=.type "dict",data:=.dict (List.toArray []) }=H at f ⊢
 have G:∀b o,s.heap.get? b=some o->H.get? b=some o:=λb o e=>by rw[<- hH];exact DI _ e
 refine DG (Ft #[_,G _ _ j,Z] ?_)
 rw[D0 IL]
 refine DG (sX (s:={ s with heap:=H }) (G _ _ j) (by simpa using N) λM t k1=>?_)
 simp only[Option.isNone_none,Go]
 refine DG (Fy ?_)
 have g:∀b o,s.heap.get? b=some o->M.get? b=some o:=λb o e=>k1 _ _ (G _ _ e)
 refine DG (wpAny_pyIter_zip (s:={ s with heap:=M,toks:=t }) (g _ _ j) ?_)
 obtain⟨oD,eD,y,B,rD⟩:=f
 obtain⟨p,q,m⟩:=m
 obtain⟨oc,C,_⟩:=U.ob
 obtain⟨od,I,_⟩:=V.ob
 obtain⟨oa,J,_⟩:=id W
 obtain⟨ob,L,_⟩:=id X
 have F:BO s.heap.objs.size z u v c d a b:=#[Ez (DO j),Ez (DO P),Ez (DO m),Ez (DO C),Ez (DO I),Ez (DO J),Ez (DO L)]
 refine DH #[FL zG _,Gg (KF (knd:=knd) (A:=A.in1) (R:=λr s'=>r= .ok (.ret .none)/\Q (.ref s.heap.objs.size) s') (by simpa using N) D F more hn n hP x.size 0 { s with heap:=M,toks:=t } 0 Z (DX _)
  #[.inl #[g _ _ j,p,q,g _ _ m],g _ _ P,U.kp λo e=>g _ _ e,V.kp λo e=>g _ _ e,W.kp λo e=>g _ _ e,X.kp λo e=>g _ _ e] #[oD,eD,y,k1 _ _ B,rD] λl T k2 d2=>#[Z,?_]) λr s' q=>?_]
 ·exact h l T d2 λe o n1 n2 n3 n4 w=>k2 e o (DS (DO w)) n1 n2 n3 n4 (g _ _ w)
 ·obtain⟨rfl,q⟩:=q
  exact#[Z,q]
end
section
variable {X:Cx}{e1 e2:Expr}{ta:TA}{p p2 pos pos2:Pos}
def Dt(K:Frag)(ta:TA):TE:=λc H Q=>ta c H λv h=>∃(a b:Addr) (k:List aV) (y:List V),v=[.ref a,.ref b]/\aA K h a (k.map kV)/\aA K h b y/\k.length=y.length/\∀l,h l=none->Q (.ref l) (af h l (.dK (cw [] (k.zip y))))
theorem YA{P:Program}{w:World}:∀{K:List aV} {U:List Value},au (K.map kV) U->∀(i:Nat) (k:aV),K[i]?=some k->∃u,U[i]?=some u/\(aL P w).is k u=true
 | [],_,_,i,k,h=>by simp at h
 |k0::K,_,.cons (b:=u) h t,0,k,e=>by
  have E:k0=k:=by simpa using e
  subst E
  exact#[u,Z,J1 h]
 |k0::K,_,.cons h t,i+1,k,e=>by simpa using YA (P:=P) (w:=w) t i k (by simpa using e)
theorem ZU:∀{K:List aV} {y:List V} {u:List Value},au y u->KV (K.zip y) (K.zip u)
 | [],_,_,_=>by simp only[List.zip_nil_left];exact .nil
 |_::_,_,_,.nil=>by simp only[List.zip_nil_right];exact .nil
 |k::K,_,_,.cons h t=>.cons #[Z,h] (ZU t)
theorem YB(m:Gl X "dict")(n:X.mg "dict"=none)(t:Gl X "zip")(v:X.mg "zip"=none)(N:X.calm=true)(O:PA X [e1,e2] ta)
  (T:starEach [e1,e2] X.env=(false,eval e1 X.env)::starEach [e2] X.env:=by rfl) (U:(backTo pos2 (starEach [e2] X.env)).any (·.1)=false:=by rfl)
  (f:starEach [Expr.Call (.Name "zip" p2) [e1,e2] [] pos2] X.env=(false,eval (.Call (.Name "zip" p2) [e1,e2] [] pos2) X.env)::starEach [] X.env:=by rfl) (x:(backTo pos (starEach [] X.env)).any (·.1)=false:=by rfl):
  PE X (.Call (.Name "dict" p) [.Call (.Name "zip" p2) [e1,e2] [] pos2] [] pos) (Dt X.K ta):=by
 intro P s V H Q I h
 refine EF (zH I m n PyProof.Rows.boot_dict ?_)
 refine Ew ?_ f x
 rw[f]
 show wpAny _ _ (spliced ((false,eval _ X.env)::backTo pos (starEach [] X.env))) _ _ s
 refine Fg ?_
 refine EF (zH I t v PyProof.Rows.boot_zip ?_)
 refine Ew (aO (O pos2 P s V H _ I h) λus S z=>?_) T U
 obtain⟨vs,H1,d,W,Y⟩:=z
 obtain⟨a,b,c,ys,e,gx,gy,hl,q⟩:=Y
 subst e
 cases W with
 |cons r rr=>
  cases rr with
  |cons r' y=>
   cases y
   cases r
   cases r'
   obtain⟨A,F,G,z1⟩:=d.tuple gx
   obtain⟨j,R,C,z2⟩:=d.tuple gy
   have l1:=F.length
   have l2:=R.length
   rw[DK]at l1 z1
   have la:a < S.heap.objs.size:=by obtain⟨o,D,_⟩:=G;exact DO D
   have lb:b < S.heap.objs.size:=by obtain⟨o,D,_⟩:=C;exact DO D
   refine yU (b1:=false) (b2:=false) (xs:=A.toArray) (ys:=j.toArray) G C λE J u' v' i1 i2 k=>?_
   refine FK ?_
   have Dz:=u7 S.heap.objs.size a b la lb
   refine KQ (s:={ S with heap:=E }) (knd:=aL X.prog X.w) (more:=c.zip j) (d.ok.hd N) Dz J u' #[_,_,v'] i1 i2 (hG.kp (b:=false) G λo e=>k _ _ e) (hG.kp (b:=false) C λo e=>k _ _ e) (by rw[Ik,DQ];omega) (by rw[DQ];omega) (λi hi=>?_) λh2 tk dd k2=>?_
   ·rw[DQ]at hi
    have L:i < c.length:=by omega
    have M:i < j.length:=by omega
    obtain⟨u,hu,ku⟩:=YA F i _ (DJ L)
    refine#[u,j[i],c[i],by simpa using hu,by simp [M],ku,?_]
    rw[Iz]
    exact#[DJ L,DJ M]
   ·have g:KV (cw [] (c.zip ys)) (merged [] (c.zip j)):=KV.merge (ZU R) .nil
    have zl:(cw [] (c.zip ys)).length<=sizeLine:=by
     rw[g.length]
     have:=merged_length_le ([]:List (aV×Value)) (c.zip j)
     rw[Ik]at this
     simp only[Il]at this
     omega
    have k3:∀e o,S.heap.get? e=some o->h2.get? e=some o:=λe o w=>by
     have l:=DO w
     exact k2 e o (DS (DW l (FH _ _))) (DS (DW l (FH _ _))) (DS l) (DS (DW l (FH _ _))) (k _ _ w)
    have B:S.heap.objs.size<=E.objs.size:=F8 (Fe (FH _ 4) (DO J))
    exact#[.ref E.objs.size,_,d.laid k3 B (Qx zl (beq_eq_false_iff_ne.mpr (Eg (DS (DW d.big B)))) g dd),Z,q _ (d.hok.fresh B)]
end
end L2
namespace L2
open PySem PySem.Spec PyProof.Rows PySem.SeqAt
theorem YC:∀(X:List V) (U:List Value),U.length=X.length->(∀(j:Nat) (x:V) (u:Value),X[j]?=some x->U[j]?=some u->ax x u)->au X U
 | [],[],_,_=>.nil
 | [],_::_,h,_=>by simp at h
 |_::_,[],h,_=>by simp at h
 |x::X,u::U,h,k=>.cons (k 0 x u Z Z) (YC X U (by simpa using h) λj y v H a=>k (j+1) y v (by simpa using H) (by simpa using a))
theorem KV.at'(r:KV b c)(i:Nat)(h:c[i]?=some (k,v)):∃x,b[i]?=some (k,x)/\ax x v:=by
 induction r generalizing i with
 |nil=>simp at h
 |cons a _ I=>
  cases i with
  |zero=>
   rename_i p q _ _ _
   obtain⟨P,d⟩:=p
   obtain⟨Q,f⟩:=q
   have e:Q=k/\f=v:=by simpa using h
   obtain⟨rfl,rfl⟩:=e
   obtain⟨g,j⟩:=a
   have E:P=Q:=g
   subst E
   exact#[d,Z,j]
  |succ i=>simpa using I i (by simpa using h)
section
variable {X:Cx}
theorem X6(e:X.calm=true):dB X (.type "list") (λd H Q=>∃a kvs,d=[.ref a]/\H a=some (.dK kvs)/\∀l,H l=none->Q (.ref l) (af H l (.lst (kvs.map λp=>kV p.1)))):=by
 intro P s K H d U Q I r h
 obtain⟨a,kvs,rfl,f,q⟩:=h
 obtain⟨u,rfl,g⟩:=dW r
 cases g
 obtain⟨z,lo,v,R,o,E,ep,i,c⟩:=QX I.hok f
 have L:=R.length
 refine PySem.W.kdl_call (PySem.W.kdl_dict (knd:=aL X.prog X.w) (kvs:=v) (ep:=ep) lo) (I.ok.hd e) #[o,E,i,c] IM λm T A C n t b=>?_
 have B:au (kvs.map λp=>kV p.1) A.toList:=by
  refine YC _ _ (by rw[DK,D6,b.1];omega) λj x u c D=>?_
  obtain⟨k,y,F,G⟩:=b.2 j u (by rw[<- Fc];exact D)
  obtain⟨M,J,_⟩:=R.at' j F
  rw[D4,J]at c
  cases c
  exact CA G
 exact#[.ref s.heap.objs.size,_,I.laid n (DN _) (show aG X.prog X.w _ m _ (.lst (kvs.map λp=>kV p.1)) from #[by rw[DK];exact z,A.toList,C,B,by rw[Array.toArray_toList];exact t]),Z,q _ (I.hok.fresh (DN _))]
end
end L2
namespace L2
open PySem PySem.Spec PyProof.Rows
section
variable {X:Cx}{st:Stmt}{ss:List Stmt}{e:Expr}{es:List Expr}
def Ds:TS:=λ_ _ _=>False
theorem ZV:iV X ss Ds:=λ_ _ _ _ _ _ h=>False.elim h
end
end L2
namespace L2
open PySem PySem.Spec PyProof.Rows PySem.SeqAt
def Cw(K:Frag):R2:=λx y H Q=>∃a b X Y,x= .ref a/\y= .ref b/\aA K H a X/\aA K H b Y/\
 ((X.all cg=true/\Y.all cg=true/\Q (.bl (og X Y)) H)∨∃(w:Str) (c:Addr) (z:List V) (u:Str) (i:Int),X=[.str w,.ref c]/\aA K H c z/\Y=[.str u,.int i]/\Q (.bl false) H)
theorem xW{X:Cx}(d:X.A.units+1 < cLine):gc X (compareOp .Eq) (Cw X.K):=by
 intro p s m H x y v U Q I f g h
 obtain⟨a,b,n,Y,rfl,rfl,k,l,h | ⟨w,c,M,u,i,rfl,o,rfl,q⟩⟩:=h
 ·exact xV (HX d) p s m H _ _ v U Q I f g #[a,b,n,Y,Z,Z,k,l,h]
 cases f
 cases g
 obtain⟨N,r,P,_⟩:=I.tuple k
 obtain⟨O,R,t,_⟩:=I.tuple l
 obtain⟨S,V,z,_⟩:=I.tuple o
 cases r with
 |cons B r=>
  cases r with
  |cons C r=>
   cases r
   cases R with
   |cons D R=>
    cases R with
    |cons E R=>
     cases R
     obtain⟨T,rfl⟩:=B
     cases C
     obtain⟨F,rfl⟩:=D
     obtain⟨G,rfl⟩:=E
     refine eq_tupleAt (e:=λj=>if j=0 then w==u else false) (show s.heap.IsTuple a _ from P) (show s.heap.IsTuple b _ from t) (HX d) (λj J L=>?_) ?_
     ·match j,J,L with
      |0,_,_=>exact EqAt.str_str w T u F
      |1,_,_=>exact EqAt.tuple_int i G (show s.heap.IsTuple c _ from z) (by simpa [Around.in1,Around.units] using d)
     ·have e:((List.range (min 2 2)).all (λj=>if j=0 then w==u else false)&&(2:Nat)==2)=false:=by
       show((if 0=0 then w==u else false)&&((if 1=0 then w==u else false)&&true)&&true)=false
       simp
      exact#[.bl false,H,I,EO Value.bool e,q]
end L2
namespace L2
open PySem PySem.Spec PyProof.Rows
section
open PySem.W
theorem Zj{K:Frag}(X:K.In h)(a:h.get? x=some o)(b:o.cls= .ref C)(H:clsIn K B≠none)(tB:typeIn K (.ref B)=some (.type "type"))(m:mroIn K B (.type "BaseException")=some true)(c:mroIn K C (.ref B)=some false):
  Looks M h (excMatches (.ref x) (.ref B)) false:=by
 have L:Looks M h (typeOf (.ref x)) (.ref C):=b▸(Looks.ld a).andThen .now
 have l:=looks_typeIn (M:=M) X tB
 have L2:Looks M h (isInstance (.ref B) (.type "tuple")) false:=l.andThen (Looks.of_pure tc_notTuple)
 have d:Looks M h (isType (.ref B)) true:=by
  unfold clsIn at H
  split at H
  ·rename_i e
   intro A Q E s k q
   unfold isType loadHead
   exact DG (HQ (k _ _ (X _ _ e)) (DH q))
  ·exact absurd Z H
 have f:Looks M h (isExcClass (.ref B)) true:=by
  unfold isExcClass
  exact d.andThen (by rw[D0 Z];exact Ie X m)
 have g:=Ie (M:=M) X c
 intro A Q E s k q
 unfold excMatches
 refine DG (L2 A _ E s k ?_)
 rw[D1 IL]
 refine DG (DH ?_)
 dsimp only
 refine DG ?_
 rw[Fh]
 refine DG (DG (f A _ E s k ?_))
 simp only[Ga,DT,EN]
 refine DH ?_
 dsimp only
 rw[FX]
 refine DH ?_
 refine DG (L A _ E s k ?_)
 refine DG ?_
 rw[Fh]
 refine DG (DG (g A _ E s k ?_))
 simp only[DT,EN]
 refine DH ?_
 dsimp only
 rw[FX]
 refine DH ?_
 exact DH q
end
def v0(K:Frag)(A B:Addr)(t:BW)(b c:TS):TS:=λD a H=>t D (λx C d _ h=>(mroIn K C (.ref A)=some true/\∀T,h T=none->b D a (af (af h T (eQ T)) x (gg C d T x)))∨(mroIn K C (.ref A)=some false/\mroIn K C (.ref B)=some true/\∀T,h T=none->c D a (af (af h T (eQ T)) x (gg C d T x)))) a H
section
variable {X:Cx}{st a₀ b₀:Stmt}{as bs:List Stmt}{tb:BW}{ta tc:TS}{ca cb:Str}{np np' hp hp' pos:Pos}{A B:Addr}
theorem ui(b:X.stack=X.env::X.outer)(M:X.env.frame=some X.env.locals)(hb:C7 X st tb)(hg:Gl X ca)(hm:X.mg ca=some (.ref A))(hA:clsIn X.K A≠none)(tA:typeIn X.K (.ref A)=some (.type "type"))(mA:mroIn X.K A (.type "BaseException")=some true)
  (N:Gl X cb) (O:X.mg cb=some (.ref B)) (hB:clsIn X.K B≠none) (tB:typeIn X.K (.ref B)=some (.type "type")) (mB:mroIn X.K B (.type "BaseException")=some true)
  (hs:∀e,iV (X.mark e λ_ _=>False) (a₀::as) ta) (P:∀e,iV (X.mark e λ_ _=>False) (b₀::bs) tc) (l:(ca==("__debug__":Str))=false:=by decide) (R:(cb==("__debug__":Str))=false:=by decide):
  PS X (.Try [st] [.ExceptHandler (some (.Name ca np)) none (a₀::as) hp,.ExceptHandler (some (.Name cb np')) none (b₀::bs) hp'] [] [] pos) (v0 X.K A B tb ta tc):=by
 intro p s U H D I h
 refine wpAny_Try_except (IA (EK (hb p s U H D _ I h) (λf g q=>?_) λe g q=>?_))
 ·cases f with
  |next=>exact Gu (Gu q)
  |ret v=>exact q
  |brk=>exact q
  |cont=>exact q
 obtain⟨x,C,d,T,V,rfl,m,hx,hT,o,q⟩:=q
 obtain⟨⟨ox,vs,h1,h2,h3,h4,W,h6⟩,_⟩:=m.hok x _ hx
 obtain⟨⟨oT,J,t1,t2,t3⟩,_⟩:=m.hok T _ hT
 have u:=(Array.getElem?_eq_some_iff.mp h6).1
 have Y:X.A.frames=some (X.env::X.outer):=by rw[<- b];exact m.ok.frames
 have f0:g.heap.FunFrames X.base (X.env::X.outer):=by rw[<- b];exact m.stack
 refine Qj (base:=X.base) Y f0 M h1 W h6 o t1 t2 t3 λg2 Nd=>?_
 have E:(dI T g.heap).get? x=some ox:=(DY _ _ o).trans h1
 refine wV (s:={ g with heap:=g2 }) Nd E W u λg3 N0=>?_
 obtain⟨t,hn,F,i⟩:=(m.cleared hT t1 t2 t3).noted (C:=C) (d:=d) (t':=g.toks) hx E h2 h4 W u (by unfold ie;rw[b];exact N0)
 have i:ao X p U (af (af V t (eQ t)) x (gg C d t x)) { g with heap:=g3 }:=i
 obtain⟨⟨o1,v1,L,k2,k3,k4,k5,k6⟩,_⟩:=i.hok x _ jc
 have G:af (af V t (eQ t)) x (gg C d t x) t=some (eQ t):=by rw[jj F,jc]
 obtain⟨⟨o2,t0,u1,u2,u3⟩,_⟩:=i.hok t _ G
 have S:∀{E':Value->Shared->Prop} {c:Stmt} {cs:List Stmt} {J:TS} {hp:Pos},(∀e,iV (X.mark e λ_ _=>False) (c::cs) J)->J D U (af (af V t (eQ t)) x (gg C d t x))->codeAny (model X.prog X.w) (X.A.mark (some (.ref x))) (Code.handlers (.ref x) [.ExceptHandler none none (c::cs) hp] X.env) (λr a=>match r with | .ok f=>SP X p D f a | .error y=>cameBackBy (model X.prog X.w) X.A X.env E' y a) { g with heap:=g3 }:=by
  intro E' c cs J hp hz qz
  refine codeAny_handlers_suite ?_
  unfold setFlight
  refine DG (D7 L k5 k6 ?_)
  rw[D0 (show(Value.ref t != Value.none)=true from by simp)]
  refine Ex u1 u2 (Array.getElem?_eq_some_iff.mp u3).1 ?_
  have I4:=i.cleared G u1 u2 u3
  refine EK (hz (.ref x) p _ _ _ D (I4.mark (.ref x) λ_ _=>False) qz) (λf s6 Q=>?_) λ_ _ z=>z.elim
  cases f with
  |next=>obtain⟨j,H6,k,n⟩:=Q;exact#[_,_,k.unmark I.ok,n]
  |brk=>obtain⟨j,H6,k,n⟩:=Q;exact#[_,_,k.unmark I.ok,n]
  |cont=>obtain⟨j,H6,k,n⟩:=Q;exact#[_,_,k.unmark I.ok,n]
  |ret v=>obtain⟨y,j,H6,k,rv,n⟩:=Q;exact#[y,_,_,k.unmark I.ok,rv,n]
 rcases q with ⟨mC,q⟩ | ⟨mC,m0,q⟩
 ·refine Ic (HM ?_) (by intro z;cases z)
  refine zd (i.mark (.ref x) λ_ _=>False) hg hm ?_ l
  refine qw i.kIn L k2 hA tA mA mC _ _ _ _ (λ_ _ e=>e) ?_
  exact S hs (q t hn)
 ·refine Ic (HM ?_) (by intro z;cases z)
  refine zd (i.mark (.ref x) λ_ _=>False) hg hm ?_ l
  refine Zj i.kIn L k2 hA tA mA mC _ _ _ _ (λ_ _ e=>e) ?_
  refine Ic (HM ?_) (by intro z;cases z)
  refine zd (i.mark (.ref x) λ_ _=>False) N O ?_ R
  refine qw i.kIn L k2 hB tB mB m0 _ _ _ _ (λ_ _ e=>e) ?_
  exact S P (q t hn)
end
theorem Xv(l:Addr)(i:Array Value)(n:Nat)(D:Option Addr)(S:Array (Option Value)):
  Meets (Builtin.«enumerate.__new__» #[[.type "enumerate",.ref l],[]]) (λ_ R s=>s.heap.get? l=some { cls:=.type "tuple",dict:=D,data:=.seq i n,slots:=S }/\
   R (.ok (.ret (.ref (s.heap.push { cls:=.type "tuple_iterator",data:=.fields (List.toArray [.ref l,.int 0 0]) }).objs.size)))
    { s with heap:=(s.heap.push { cls:=.type "tuple_iterator",data:=.fields (List.toArray [.ref l,.int 0 0]) }).push { cls:=.type "enumerate",data:=.fields (List.toArray [.none,.bool false,.ref s.heap.objs.size,rawInt 0,.none,.none]) } }):=
 .of_wp λp w A R s h=>by
  obtain⟨e,g,d,t,os⟩:=s;obtain⟨H,h⟩:=h
  have b:=sub_enumerate
  have a:Heap.IsTuple (Shared.heap #[e,g,d,t,os]) l i:=#[_,H,Z,n,Z]
  wp_walk using Fi H
  refine wpAny_stack_any λst=>DH ?_
  split
  ·rename_i c _ _ _ _ _
   cases (c==Value.type "enumerate")
   ·wp_walk using Fi H,Gv a
    exact#[_,Z,h]
   ·wp_walk using Fi H,Gv a
    exact#[_,Z,h]
  ·wp_walk using Fi H,Gv a
   exact#[_,Z,h]
section
variable {prog:Program}{w:World}{A:Around}{E:Value->Shared->Prop}{s:Shared}
theorem X7{Q:Value->Shared->Prop}(j:s.heap.IsTuple l i)
  (h:∀H,IsEnum H (s.heap.objs.size+1) s.heap.objs.size 0 .none->H.IsTupleIter s.heap.objs.size l 0->(∀b o,s.heap.get? b=some o->H.get? b=some o)->Q (.ref (s.heap.objs.size+1)) { s with heap:=H }):
  wpAny (model prog w) A (call (.type "enumerate") [.ref l]) Q E s:=by
 obtain⟨⟨c,d,D,S⟩,k,a,n,e⟩:=j
 replace a:c= .type "tuple":=a
 replace e:D= .seq i n:=e
 subst a e
 refine callType_new PySem.F.called_enumerate IL (PySem.F.typeCall_enumerate_1 _) (PySem.F.newCall_enumerate_1 _) (λO=>GK O _) PySem.F.entry_enumerate_new (Xv l i n d S) #[k,?_]
 have f:(s.heap.push { cls:=.type "tuple_iterator",data:=.fields (List.toArray [.ref l,.int 0 0]) }).objs.size=s.heap.objs.size+1:=Ey ..
 show _/\_
 rw[f]
 have g:IsEnum ((s.heap.push { cls:=.type "tuple_iterator",data:=.fields (List.toArray [.ref l,.int 0 0]) }).push { cls:=.type "enumerate",data:=.fields (List.toArray [.none,.bool false,.ref s.heap.objs.size,rawInt 0,.none,.none]) }) (s.heap.objs.size+1) s.heap.objs.size 0 .none:=by
  have:=DP (s.heap.push { cls:=.type "tuple_iterator",data:=.fields (List.toArray [.ref l,.int 0 0]) }) (o:={ cls:=.type "enumerate",data:=.fields (List.toArray [.none,.bool false,.ref s.heap.objs.size,rawInt 0,.none,.none]) }) Z
  rw[f]at this;exact this
 exact#[#[_,g,Z],h _ g #[_,DI _ (DP _ Z),Z,Z] λb o x=>DI _ (DI _ x)]
theorem rR{c:Type}{Q:c->Shared->Prop}(d:A.handled=none)
  (h:∀H (e:Addr),(∀b o,s.heap.get? b=some o->H.get? b=some o)->Shared.TypeIs { s with heap:=H } (.ref e) "StopIteration"->E (.ref e) { s with heap:=H }):
  wpAny (model prog w) A (do raiseNew (<- newExc (.type "StopIteration") []):Sem c) Q E s:=by
 refine DG ?_
 simp only[newExc,newTuple]
 refine DG (En ?_ (by size_fits))
 refine DG (m:=firstArgMember _ _) (Hl (a:=Value.none) ?_ ?_)
 ·first |rfl | (simp only[firstArgMember];rfl)
 refine En ?_ (by size_fits)
 simp only[raiseNew]
 refine DG (wpAny_handled ?_)
 rw[d]
 refine DG (DH (wpAny_throw (h _ _ (λb o e=>DI _ (DI _ e)) ?_)))
 exact#[_,DP _ Z,Z]
theorem Kv{J T:Addr}{i:Nat}{I:Array Value}{Q:Value->Shared->Prop}(g:A.handled=none)(H:s.heap.IsTupleIter J T i)(j:s.heap.IsTuple T I)(l:I[i]?=none)
  (q:∀h (e:Addr),Heap.ExtBut J s.heap h->Shared.TypeIs { s with heap:=h } (.ref e) "StopIteration"->E (.ref e) { s with heap:=h }):wpAny (model prog w) A (Builtin.SmallTypes.nextOf (.ref J)) Q E s:=by
 obtain⟨o,a,p,c⟩:=id H
 obtain⟨O,d,_,N,f⟩:=j
 unfold Builtin.SmallTypes.nextOf
 refine DG (Ek (name:=Str.ofString "__next__") H.typeIs EJ (Ep EJ H.typeIs Gm (show wpAny _ _ (field (.ref J) 0 >>= _) _ _ s from ?_) (Gh _)))
 refine DG (D7 a c (x:=.ref T) Z (show wpAny _ _ (if (Value.ref T==Value.none)=true then _ else _) _ _ s from ?_))
 rw[D1 (show ¬((Value.ref T==Value.none)=true) from DR)]
 refine(show wpAny _ _ (field (.ref J) 1 >>= _) _ _ s from DG (D7 a c (x:=.int i 0) Z (show wpAny _ _ (seqItems? (.ref T) >>= _) _ _ s from DG (EB d f ?_))))
 simp only[EA,l]
 refine DG (Fy (DG (Ex a c IN ?_)))
 refine rR (by simpa using g) λh e k t=>q h e (λb o m n=>k b o ?_) t
 exact(DY _ _ (Eg m)).trans n
theorem Zk(m:A.handled=none)(a l:Addr)(d:l≠a)(I:Array Value):
  Draws prog w A a [a,l] I.size (λi v=>I[i]?=some v) (λi h=>h.IsTupleIter a l i/\h.IsTuple l I) where
 live:=λ_ _ st=>let #[o,H,_]:=st.1;#[o,H]
 frame:=λ_ _ _ st g=>#[st.1.at λo e=>g a IN o e,let #[o,H,r]:=st.2;#[o,g l IN o H,r]]
 item:=λi s Q E j st n=>Ku st.1 st.2 (x:=I[i]) (by simp [j]) λf b c=>n _ f s.toks (by simp [j]) #[b,let #[o,H,r]:=st.2;#[o,c.extBut l o d H,r]] c
 done:=λs Q E st p=>Kv m st.1 st.2 IN λf e k t=>p f e k t
theorem X8(c:A.handled=none)(a l:Addr)(I:Array Value)(i:Nat)(d:I[i]?=none):
  Draws prog w A a [a,l] i (λ_ _=>True) (λj h=>j=i/\h.IsTupleIter a l i/\h.IsTuple l I) where
 live:=λ_ _ st=>let #[o,H,_]:=st.2.1;#[o,H]
 frame:=λ_ _ _ st b=>#[st.1,st.2.1.at λo e=>b a IN o e,let #[o,H,r]:=st.2.2;#[o,b l IN o H,r]]
 item:=λj s Q E f st n=>absurd st.1 (DS f)
 done:=λs Q E st g=>Kv c st.2.1 st.2.2 d λm e k t=>g m e k t
end
noncomputable def wg(K:Frag)(a:Addr):It:=
 #[λi H=>∃X x,aA K H a X/\X[i]?=some x,λi H x h=>∃p v,x= .ref p/\H p=none/\h=af H p (.tup [.int i,v])/\∀X,aA K H a X->X[i]?=some v,λi H=>∃X,aA K H a X/\X.length<=i]
theorem X9{P:Program}{K:Frag}(a e g:Addr)(r:e≠g):lK P w K (.Tuple e0 kx tp) (wg K a) [e,g] e (λi h=>(∃O,IsEnum h e g i O)/\h.IsTupleIter g a i) where
 mem:=by simp
 obj:=λi h st b hb=>by
  obtain⟨⟨O,j⟩,⟨o,ei,c,d⟩⟩:=st
  rcases List.mem_cons.mp hb with rfl |hb
  ·exact#[_,j,λv z=>by cases (show Data.fields _=Data.cell v from z)]
  ·have q:b=g:=by simpa using hb
   subst q
   exact#[o,ei,λv z=>by rw[d]at z;cases z]
 keep:=λi h A st k=>#[let #[O,j]:=st.1;#[O,k e IN _ j],st.2.at λo q=>k g IN o q]
 item:=by
  intro X Q S T U i f s J H E I L st W
  subst Q S T
  obtain⟨⟨O,j⟩,l⟩:=st
  obtain⟨xs,x,M,N⟩:=W
  obtain⟨m,R,p,hz⟩:=I.tuple M
  obtain⟨u,hu,ru⟩:=R.get N
  have Y:e < s.heap.objs.size:=DO j
  have l0:g < s.heap.objs.size:=by obtain⟨_,q,_⟩:=l;exact DO q
  have h0:a≠g:=λz=>by rw[z]at p;obtain⟨o1,e1,c1,_⟩:=l;obtain⟨o2,B,c2,_⟩:=p;rw[e1]at B;cases B;exact absurd (c1.symm.trans c2) IL
  have h1:e∉[g,a]:=λz=>by
   rcases List.mem_cons.mp z with z |z
   ·exact r z
   ·rw[List.mem_singleton.mp z]at j;obtain⟨o2,B,c2,_⟩:=p;unfold IsEnum at j;rw[j]at B;cases B;exact absurd (show Value.type "enumerate"=Value.type "tuple" from c2) IL
  refine wpAny_pyNext_enum_itemD (Zk (by simpa using I.ok.hd U) g a h0 m.toArray) j #[l,p] (by have:=R.length;have:=(List.getElem?_eq_some_iff.mp N).1;simp;omega) r h1 λx' A t C ho y hT h4 hk=>#[_,Z,?_]
  have D:=y.1
  have ex:u=x':=by
   have h2:m.toArray[i]?=some u:=by simpa using hu
   rw[h2]at C
   exact Eo C
  subst ex
  have hn:H s.heap.objs.size=none:=I.hok.fresh (DN _)
  have I1:ao X f J H { s with heap:=A,toks:=t+1 }:=I.turnedN L λb o hb q=>hk b o (λz=>hb (by simp [z])) (λz=>hb (by simp [z])) q
  have r2:au [V.int i,x] [Value.int i t,u]:=.cons #[_,Z] (.cons ru .nil)
  have I2:ao X f J (af H s.heap.objs.size (.tup [.int i,x])) { s with heap:=A,toks:=t+1 }:=
   I1.track (I.fpOk (DN _) hn) I.sz #[by show 2<=sizeLine;decide,_,r2,_,hT,Z,_,Z]
  have F:∀b∈[e,g],eP X f (af H s.heap.objs.size (.tup [.int i,x])) b:=λb hb=>by
   obtain⟨f0,f1⟩:=L b hb
   refine#[?_,f1]
   rw[jj]
   ·exact f0
   ·rcases List.mem_cons.mp hb with rfl |hb
    ·exact DS Y
    ·have q:b=g:=by simpa using hb
     subst q
     exact DS l0
  refine wpAny_letOwnedTupleGo_enum (s:={ s with heap:=A,toks:=t+1 }) ho λG h3 n=>?_
  replace n:Heap.SameBut e A G:=n
  have I3:ao X f J (af H s.heap.objs.size (.tup [.int i,x])) { s with heap:=G,toks:=t+1 }:=I2.turnedN F λb o hb q=>(n.2 b λz=>hb (by simp [z])).trans q
  refine#[.ref s.heap.objs.size,_,I3,Z,#[_,x,Z,hn,Z,λys hy=>by rw[I.tuple_inj hy M];exact N],#[#[u,by simpa using h3],D.at λo q=>(n.2 g r.symm).trans q],λb hb=>(F b hb).1]
 done:=by
  intro X Q S T U i f s J H E I L st W
  subst Q S T
  obtain⟨⟨O,j⟩,l⟩:=st
  obtain⟨xs,M,N⟩:=W
  obtain⟨m,R,p,hz⟩:=I.tuple M
  have hl:=R.length
  refine wpAny_pyNext_enum_endD (X8 (by simpa using I.ok.hd U) g a m.toArray i (by simp;omega)) j #[Z,l,p] λA eb=>#[Z,?_]
  exact I.turnedN (t':=s.toks) L λb o hb q=>eb b o (λz=>hb (by simp [z])) q
 self:=λ_ _ _ _ _ st h=>by
  obtain⟨⟨O,j⟩,_⟩:=st
  exact wpAny_pyIter_enum j h
section
variable {X:Cx}{elts:List Expr}{kx:Nat}{tp:Pos}
def wN(K:Frag)(t:TA):TI:=λb H R=>t b H λv h=>∃a,v=[.ref a]/\(∃x,aA K h a x)/\R (wg K a) h
theorem oW(g:Gl X "enumerate")(j:X.mg "enumerate"=none)(k:PA X [a] t)(m:starEach [a] X.env=[(false,eval a X.env)]:=by rfl):PI X (.Tuple elts kx tp) (.Call (.Name "enumerate" p) [a] [] c) (wN X.K t):=by
 intro P s n H R I h
 refine Call_ (zH I g j PyProof.Rows.boot_enumerate (Ew (aO (k c P s n H _ I h) λU S z=>?_) m Z))
 obtain⟨V,o,i,u,Q⟩:=z
 obtain⟨l,e,⟨A,v⟩,q⟩:=Q
 subst e
 cases u with
 |cons r w=>
  cases w
  cases r
  obtain⟨x,B,p,C⟩:=i.tuple v
  refine X7 p λD f d y=>?_
  refine wpAny_pyIter_enum f ?_
  refine#[S.heap.objs.size+1,[S.heap.objs.size+1,S.heap.objs.size],_,_,o,Z,i.kept (t':=S.toks) y,X9 l _ _ (Ez (ET _)),#[#[_,f],d],λb hb=>?_,q]
  rcases List.mem_cons.mp hb with rfl |hb
  ·exact i.fpOk (Ff _) (i.hok.fresh (Ff _))
  ·have e:b=S.heap.objs.size:=by simpa using hb
   subst e
   exact i.fpOk (DN _) (i.hok.fresh (DN _))
end
theorem Ya{K:Frag}{xs:List V}{g:TG}{t:TS}{D:a9}(Pv:Nat->St->Hp->Prop)(j:Pv 0 b H)(k:∀i b H,i<=xs.length->Pv i b H->aA K H a xs)
  (l:∀E:a9,E.rt=D.rt->∀i x p b H,xs[i]?=some x->H p=none->(∀c e,Pv (i+1) c e->E.nx c e)->∀G:Prop,((g (.ref p) b (af H p (.tup [.int i,x])) λf n=>t E f n)->G)->Pv i b H->G) (o:∀b H,Pv xs.length b H->D.nx b H):ny (wg K a) g t D b H:=by
 refine#[λi m b H=>m=xs.length - i/\i<=xs.length/\Pv i b H,#[xs.length,IN,DX _,j],?_]
 rintro i m b H ⟨rfl,s,p⟩
 have q:=k i b H s p
 by_cases d:i < xs.length
 ·refine .inr #[#[xs,xs[i],q,DJ d],Pv (i+1),λc e P=>#[xs.length - (i+1),IM,Z,d,P],λx e y=>?_]
  obtain⟨r,v,rfl,u,rfl,w⟩:=y
  exact l { D with nx:=Pv (i+1),ct:=Pv (i+1),bk:=D.nx } Z i v r b H (w xs q) u (λ_ _ h=>h) _ (λz=>z) p
 ·exact .inl #[#[xs,q,IM],o _ _ (by rw[show xs.length=i by omega];exact p)]
end L2
namespace L2
open PySem PySem.Spec PyProof.Rows
theorem bo.m(r:bo k A)(h:j<=k:=by omega):bo j A:=r.mono h
theorem bq{N P:List Str}{s:Scope}(a:s.kind=.function:=by rfl)(b:s.isCoroutine=false:=by rfl)(c:s.isGenerator=false:=by rfl)(d:N.Nodup:=by decide +kernel)(e:N.take P.length=P:=by rfl)(f:∀x∈P,s.names.lookup x=some .local ∨ s.names.lookup x=some .cell:=by decide +kernel)(g:∀y∈s.names,y.2≠.free:=by decide +kernel):ak N P s:=#[a,b,c,d,e,f,g]
theorem nR{N:List Str}{s t:Scope}{M:List Str}{i:List Nat}(a:∀y∈t.names,y.2≠.cell:=by decide +kernel)(b:t.kind=.function:=by rfl)(c:∀y∈t.names,y.2=.local->t.names.lookup y.1=some .local:=by decide +kernel)(d:∀y∈t.names,y.2=.free->s.names.lookup y.1=some .cell:=by decide +kernel)(e:M.drop n=i.map (λi=>N.getD i Str.empty):=by decide +kernel)(f:M.length=n+i.length:=by rfl)(g:∀j∈i,t.names.lookup (N.getD j Str.empty)=some .free:=by decide +kernel):a8 N s t M n i:=#[a,b,c,d,e,f,g]
end L2
namespace K29
open PySem PySem.Spec PyProof.Rows L2
variable {P:Program}{w:World}{K:Frag}{mg:Str->Option Value}{base:Heap}
noncomputable def bE(i:Nat):Stmt:=PySem.Challenge.pw_againbook_k29_true_of_cells.main.body.getD i (.Pass #[0,0,0,0])
noncomputable abbrev yq:Stmt:=bE 53
noncomputable abbrev pG:Stmt:=bE 54
noncomputable abbrev gM:Stmt:=bE 56
def ar(p:Addr)(H h:Hp):Prop:=∀b o,b≠p->H b=some o->h b=some o
theorem ar.refl:ar p H H:=λ_ _ _ h=>h
theorem ar.trans(a:ar p H d)(b:ar p d e):ar p H e:=λc o n h=>b c o n (a c o n h)
theorem ar.of_eq{H a:Hp}(h:∀b,b≠p->a b=H b):ar p H a:=λb o n e=>by rw[h b n];exact e
theorem ar.upd_new{o:HO}(a:ar p H h)(n:h r=none):ar p H (af h r o):=λb u N e=>by
 have q:=a b u N e
 rw[jj (ji q n)];exact q
theorem ar.upd_own(a:ar p H h)(n:H r=none):ar p H (af h r o):=λb u N e=>by
 rw[jj (ji e n)];exact a b u N e
structure am(H:Hp)(p:Addr):Prop where
 ob:∃a b:Int,0<=a/\1<=b/\b<=2147483646/\H p=some (.lst [.int a,.int b])
theorem am.eq{c:Hp}(B:am H p)(e:c p=H p):am c p:=by
 refine aR λG k=>?_
 obtain⟨a,b,d,f,g,h⟩:=B.ob
 refine k ?_
 clear k
 exact#[a,b,d,f,g,by rw[e];exact h]
theorem am.upd_new{o:HO}(B:am H p)(n:H r=none):am (af H r o) p:=by
 refine aR λG k=>?_
 obtain⟨a,b,c,d,e,h⟩:=B.ob
 refine k ?_
 clear k
 exact B.eq (by rw[jj (ji h n)])
theorem am.ne(B:am H p)(n:H r=none):r≠p:=by
 refine aR λG k=>?_
 obtain⟨a,b,c,d,e,h⟩:=B.ob
 refine k ?_
 clear k
 exact Eg (ji h n)
def aN:Sp:=λv H Q _=>∃(p:Addr) (w:Int),v=[.ref p,.int w]/\am H p/\0 < w/\w<=1000000000000000000/\
 ∀(d:Int) (h:Hp),0<=d->d < w->am h p->(∀b,b≠p->h b=H b)->Q (.int d) h
def mX(K:Frag):Sp:=λv H Q _=>∃(a:Addr) (n:List Int) (k:Int),v=[.ref a,.int k]/\aC K H a (n.map V.int)/\0<=k/\k < 1000/\
 ∀(r:Addr) (h:Hp),H r=none->am h r->(∀b,b≠r->h b=H b)->Q (.ref r) h
theorem v6:(10:Int) ^ (18:Int).toNat=1000000000000000000:=by decide
theorem ZW{ns:List Int}{k:Int}(H:0<=k)(a:k < (ns.length:Int)):∃v:Int,du (ns.map V.int) k=some (.int v):=by
 have h:k.toNat < ns.length:=by omega
 have e:k=((k.toNat:Nat):Int):=by omega
 have q:du (ns.map V.int) ((k.toNat:Nat):Int)=some (.int ns[k.toNat]):=jM (by rw[D4,DJ h];rfl)
 rw[<- e]at q
 exact#[_,q]
structure Cl(P:Program)(w:World)(K:Frag)(mg:Str->Option Value)(base:Heap)(L:Nat)(f:Addr)(fd:FuncData)(ps:List Str)(sp:Sp)(py:Str):Prop where
 g:aj P w K mg base ay L f fd ps sp
 b:aw K fd ps []
 k:keepIn K (.ref f)=true
 m:mg py=some (.ref f)
theorem Cl.e{X:Cx}{e:Expr}(c:Cl X.prog X.w X.K X.mg X.base L f o q s a)(i:bo L X.A)(j:PA X (e::E) t)(l:Gl X a:=by rfl)(h:(a==("__debug__":Str))=false:=by decide)(n:starEach (e::E) X.env=(false,eval e X.env)::starEach E X.env:=by rfl)(H:(backTo d (starEach E X.env)).any (·.1)=false:=by rfl):PE X (.Call (.Name a p) (e::E) [] d) (dD s [] E0 t):=ky c.g i l c.m c.k c.b .nil bh j h n H
theorem jw{X:Cx}(h:PE X a t):PE X (.Subscript a (.Constant (.int i) j p) b) (dG (fu X.K) t (tC (.int i))):=jr kI h jf λ_ _=>Z
theorem jx{X:Cx}{p:Pos}(i:Nat)(h:X.N.Nodup)(H:PE X e t)(b:X.N[i]?=some x:=by rfl)(c:nS X.env.scope x:=by exact Or.inl Z)(d:swapsWith e (some (.Name x a)) p.line X.env=pure false:=by rfl)(f:X.fn x=true∨X.env.scope.names.lookup x=some .local:=by first |exact .inl Z |exact .inr Z |assumption):PS X (.Assign [.Name x a] e p) (dZ t (bg i)):=kO h b c H d f
theorem jp{K:Frag}{H:Hp}{Q:VK}(h:H p=some (.tup x))(a:du x n=some v)(q:Q v H)(e:b[i]?=some (some (.ref p)):=by rfl):dG (fu K) (aS i) (tC (.int n)) b H Q:=#[_,e,p,x,n,v,Z,Z,aA.of h,a,q]
theorem jX{X:Cx}(h:PE X a t):PT X (.Compare a [.Eq] [.Constant (.str x) j p] b) (il (dG AY t (tC (.str x)))):=jA qK h jk Z
theorem kL{X:Cx}(h:PE X a t):PT X (.Compare a [.Eq] [.Constant (.int x) j p] b) (il (dG AY t (tC (.int x)))):=jA qK h jf Z
theorem gQ:ak ["_law_box_here","_law_wide","_law_digit","_law_one","_law_mixed"] ["_law_box_here","_law_wide"] (aa pG):=bq
theorem tO(F:aJ K "_law_take" "_law_take" pG f x):aj P w K mg base ay 1 f x ["_law_box_here","_law_wide"] aN:=by
 refine F.ok gQ ?_ λC A O s H V Q E z h=>?_
 ·rintro _ _ _ _ ⟨p,w,rfl,_⟩
  rfl
 refine aR λG k=>?_
 obtain⟨p,W,rfl,B,d,g,q⟩:=h
 refine k ?_
 clear k
 refine aR λG k=>?_
 obtain⟨a,b,l,i,j,e⟩:=B.ob
 refine k ?_
 clear k
 refine#[_,jd (jv (jA qL (jr jo (pv 0) jf (λ_ _=>Z)) jf (aD _))
   (jd (jx 2 gQ.nd (ju kX (jr jo (pv 0) jf (λ_ _=>Z)) (pv 1)))
   (jd (kN (ju Ki (jr jo (pv 0) jf (λ_ _=>Z)) (pv 1)) (zS (pv 0) jf kU))
   (jg (jl (pv 2))))) jm)
  (jd (jx 3 gQ.nd (ju kX (ju zj (jr jo (pv 0) jf (λ_ _=>Z)) jf) jf))
  (jd (kN (ju jV (ju kX (ju jV (ju zj (pv 3) jf) jf) jf) jf) (zS (pv 0) jf kU))
  (jd (jx 4 gQ.nd (ju Ki (ju jV (ju zj (pv 3) jf) (jr jo (pv 0) jf (λ_ _=>Z))) jf))
  (jd (jv (jA qL (pv 1) (ju Qv jf jf) (aD _)) (jg (jx 4 gQ.nd (ju zj (pv 4) (pv 4)))) jm)
  (jg (jl (ju kX (pv 4) (pv 1)))))))),?_]
 refine#[_,Z,p,_,_,_,Z,Z,aC.of e,Z,_,_,Z,Z,_,Z,?_]
 refine bu (λc=>?_) (λc=>?_)
 ·have D:(0:Int) < a:=EQ c
  refine#[_,Z,p,_,_,_,Z,Z,aC.of e,Z,_,Z,_,_,Z,Z,d,?_]
  refine#[_,Z,p,_,_,_,Z,Z,aC.of e,Z,_,Z,_,_,Z,Z,#[d,g],_,Z,p,_,_,0,Z,Z,e,Z,_,Z,?_]
  refine q (a % W) _ (ED _ IM) (Es _ d) #[a / W,b,Int.ediv_nonneg l IM,i,j,jc] λb n=>jj n
 ·have I:0<=b*69621 % 2147483647:=ED _ IL
  have J:b*69621 % 2147483647 < 2147483647:=Es _ IL
  refine#[_,Z,p,_,_,_,Z,Z,aC.of e,Z,_,_,Z,Z,.inr #[IL,IL],_,_,Z,Z,(by show(0:Int) < 2147483647;decide),?_]
  refine#[_,Z,_,_,Z,Z,.inr #[IL,IL],_,_,Z,Z,_,_,Z,Z,(by show(0:Int) < 2147483646;decide),_,_,Z,Z,_,Z,p,_,_,1,Z,Z,e,Z,?_]
  generalize m:b*69621 % 2147483647=o at*
  have N:0<=(o*48271+30103) % 2147483646:=ED _ IL
  have L:(o*48271+30103) % 2147483646 < 2147483646:=Es _ IL
  generalize r:(o*48271+30103) % 2147483646=t at*
  refine#[_,Z,_,_,Z,Z,.inr #[IL,IL],_,Z,p,_,_,_,Z,Z,aC.of jc,Z,_,_,Z,Z,_,_,Z,Z,#[IL,IL],?_]
  have X:0<=(o*2147483647+(t+1)) / 8191:=by omega
  have R:(o*2147483647+(t+1)) / 8191 < 18446744073709551616:=by omega
  generalize u:(o*2147483647+(t+1)) / 8191=M at*
  refine#[_,Z,_,_,Z,Z,#[IL,IL,IL],_,_,Z,Z,_,Z,?_]
  have v:am (af H p (.lst [.int a,.int (t+1)])) p:=#[a,t+1,l,IM,IM,jc]
  refine bu (λy=>?_) (λy=>?_)
  ·refine#[_,Z,_,Z,_,_,Z,Z,.inl #[IM,IM],?_]
   refine#[_,Z,_,Z,_,_,Z,Z,d,?_]
   exact q _ _ (ED _ IM) (Es _ d) v λb n=>jj n
  ·refine#[_,Z,_,Z,_,_,Z,Z,d,?_]
   exact q _ _ (ED _ IM) (Es _ d) v λb n=>jj n
theorem i7:ak ["_law_script","_law_k","_law_cell","_law_seed"] ["_law_script","_law_k"] (aa yq):=bq
theorem xz(F:aJ K "_law_box" "_law_box" yq f I)(m:mg "len"=none)(M:mg "int"=none):aj P w K mg base ay 1 f I ["_law_script","_law_k"] (mX K):=by
 refine F.ok i7 ?_ λJ A o s H W Q E X h=>?_
 ·rintro _ _ _ _ ⟨a,ns,k,rfl,_⟩
  rfl
 refine aR λY t=>?_
 obtain⟨a,ns,k,rfl,d,i,L,q⟩:=h
 refine t ?_
 clear t
 refine#[_,jd (jx 2 i7.nd (ju jV (ju zj jf (pv 1)) jf))
  (jd (jv (jA Jv (pv 1) (jO jK Z m EX (ja (pv 0) jb)) (aD _))
   (jg (jx 2 i7.nd (jr jo (pv 0) (pv 1) (λ_ _=>Z))))
   (jg (jv (jA qL (jO jK Z m EX (ja (pv 0) jb)) jf (aD _))
    (jg (jx 2 i7.nd (ju jV (pv 2) (ju zj (ju kX (jr jo (pv 0) (ju kX (pv 1) (jO jK Z m EX (ja (pv 0) jb))) (λ_ _=>Z)) jf) jf)))) jm)))
  (jd (jx 3 i7.nd (ju jV (ju kX (ju jV (ju zj (ju kX (pv 2) jf) jf) (ju zj jf (pv 1))) jf) jf))
  (jg (jl (jC (ja (ju zj (pv 2) (jz Jp Z M boot_int (ja (qP ZF (pv 2) (ju Qv jf jf) (aD _)) jb))) (ja (pv 3) jb))))))),?_]
 have e:(ns.map V.int).length=ns.length:=DK _
 have T:∀c:Int,∃v:V,∃x:Int,v= .int x/\1<=x/\x<=2147483646/\v= .int ((c % 2147483629*48271+40692*k) % 2147483646+1):=λc=>by
  have N:0<=(c % 2147483629*48271+40692*k) % 2147483646:=ED _ IL
  have O:(c % 2147483629*48271+40692*k) % 2147483646 < 2147483646:=Es _ IL
  exact#[_,_,Z,IM,IM,Z]
 have j:∀(c:Int) (r:Addr),H r=none->Q (.ref r) (af H r (.lst [.int (c*(if decide ((10:Int) ^ (18:Int).toNat<=c)=true then 1 else 0)),.int ((c % 2147483629*48271+40692*k) % 2147483646+1)])):=λc r R=>by
  refine q r _ R #[_,_,?_,?_,?_,jc] λb n=>jj n
  ·rw[v6]
   by_cases h:(1000000000000000000:Int)<=c
   ·rw[Ea h,D0 Z];omega
   ·rw[DU h,D1 DR];omega
  ·have N:0<=(c % 2147483629*48271+40692*k) % 2147483646:=ED _ IL
   omega
  ·have O:(c % 2147483629*48271+40692*k) % 2147483646 < 2147483646:=Es _ IL
   omega
 have B:∀c:Int,rY c (if decide ((10:Int) ^ (18:Int).toNat<=c)=true then 1 else 0):=λc=>.inr (by split<;>decide)
 refine ah λF0 u=>#[_,Z,_,_,Z,Z,.inl #[IL,IL],_,_,Z,Z,u _ _ ?_]
 clear u
 refine ah λS y=>?_
 have l:∀c:Int,S [some (.ref a),some (.int k),some (.int c),none] H:=λc=>y _ _ (ah λF2 U=>#[_,Z,_,_,Z,Z,(by show(0:Int) < 2147483629;decide),_,_,Z,Z,.inr #[IL,IL],_,Z,_,_,Z,Z,.inl #[IL,IL],_,_,Z,Z,_,_,Z,Z,(by show(0:Int) < 2147483646;decide),_,_,Z,Z,U _ _ (#[_,Z,_,Z,_,_,Z,Z,#[IL,IL,IL],_,_,Z,Z,.inr #[_,Z,_,_,Z,Z,B c,_,Z,bn,j c]])])
 clear y
 refine mv λG g=>#[_,Z,_,Z,a,_,Z,.inl d,_,_,Z,Z,_,Z,g _ _ ?_]
 clear g
 refine bu (λc=>?_) (λc=>?_)
 ·have C:k < (((ns.map V.int).length:Nat):Int):=EQ c
  rw[e]at C
  obtain⟨v,p⟩:=ZW (ns:=ns) i C
  exact#[_,Z,_,Z,a,_,_,_,Z,Z,d,p,l v]
 ·have C:¬k < (((ns.map V.int).length:Nat):Int):=GJ (Bool.eq_false_iff.mpr c)
  rw[e]at C
  refine mv λG g=>#[_,Z,a,_,Z,.inl d,_,_,Z,Z,_,Z,g _ _ ?_]
  clear g
  refine bu (λz=>?_) (λz=>?_)
  ·have D:(0:Int) < (((ns.map V.int).length:Nat):Int):=EQ z
   obtain⟨v,p⟩:=ZW (ns:=ns) (k:=k % (((ns.map V.int).length:Nat):Int)) (ED _ IM) (by have:=Es k D;rw[e]at this;rw[e];exact this)
   exact#[_,Z,_,Z,_,Z,_,Z,a,_,Z,.inl d,_,_,Z,Z,D,a,_,_,_,Z,Z,d,p,_,_,Z,Z,(by show(0:Int) < 2147483629;decide),_,_,Z,Z,.inr #[IL,IL],_,_,Z,Z,l _]
  ·exact l _
theorem lY(i j:Str):(i++j).length=i.length+j.length:=by
 show(i.cps++j.cps).size=i.cps.size+j.cps.size
 exact Ia
theorem zr:1000000<=sizeLine:=by rw[HS];decide
theorem ap{H:Hp}{o:HO}(h:H b=some u)(n:H r=none):af H r o b=some u:=by rw[jj (ji h n)];exact h
theorem ZX{z:Str}{k:Int}(H:0<=k)(a:k < (z.length:Int)):∃c:Nat,du z.cps.toList k=some c:=by
 have b:z.cps.toList.length=z.length:=D6
 have h:k.toNat < z.cps.toList.length:=by omega
 have e:k=((k.toNat:Nat):Int):=by omega
 have q:du z.cps.toList ((k.toNat:Nat):Int)=some z.cps.toList[k.toNat]:=jM (DJ h)
 rw[<- e]at q
 exact#[_,q]
theorem Jk{ys:List Str}{k:Int}(H:0<=k)(a:k < (ys.length:Int)):∃y∈ys,du (ys.map V.str) k=some (.str y):=by
 have h:k.toNat < ys.length:=by omega
 have e:k=((k.toNat:Nat):Int):=by omega
 have q:du (ys.map V.str) ((k.toNat:Nat):Int)=some (.str ys[k.toNat]):=jM (by rw[D4,DJ h];rfl)
 rw[<- e]at q
 exact#[_,FJ h,q]
noncomputable def aX(s:List Str)(lo h:Option Int):List Str:=(s.drop (HT.sIx s.length 0 lo)).take (HT.sIx s.length s.length h - HT.sIx s.length 0 lo)
theorem zu(s:List Str)(lo h:Option Int):aK (s.map V.str) lo h=(aX s lo h).map V.str:=by
 unfold aK aX
 rw[DK,GU,List.map_drop]
theorem zM{lo:Option Int}(h:y∈aX s lo H):y∈s:=List.mem_of_mem_drop (EC h)
theorem qk(s:List Str)(lo h:Option Int):(aX s lo h).length<=s.length:=by
 unfold aX
 rw[Ec,Fp]
 omega
theorem qR:∀{ys:List Str},(∀y∈ys,y.length<=1)->(ys.map (·.length)).sum<=ys.length
 | [],_=>DN _
 |y::r,h=>by
  have a:=h y D3
  have b:=qR (ys:=r) λz H=>h z (D9 _ H)
  rw[ES,List.sum_cons,El]
  omega
theorem qS{z:Str}{ys:List Str}(H:z.length=0)(h:∀y∈ys,y.length<=1):(Txt.join z ys).length<=ys.length:=by
 show(Builtin.Str.glued z ys).length<=_
 rw[size_glued,H,Nat.mul_zero,Nat.add_zero]
 exact qR h
noncomputable def cV:Str:="abcdefghijklmnopqrstuvwxyz"
theorem JF:cV.length=26:=by decide+kernel
noncomputable def nH(d:Int)(k:Nat):Nat:=97+((d+5*(0+(k:Int))) % 26).toNat
theorem sT(H:i < 20)(a:j < 20)(h:nH d i=nH d j):i=j:=by
 unfold nH at h
 omega
theorem wW(H:0<=k)(a:k < 26)(h:du cV.cps.toList k=some c):c=97+k.toNat:=by
 have q:∀m:Fin 26,du cV.cps.toList (m.val:Int)=some (97+m.val):=by decide+kernel
 have e:=q #[k.toNat,IM]
 have E:((k.toNat:Nat):Int)=k:=by omega
 dsimp only at e
 rw[E,h]at e
 injection e
def Sh(A S:Str)(d:Int)(c:Nat)(w:Str):Prop:=if d=2 then ∃R:Str,w=R++#[(List.toArray [c])] else w=A++#[(List.toArray [c])]++S∨w=A++#[(List.toArray [c])]++S++"z"∨w="qqqqqqq"++#[(List.toArray [c])]
theorem kB(a b:Str):(a++b).cps.toList=a.cps.toList++b.cps.toList:=by
 show(a.cps++b.cps).toList=_
 exact Array.toList_append
theorem Q9{R:Str}(h:R++(#[(List.toArray [c])]:Str)=r++#[(List.toArray [C])]):c=C:=by
 have e:=EO (Array.toList ∘ Str.cps) h
 have e:(R++(#[(List.toArray [c])]:Str)).cps.toList=(r++(#[(List.toArray [C])]:Str)).cps.toList:=e
 rw[kB,kB]at e
 have:=List.append_inj_right' e Z
 injection this
theorem sU{S:Str}(h:A++(#[(List.toArray [c])]:Str)++S=A++#[(List.toArray [C])]++S):c=C:=by
 have e:=EO (Array.toList ∘ Str.cps) h
 have e:(A++(#[(List.toArray [c])]:Str)++S).cps.toList=(A++(#[(List.toArray [C])]:Str)++S).cps.toList:=e
 rw[kB,kB,kB,kB]at e
 have:=IJ (GV e)
 injection this
theorem A8{A S : Str}{d : Int}{c C : Nat}{w : Str}(i : A.length + S.length <= 5)(h : Sh A S d c w)(H : Sh A S d C w) : c = C := by
  unfold Sh at h H
  have l : ∀ c : Nat, (#[(List.toArray [c])] : Str).length = 1 :=λ_ => Z
  have L : (Str.ofString "z").length = 1 := by decide +kernel
  have f : (Str.ofString "qqqqqqq").length = 7 := by decide +kernel
  split at h
  · rename_i a
    rw [D0 a] at H
    obtain ⟨R, rfl⟩ := h
    obtain ⟨r, e⟩ := H
    exact Q9 e
  · rename_i a
    rw [D1 a] at H
    rcases h with rfl | rfl | rfl <;> rcases H with e | e | e
    · exact sU e
    all_goals first
      | exact Q9 e
      | (have g := EO Str.length e
         simp only [lY, l, L, f] at g
         omega)
      | skip
    have E := EO (Array.toList ∘ Str.cps) e
    have E : (A ++ (#[(List.toArray [c])] : Str) ++ S ++ ("z" : Str)).cps.toList = (A ++ (#[(List.toArray [C])] : Str) ++ S ++ ("z" : Str)).cps.toList := E
    rw [kB, kB (A ++ _ ++ S)] at E
    have b := GV E
    rw [kB, kB, kB, kB] at b
    have := IJ (GV b)
    injection this
theorem Xa{y:List Str}:y.Nodup↔∀i j:Nat,i < j->j < y.length->y[i]?≠y[j]?:=by
 unfold List.Nodup
 rw[List.pairwise_iff_getElem]
 refine#[λh i j H a e=>?_,λh i j b a H e=>h i j H a ?_]
 ·rw[DJ (by omega:i < y.length),DJ a]at e
  injection e with e
  exact h i j IM a H e
 ·rw[DJ b,DJ a,e]
theorem p7{A S:Str}{d D:Int}{Y:List Str}(b:A.length+S.length<=5)(g:Y.length<=20)(h:∀j y,Y[j]?=some y->Sh A S D (nH d j) y):Y.Nodup:=by
 rw[Xa]
 intro i j c H e
 have a:=h i _ (DJ (by omega:i < Y.length))
 have f:=h j _ (DJ H)
 rw[DJ (by omega:i < Y.length),DJ H]at e
 injection e with e
 rw[e]at a
 have:=sT IM IM (A8 b a f)
 omega
theorem Zl{y:List Str}(h:y.Nodup)(b:a∉y):(y.set n a).Nodup:=by
 rw[Xa]at h ⊢
 intro i j H c e
 rw[Hr]at c
 by_cases d:n=i
 ·rw[d,Gs IM,FE IM]at e
  exact b (D5 e.symm)
 ·by_cases f:n=j
  ·rw[f,Gs IM,FE IM]at e
   exact b (D5 e)
  ·rw[FE d,FE f]at e
   exact h i j H c e
theorem tj{y:List Str}(h:mx (.str a) (y.map V.str)=false):a∉y:=λm=>by
 unfold mx at h
 rw[List.any_eq_false]at h
 exact h (.str a) (List.mem_map.mpr #[a,m,Z]) (by simp [lE])
theorem sH{ss:List Str}{d1 d2:Int}(h:ss.length=(1+d1).toNat)(a:0<=d2)(b:d2 < 1+d1):(aX ss none (some d2)).length+(aX ss (some (d2+1)) none).length<=d1.toNat:=by
 obtain⟨k,rfl⟩:∃k:Nat,d2=k:=#[d2.toNat,(Int.toNat_of_nonneg a).symm]
 obtain⟨n,rfl⟩:∃n:Nat,d1=n:=#[d1.toNat,(Int.toNat_of_nonneg IM).symm]
 have H:k<=n:=by omega
 have h:ss.length=n+1:=by rw[h];omega
 clear a b
 unfold aX
 rw[show((k:Int)+1)=((k+1:Nat):Int) from Z,HT.sIx_nat,HT.sIx_nat,Ec,Ec,Fp,h,Gc (Fd H),Gc (Nat.le_succ_of_le H)]
 refine DV (Nat.add_le_add (Ii _ _) (Ii _ _)) ?_
 show k - 0+(n+1 - (k+1))<=n
 rw[HW,Nat.add_sub_add_right,Nat.add_sub_cancel' H]
 exact DN _
theorem CJ{S:Str}:Sh A S d c ("qqqqqqq"++#[(List.toArray [c])]):=by
 unfold Sh
 split
 ·exact#[_,Z]
 ·exact .inr (.inr Z)
theorem CL{A S:Str}{d:Int}{c:Nat}{w:Str}(h:if d=2 then ∃R:Str,w=R++#[(List.toArray [c])] else w=A++#[(List.toArray [c])]++S∨w=A++#[(List.toArray [c])]++S++"z"):Sh A S d c w:=by
 unfold Sh
 split at h
 ·rename_i e;rw[D0 e];exact h
 ·rename_i e;rw[D1 e];exact h.elim .inl λz=>.inr (.inl z)
noncomputable def pre(s:List Str)(d:Int):Str:=Txt.join "" (aX s none (some d))
noncomputable def eM(s:List Str)(d:Int):Str:=Txt.join "" (aX s (some (d+1)) none)
def fi:Sp:=λv H Q _=>∃(p:Addr) (n:Int),v=[.ref p,.int n]/\am H p/\1<=n/\n<=20/\
 ∀(r:Addr) (Y:List Str) (h:Hp),H r=none->h r=some (.lst (Y.map V.str))->(Y.length:Int)=n->(∀y∈Y,y.length<=20)/\Y.Nodup->am h p->ar p H h->Q (.ref r) h
theorem aT:ak ["_law_box_here","_law_total","_law_letters","_law_wide","_law_spot_here","_law_signs","_law_first","_law_form","_law_found","_law_k","_law_one","_law_word","_law_some","_law_odd"] ["_law_box_here","_law_total"] (aa gM):=bq
noncomputable def KR:Scope:=#[.function,[(".0",.local),("_law_k",.local),("_law_take",.globalImplicit),("_law_box_here",.free),("_law_letters",.free)],false,false,[]]
theorem Yb:(["_law_k","_law_box_here","_law_letters"]:List Str).Nodup:=by decide+kernel
theorem Yc:a8 ["_law_box_here","_law_total","_law_letters","_law_wide","_law_spot_here","_law_signs","_law_first","_law_form","_law_found","_law_k","_law_one","_law_word","_law_some","_law_odd"] (aa gM) KR ["_law_k","_law_box_here","_law_letters"] 1 [0,2]:=nR
noncomputable def KS:Scope:=#[.function,[(".0",.local),("_law_j",.local),("_law_take",.globalImplicit),("_law_box_here",.free),("_law_letters",.free)],false,false,[]]
theorem Yd:(["_law_j","_law_box_here","_law_letters"]:List Str).Nodup:=by decide+kernel
theorem Ye:a8 ["_law_box_here","_law_total","_law_letters","_law_wide","_law_spot_here","_law_signs","_law_first","_law_form","_law_found","_law_k","_law_one","_law_word","_law_some","_law_odd"] (aa gM) KS ["_law_j","_law_box_here","_law_letters"] 1 [0,2]:=nR
theorem Jg{p:Addr}{Q:List V->Hp->Prop}(o:n<=20)(B:am f p)
  (q:∀(S:List Str) (H:Hp),S.length=n->(∀s∈S,s.length<=1)->am H p->(∀b,b≠p->H b=f b)->Q (S.map V.str) H):
  eO (sg 0 n) 1 [some (.ref p),some (.str cV)] (bg 0) lh (dG yk (aS 2) (dD aN [] E0 (al (aS 1) (al (tC (.int 26)) aI)))) Q f:=by
 refine qm (λi y H=>∃S:List Str,y=S.map V.str/\S.length=i/\(∀s∈S,s.length<=1)/\am H p/\∀b,b≠p->H b=f b)
  #[[],Z,Z,(λ_ h=>nomatch h),B,λ_ _=>Z] (DV o IL) (λi y H #[S,e,l,_]=>by rw[e,DK,l];exact DN _) ?_ ?_
 ·intro i y H x a
  refine aR λG k=>?_
  obtain⟨S,rfl,g,j,m,E⟩:=a
  refine k ?_
  clear k
  refine#[_,Z,_,Z,p,26,Z,m,IL,IL,λd A D r t u=>?_]
  obtain⟨c,v⟩:=ZX (z:=cV) D (by rw[JF];exact r)
  refine#[_,_,c,Z,Z,IL,v,S++[#[(List.toArray [c])]],by rw[Ef];rfl,by rw[DM,g];rfl,λs hs=>?_,t,λb N=>(u b N).trans (E b N)]
  rcases List.mem_append.mp hs with hs |hs
  ·exact j s hs
  ·rw[List.mem_singleton.mp hs];exact DN 1
 ·intro y H a
  refine aR λG k=>?_
  obtain⟨S,rfl,g,j,m,E⟩:=a
  refine k ?_
  clear k
  exact q S H g j m E
def Rw(p g r:Addr)(n d D b e:Int)(i c:Nat)(s y:List Str)(H:Hp)(L:Nat)(Z:Str->Prop):L2.St->Hp->Prop:=λa h=>∃W:Str,(W.length<=L/\Z W)/\
 a=[some (.ref p),some (.int n),some (.str cV),some (.int (1+d)),some (.int D),some (.ref g),some (.int b),some (.int e),some (.ref r),some (.int (0+(i:Int))),some (.str #[(List.toArray [c])]),some (.str W),none,none]/\
 h g=some (.lst (s.map V.str))/\h r=some (.lst (y.map V.str))/\am h p/\ar p H h
def Rf(p r:Addr)(n:Int)(H:Hp):L2.St->Hp->Prop:=λa h=>a[8]?=some (some (.ref r))/\∃Y:List Str,h r=some (.lst (Y.map V.str))/\(Y.length:Int)=n/\((∀y∈Y,y.length<=20)/\Y.Nodup)/\am h p/\ar p H h
theorem Qo(Y:List Str):(Y.map V.str).all cg=true:=by
 rw[List.all_eq_true]
 intro v h
 obtain⟨y,_,rfl⟩:=List.mem_map.mp h
 rfl
theorem pY(Y:List Str)(j:Nat)(y:Str):(Y.map V.str).set j (V.str y)=(Y.set j y).map V.str:=(List.map_set ..).symm
inductive NI(p g r:Addr)(n d1 d2 d4 d5:Int)(ss:List Str)(H:Hp)(i:Nat)(σ:L2.St)(H':Hp):Prop
 |mk (ok oo ow:Option V) (ys:List Str) (e0:σ=[some (.ref p),some (.int n),some (.str cV),some (.int (1+d1)),some (.int d2),some (.ref g),some (.int d4),some (.int d5),some (.ref r),ok,oo,ow,none,none]) (e1:H' g=some (.lst (ss.map V.str))) (e2:H' r=some (.lst (ys.map V.str))) (e3:ys.length=i) (e4:(∀y∈ys,y.length<=20)/\∀j y,ys[j]?=some y->Sh (pre ss d2) (eM ss d2) d5 (nH d4 j) y) (e5:am H' p) (e6:ar p H H'):NI p g r n d1 d2 d4 d5 ss H i σ H'
theorem oK(F:aJ K "_law_names" "_law_names" gM f fd)(GT:aj P w K mg base ay 1 fT f4 ["_law_box_here","_law_wide"] aN)(x:aw K f4 ["_law_box_here","_law_wide"] [])(C:keepIn K (.ref fT)=true)
  (M:mg "_law_take"=some (.ref fT)) (mr:mg "range"=none):aj P w K mg base ay 2 f fd ["_law_box_here","_law_total"] fi:=by
 refine F.ok aT ?_ λc1 A o1 s H vs Q E D h=>?_
 ·rintro _ _ _ _ ⟨p,n,rfl,_⟩
  rfl
 refine aR λGq T=>?_
 obtain⟨p,n,rfl,B,a3,a4,q⟩:=h
 refine T ?_
 clear T
 refine#[_,(@jd _ _ _ _ _ (@kO _ _ (2) _ _ _ _ aT.nd Z (Or.inr Z) (@jk _ _ _ _) IQ (.inl Z)) (@jd _ _ _ _ _ (@kO _ _ (3) _ _ _ _ aT.nd Z (Or.inl Z) (@ju _ _ _ _ _ _ _ _ jV (@jf _ _ _ _) (@ky _ _ _ _ _ _ _ _ _ _ _ _ _ _ _ _ GT D Z M C x .nil bh (@ja _ _ _ _ _ (@pv _ 0 _ _ IQ (.inr (.inl Z)) IL IL) (@ja _ _ _ _ _ (@jf _ _ _ _) (@jb _) IQ) IQ) IL IQ IQ)) IQ (.inl Z)) (@jd _ _ _ _ _ (@kO _ _ (4) _ _ _ _ aT.nd Z (Or.inl Z) (@ky _ _ _ _ _ _ _ _ _ _ _ _ _ _ _ _ GT D Z M C x .nil bh (@ja _ _ _ _ _ (@pv _ 0 _ _ IQ (.inr (.inl Z)) IL IL) (@ja _ _ _ _ _ (@pv _ 3 _ _ IQ (.inl Z) IL IL) (@jb _) IQ) IQ) IL IQ IQ) IQ (.inl Z)) (@jd _ _ _ _ _ (@Yx _ _ _ _ _ _ _ _ _ _ (5) (["_law_k","_law_box_here","_law_letters"]) (1) ([0,2]) _ _ _ _ aT.nd Z (Or.inl Z) Z (@j3 _ _ _ _ _ _ Z mr (@ja _ _ _ _ _ (@pv _ 3 _ _ IQ (by first |exact Or.inl Z |exact Or.inr (Or.inl Z) |exact Or.inr (Or.inr Z)) IL IL) (@jb _) IQ) IQ) Yc (λ_ _ _ _ _=>(@js _ _ (0) _ Yb Z (Or.inl Z) (by first |exact .inl Z |exact .inr Z))) (λ_ _ _ _ _=>(@zn _)) (λ_ _ _ _ _=>(@jr _ _ _ _ _ _ _ J9 (@pv _ 2 _ _ IQ (by first |exact Or.inl Z |exact Or.inr (Or.inl Z) |exact Or.inr (Or.inr Z)) IL IL) (@ky _ _ _ _ _ _ _ _ _ _ _ _ _ _ _ _ GT D Z M C x .nil bh (@ja _ _ _ _ _ (@pv _ 1 _ _ IQ (by first |exact Or.inl Z |exact Or.inr (Or.inl Z) |exact Or.inr (Or.inr Z)) IL IL) (@ja _ _ _ _ _ (@jf _ _ _ _) (@jb _) IQ) IQ) IL IQ IQ) (λ_ _=>Z))) IQ (by first |exact .inl Z |exact .inr Z) (by intro _;rfl)) (@jd _ _ _ _ _ (@kO _ _ (6) _ _ _ _ aT.nd Z (Or.inl Z) (@ky _ _ _ _ _ _ _ _ _ _ _ _ _ _ _ _ GT D Z M C x .nil bh (@ja _ _ _ _ _ (@pv _ 0 _ _ IQ (.inr (.inl Z)) IL IL) (@ja _ _ _ _ _ (@jf _ _ _ _) (@jb _) IQ) IQ) IL IQ IQ) IQ (.inl Z)) (@jd _ _ _ _ _ (@kO _ _ (7) _ _ _ _ aT.nd Z (Or.inl Z) (@ky _ _ _ _ _ _ _ _ _ _ _ _ _ _ _ _ GT D Z M C x .nil bh (@ja _ _ _ _ _ (@pv _ 0 _ _ IQ (.inr (.inl Z)) IL IL) (@ja _ _ _ _ _ (@jf _ _ _ _) (@jb _) IQ) IQ) IL IQ IQ) IQ (.inl Z)) (@jd _ _ _ _ _ (@kO _ _ (8) _ _ _ _ aT.nd Z (Or.inl Z) (@jC _ _ _ _ (@jb _)) IQ (.inl Z)) (@jd _ _ _ _ _ (@j6 _ _ _ _ _ _ _ _ Ej Z (@j3 _ _ _ _ _ _ Z mr (@ja _ _ _ _ _ (@pv _ 1 _ _ IQ (.inl Z) IL IL) (@jb _) IQ) IQ) (@js _ _ (9) _ aT.nd Z (Or.inl Z) (.inl Z)) (@jd _ _ _ _ _ (@kO _ _ (10) _ _ _ _ aT.nd Z (Or.inl Z) (@jr _ _ _ _ _ _ _ J9 (@pv _ 2 _ _ IQ (.inr (.inl Z)) IL IL) (@ju _ _ _ _ _ _ _ _ kX (@ju _ _ _ _ _ _ _ _ jV (@pv _ 6 _ _ IQ (.inl Z) IL IL) (@ju _ _ _ _ _ _ _ _ zj (@jf _ _ _ _) (@pv _ 9 _ _ IQ (.inl Z) IL IL))) (@jf _ _ _ _)) (λ_ _=>Z)) IQ (.inl Z)) (@jd _ _ _ _ _ (@jW _ _ _ (@kO _ _ (11) _ _ _ _ aT.nd Z (Or.inl Z) (@ju _ _ _ _ _ _ _ _ zB (@ju _ _ _ _ _ _ _ _ zB (@kK _ _ _ _ _ _ _ _ _ _ _ _ He Hv Hu QG (@jk _ _ _ _) (@ja _ _ _ _ _ (@jH _ _ _ _ _ _ _ _ _ _ kf (@pv _ 5 _ _ IQ (.inl Z) IL IL) (@ke _) (@jE _ _ _ (@pv _ 4 _ _ IQ (.inl Z) IL IL))) (@jb _) IQ) IQ IQ IQ IQ IQ) (@pv _ 10 _ _ IQ (.inl Z) IL IL)) (@kK _ _ _ _ _ _ _ _ _ _ _ _ He Hv Hu QG (@jk _ _ _ _) (@ja _ _ _ _ _ (@jH _ _ _ _ _ _ _ _ _ _ kf (@pv _ 5 _ _ IQ (.inl Z) IL IL) (@jE _ _ _ (@ju _ _ _ _ _ _ _ _ jV (@pv _ 4 _ _ IQ (.inl Z) IL IL) (@jf _ _ _ _))) (@ke _)) (@jb _) IQ) IQ IQ IQ IQ IQ)) IQ (.inl Z))) (@jd _ _ _ _ _ (@jW _ _ _ (@jv _ _ _ _ _ _ _ _ (@PW.pt _ _ _ (@qf _ _ _ _ _ _ _ (kL (@pv _ 7 _ _ IQ (.inl Z) IL IL)) (@zD _ _ _ _ (kL (@ju _ _ _ _ _ _ _ _ kX (@pv _ 9 _ _ IQ (.inl Z) IL IL) (@jf _ _ _ _)))))) (@jg _ _ _ (@kO _ _ (11) _ _ _ _ aT.nd Z (Or.inl Z) (@ju _ _ _ _ _ _ _ _ zB (@pv _ 11 _ _ IQ (.inl Z) IL IL) (@jk _ _ _ _)) IQ (.inl Z))) (@jm _))) (@jd _ _ _ _ _ (@jW _ _ _ (@jv _ _ _ _ _ _ _ _ (kL (@pv _ 7 _ _ IQ (.inl Z) IL IL)) (@jg _ _ _ (@kO _ _ (11) _ _ _ _ aT.nd Z (Or.inl Z) (@ju _ _ _ _ _ _ _ _ zB (@kK _ _ _ _ _ _ _ _ _ _ _ _ He Hv Hu QG (@jk _ _ _ _) (@ja _ _ _ _ _ (@za _ _ _ _ _ _ _ (["_law_j","_law_box_here","_law_letters"]) (1) ([0,2]) _ _ _ _ Z (@j3 _ _ _ _ _ _ Z mr (@ja _ _ _ _ _ (@ky _ _ _ _ _ _ _ _ _ _ _ _ _ _ _ _ GT D Z M C x .nil bh (@ja _ _ _ _ _ (@pv _ 0 _ _ IQ (by first |exact Or.inl Z |exact Or.inr (Or.inl Z) |exact Or.inr (Or.inr Z)) IL IL) (@ja _ _ _ _ _ (@jf _ _ _ _) (@jb _) IQ) IQ) IL IQ IQ) (@jb _) IQ) IQ) Ye (λ_ _ _ _ _=>(@js _ _ (0) _ Yd Z (Or.inl Z) (by first |exact .inl Z |exact .inr Z))) (λ_ _ _ _ _=>(@zn _)) (λ_ _ _ _ _=>(@jr _ _ _ _ _ _ _ J9 (@pv _ 2 _ _ IQ (by first |exact Or.inl Z |exact Or.inr (Or.inl Z) |exact Or.inr (Or.inr Z)) IL IL) (@ky _ _ _ _ _ _ _ _ _ _ _ _ _ _ _ _ GT D Z M C x .nil bh (@ja _ _ _ _ _ (@pv _ 1 _ _ IQ (by first |exact Or.inl Z |exact Or.inr (Or.inl Z) |exact Or.inr (Or.inr Z)) IL IL) (@ja _ _ _ _ _ (@jf _ _ _ _) (@jb _) IQ) IQ) IL IQ IQ) (λ_ _=>Z))) (by intro _;rfl)) (@jb _) IQ) IQ IQ IQ IQ IQ) (@pv _ 10 _ _ IQ (.inl Z) IL IL)) IQ (.inl Z))) (@jm _))) (@jd _ _ _ _ _ (@jW _ _ _ (@jv _ _ _ _ _ _ _ _ (@jA _ _ _ _ _ _ _ _ zh (@pv _ 11 _ _ IQ (.inl Z) IL IL) (@jh _ _ _ _ _ (@QH _ _ IQ)) Z) (@jg _ _ _ (@kO _ _ (11) _ _ _ _ aT.nd Z (Or.inl Z) (@ju _ _ _ _ _ _ _ _ zB (@jk _ _ _ _) (@pv _ 10 _ _ IQ (.inl Z) IL IL)) IQ (.inl Z))) (@jm _))) (@jg _ _ _ (@jL _ _ _ _ (@kK _ _ _ _ _ _ _ _ _ _ _ _ D2 Ee Ed jN (@pv _ 8 _ _ IQ (.inl Z) IL IL) (@ja _ _ _ _ _ (@pv _ 11 _ _ IQ (.inl Z) IL IL) (@jb _) IQ) IQ IQ IQ IQ IQ) IQ))))))) (by intro _;rfl)) (@jd _ _ _ _ _ (@jW _ _ _ (@jv _ _ _ _ _ _ _ _ (@jA _ _ _ _ _ _ _ _ qK (@ky _ _ _ _ _ _ _ _ _ _ _ _ _ _ _ _ GT D Z M C x .nil bh (@ja _ _ _ _ _ (@pv _ 0 _ _ IQ (.inr (.inl Z)) IL IL) (@ja _ _ _ _ _ (@jf _ _ _ _) (@jb _) IQ) IQ) IL IQ IQ) (@jf _ _ _ _) (aD _)) (@jd _ _ _ _ _ (@kO _ _ (12) _ _ _ _ aT.nd Z (Or.inl Z) (@jC _ _ _ _ (@QH _ _ IQ)) IQ (.inl Z)) (@jd _ _ _ _ _ (@kO _ _ (13) _ _ _ _ aT.nd Z (Or.inl Z) (@jr _ _ _ _ _ _ _ jo (@pv _ 12 _ _ IQ (.inl Z) IL IL) (@ky _ _ _ _ _ _ _ _ _ _ _ _ _ _ _ _ GT D Z M C x .nil bh (@ja _ _ _ _ _ (@pv _ 0 _ _ IQ (.inr (.inl Z)) IL IL) (@ja _ _ _ _ _ (@jf _ _ _ _) (@jb _) IQ) IQ) IL IQ IQ) (λ_ _=>Z)) IQ (.inl Z)) (@jg _ _ _ (@jv _ _ _ _ _ _ _ _ (@jA _ _ _ _ _ _ _ _ Jb (@pv _ 13 _ _ IQ (.inl Z) IL IL) (@pv _ 8 _ _ IQ (.inl Z) IL IL) Z) (@jg _ _ _ (@kN _ _ _ _ _ _ (@pv _ 13 _ _ IQ (.inl Z) IL IL) (@zS _ _ _ _ _ _ _ (@pv _ 8 _ _ IQ (.inl Z) IL IL) (@ky _ _ _ _ _ _ _ _ _ _ _ _ _ _ _ _ GT D Z M C x .nil bh (@ja _ _ _ _ _ (@pv _ 0 _ _ IQ (.inr (.inl Z)) IL IL) (@ja _ _ _ _ _ (@pv _ 1 _ _ IQ (.inl Z) IL IL) (@jb _) IQ) IQ) IL IQ IQ) kU (by intro _;rfl)) IQ IQ IQ)) (@jm _))))) (@jm _))) (@jg _ _ _ (@jl _ _ _ _ (@pv _ 8 _ _ IQ (.inl Z) IL IL)))))))))))),?_]
 refine eL λE0 f0=>f0 _ _ ?_
 refine eL λG a=>#[_,Z,p,6,Z,B,IL,IL,λd1 H1 a5 a' U e1=>#[_,_,Z,Z,a _ _ ?_]]
 refine eL λE2 f2=>#[_,Z,_,Z,p,_,Z,U,IM,IM,λd2 H2 b0 b1 B2 e2=>f2 _ _ ?_]
 clear f0 a f2
 refine eL λG a=>#[_,Z,_,Z,IM,IM,?_]
 refine Jg (p:=p) IM B2 λss H3 a2 e B3 e3 g hg=>a _ _ ?_
 clear a
 have k3:ar p H H3:=(ar.of_eq e1).trans ((ar.of_eq e2).trans (ar.of_eq e3))
 have v:g≠p:=B3.ne hg
 refine eL λG a=>#[_,Z,p,26,Z,B3.upd_new hg,IL,IL,λW H4 b2 b3 B4 e4=>a _ _ ?_]
 refine eL λE2 f2=>#[_,Z,p,3,Z,B4,IL,IL,λI H5 b4 b5 B5 e5=>f2 _ _ ?_]
 clear a f2
 have h2:H5 g=some (.lst (ss.map V.str)):=by rw[e5 g v,e4 g v];exact jc
 have k5:ar p H H5:=(k3.upd_new hg).trans ((ar.of_eq e4).trans (ar.of_eq e5))
 refine eL λG a=>#[IL,λr u=>a _ _ ?_]
 clear a
 have m:r≠p:=B5.ne u
 have h4:g≠r:=ji h2 u
 have n3:H g=none:=by
  cases z:H g with
  |none=>rfl
  |some o=>have:=k3 g o v z;rw[hg]at this;cases this
 have X:H r=none:=by
  cases z:H r with
  |none=>rfl
  |some o=>have:=k5 r o m z;rw[u]at this;cases this
 have b6:=zr
 refine eL λG a=>dJ λJ j=>#[_,Z,_,Z,IM,IM,j _ _ ?_]
 clear j
 refine zC (lo:=0) (NI p g r n d1 d2 W I ss H) #[none,none,none,[],Z,ap h2 u,jc,Z,#[(λ_ h=>nomatch h),(λ_ _ h=>nomatch h)],B5.upd_new u,k5.upd_new u] ?_ ?_
 ·intro E0 _ i σ H' hi fE Gq T b
  obtain⟨ok,oo,ow,ys,rfl,L,Y,h0,d,B',k'⟩:=b
  clear a
  obtain⟨c,hc⟩:=ZX (z:=cV) (k:=(W+5*(0+(i:Int))) % 26) (ED _ IL) (by rw[JF];exact Es _ IL)
  refine T ?_
  clear T
  show fQ (dZ _ _) _ E0 _ _
  refine eL λG a=>#[_,Z,_,Z,_,Z,_,_,Z,Z,.inl #[IL,IL],_,_,Z,Z,_,_,Z,Z,(by show(0:Int) < 26;decide),_,_,c,Z,Z,IL,hc,a _ _ ?_]
  clear a
  have b7:(#[(List.toArray [c])]:Str).length=1:=rfl
  have h5:c=nH W i:=wW (ED _ IL) (Es _ IL) hc
  refine eL λG a=>dq (Rw p g r n d1 d2 W I i c ss ys H 13 (·=pre ss d2++#[(List.toArray [c])]++eM ss d2)) (λE2 _ t=>?_) λO H1 b=>?_
  ·clear a fE
   refine#[Z,_,Z,_,Z,_,Z,g,_,Z,aC.of L,λs1 n1=>?_]
   have z1:=qR (ys:=aX ss none (some d2)) λy d=>e y (zM d)
   have z2:=qk ss none (some d2)
   refine#[_,s1,aX ss none (some d2),Z,Z,aC.of (by rw[jc,zu]),IL,IM,?_]
   have j1:=qS (z:="") (ys:=aX ss none (some d2)) IP λy d=>e y (zM d)
   refine#[_,Z,_,_,Z,Z,IM,?_]
   refine#[Z,_,Z,_,Z,_,_,Z,Z,_,Z,g,_,Z,aC.of (ap L n1),λs2 n2=>?_]
   have z3:=qR (ys:=aX ss (some (d2+1)) none) λy d=>e y (zM d)
   have z4:=qk ss (some (d2+1)) none
   refine#[_,s2,aX ss (some (d2+1)) none,Z,Z,aC.of (by rw[jc,zu]),IL,IM,?_]
   have j2:=qS (z:="") (ys:=aX ss (some (d2+1)) none) IP λy d=>e y (zM d)
   refine#[_,_,Z,Z,by rw[lY];omega,?_]
   exact t _ _ #[_,#[by show(Txt.join ("":Str) (aX ss none (some d2))++(#[(List.toArray [c])]:Str)++Txt.join ("":Str) (aX ss (some (d2+1)) none)).length<=13;rw[lY,lY];omega,Z],Z,ap (ap L n1) n2,ap (ap Y n1) n2,(B'.upd_new n1).upd_new n2,(k'.upd_new n1).upd_new n2]
  obtain⟨w1,⟨b8,z1⟩,rfl,g1,r1,U,k1⟩:=b
  refine a _ _ ?_
  clear a
  refine eL λG a=>dq (Rw p g r n d1 d2 W I i c ss ys H 14 (λw=>w=pre ss d2++#[(List.toArray [c])]++eM ss d2∨w=pre ss d2++#[(List.toArray [c])]++eM ss d2++"z")) (λE2 _ t=>?_) λO H2 b=>?_
  ·clear a fE
   refine#[_,Z,Z,_,Z,?_]
   refine bu (λS=>?_) (λS=>?_)
   ·refine#[_,Z,_,_,Z,Z,(by show(0:Int) < 2;decide),Z,_,Z,?_]
    refine bu (λcb=>?_) (λcb=>?_)
    ·have hz:(Str.ofString "z").length=1:=by decide+kernel
     refine#[_,Z,_,_,Z,Z,by rw[hz];omega,?_]
     exact t _ _ #[_,#[by rw[lY,hz];omega,.inr (by rw[z1])],Z,g1,r1,U,k1]
    ·exact t _ _ #[w1,#[IM,.inl z1],Z,g1,r1,U,k1]
   ·exact nF (t _ _ #[w1,#[IM,.inl z1],Z,g1,r1,U,k1])
  obtain⟨w2,⟨b9,z2⟩,rfl,g2,r2,B2,k2⟩:=b
  refine a _ _ ?_
  clear a
  refine eL λG a=>dq (Rw p g r n d1 d2 W I i c ss ys H 14 (λw=>if I=2 then ∃R:Str,w=R++#[(List.toArray [c])] else w=pre ss d2++#[(List.toArray [c])]++eM ss d2∨w=pre ss d2++#[(List.toArray [c])]++eM ss d2++"z")) (λE2 _ t=>?_) λO H3 b=>?_
  ·clear a fE
   refine#[_,Z,Z,_,Z,?_]
   refine bu (λS=>?_) (λS=>?_)
   ·refine#[Z,_,Z,p,8,Z,B2,IL,IL,λd6 H6 d0 d3 B6 e6=>?_]
    refine#[_,Z,IM,IM,?_]
    refine Jg (p:=p) IM B6 λtt H7 b' h3 B7 e7 g7 n7=>?_
    have jt:=qS (z:="") (ys:=tt) IP h3
    have zt:=qR h3
    refine#[_,g7,tt,Z,Z,aC.of jc,IL,IM,?_]
    refine#[_,Z,_,_,Z,Z,IM,?_]
    have g8:H7 g=some (.lst (ss.map V.str)):=by rw[e7 g v,e6 g v];exact g2
    have r8:H7 r=some (.lst (ys.map V.str)):=by rw[e7 r m,e6 r m];exact r2
    have e5:I=2:=by injection EQ S
    exact t _ _ #[_,#[by rw[lY];omega,(D0 e5).mpr #[_,Z]],Z,ap g8 n7,ap r8 n7,B7.upd_new n7,(k2.trans ((ar.of_eq e6).trans (ar.of_eq e7))).upd_new n7]
   ·have e5:I≠2:=λz=>S (by rw[z];exact Ea Z)
    exact t _ _ #[w2,#[IM,(D1 e5).mpr z2],Z,g2,r2,B2,k2]
  obtain⟨w3,⟨c2,z3⟩,rfl,g3,r3,B3,k3⟩:=b
  refine a _ _ ?_
  clear a
  refine eL λG a=>dq (Rw p g r n d1 d2 W I i c ss ys H 14 (Sh (pre ss d2) (eM ss d2) I c)) (λE2 _ t=>?_) λO H4 b=>?_
  ·clear a fE
   refine#[_,Z,IL,λt0 N=>?_]
   refine#[t0,_,Z,.inr (aA.of jc),Z,Y7 IQ,_,Z,?_]
   refine bu (λS=>?_) (λS=>?_)
   ·have hq:(Str.ofString "qqqqqqq").length=7:=by decide+kernel
    refine#[_,Z,_,_,Z,Z,by rw[hq];omega,?_]
    exact t _ _ #[_,#[by rw[lY,hq];omega,CJ],Z,ap g3 N,ap r3 N,B3.upd_new N,k3.upd_new N]
   ·exact t _ _ #[w3,#[IM,CL z3],Z,ap g3 N,ap r3 N,B3.upd_new N,k3.upd_new N]
  obtain⟨w4,⟨c3,z4⟩,rfl,g4,r4,B4,k4⟩:=b
  refine a _ _ ?_
  clear a
  refine#[_,Z,.inl #[Z,_,aC.of r4],_,Z,r,_,_,Z,Z,r4,by rw[DK];omega,?_]
  refine fE _ _ #[_,_,_,ys++[w4],Z,by rw[jj h4];exact g4,by rw[jc,Ef];rfl,by rw[DM,h0];rfl,#[λy hm=>?_,λj y hj=>?_],B4.eq (jj (Eg m)),k4.upd_own X]
  ·rcases List.mem_append.mp hm with hm |hm
   ·exact d.1 y hm
   ·rw[List.mem_singleton.mp hm];omega
  ·by_cases h6:j < ys.length
   ·rw[Fu h6]at hj
    exact d.2 j y hj
   ·have lj:=(List.getElem?_eq_some_iff.mp hj).1
    rw[DM,FN]at lj
    have ej:j=ys.length:=by omega
    rw[ej,Fq (DN _),Hf]at hj
    injection hj with hj
    rw[<- hj,ej,h0,<- h5]
    exact z4
 ·intro σ H' b
  refine aR λGq T=>?_
  obtain⟨ok,oo,ow,ys,rfl,L,Y,h0,d,B',k'⟩:=b
  refine T ?_
  clear T
  have h1:(ys.length:Int)=n:=by omega
  have f5:=sH (ss:=ss) (d1:=d1) (d2:=d2) IM IM IM
  have j1:(pre ss d2).length<=_:=qS (z:="") (ys:=aX ss none (some d2)) IP λy d=>e y (zM d)
  have j2:(eM ss d2).length<=_:=qS (z:="") (ys:=aX ss (some (d2+1)) none) IP λy d=>e y (zM d)
  have nd:=p7 IM IM d.2
  have d:=d.1
  refine a _ _ ?_
  clear a
  refine ah λF1 a=>dq (Rf p r n H) (λE2 _ t=>?_) λO H1 b=>?_
  ·clear a
   refine mv λG' g'=>#[_,Z,p,6,Z,B',IL,IL,λd6 H6 d0 d3 B6 e6=>#[Z,_,Z,g' _ _ ?_]]
   clear g'
   have r6:H6 r=some (.lst (ys.map V.str)):=by rw[e6 r m];exact Y
   have k6:ar p H H6:=k'.trans (ar.of_eq e6)
   refine bu (λS=>?_) (λS=>?_)
   ·refine eL λE3 f3=>#[IL,λt0 N=>f3 _ _ ?_]
    clear f3
    have t1:t0≠p:=B6.ne N
    refine eL λE4 f3=>#[_,Z,_,Z,p,13,Z,B6.upd_new N,IL,IL,λd7 H7 d9 d' B7 e7=>?_]
    have t7:H7 t0=some (.lst ((["num","var","op","go","ask","back","chain","sets","iff","ends","calls","reads","gives"]:List Str).map V.str)):=((e7 t0 t1).trans jc).trans (EO (λl=>some (HO.lst l)) IP)
    have r7:H7 r=some (.lst (ys.map V.str)):=by rw[e7 r m];exact ap r6 N
    have k7:ar p H H7:=(k6.upd_new N).trans (ar.of_eq e7)
    obtain⟨od,h7,h8⟩:=Jk (ys:=(["num","var","op","go","ask","back","chain","sets","iff","ends","calls","reads","gives"]:List Str)) d9 (by simpa using d')
    refine#[t0,_,_,_,Z,Z,aC.of t7,h8,f3 _ _ ?_]
    clear f3
    have h':od.length<=20:=by
     have:∀y∈(["num","var","op","go","ask","back","chain","sets","iff","ends","calls","reads","gives"]:List Str),y.length<=20:=by decide+kernel
     exact this od h7
    refine mv λG' g'=>#[_,Z,_,Z,r,_,Z,.inl (aC.of r7),Z,Qo _,_,Z,g' _ _ ?_]
    clear g'
    refine bu (λcb=>?_) (λcb=>?_)
    ·refine#[_,Z,_,Z,_,Z,_,Z,p,n,Z,B7,IM,IM,λd8 H8 a0 c4 B8 e8=>?_]
     have r8:H8 r=some (.lst (ys.map V.str)):=by rw[e8 r m];exact r7
     have k8:ar p H H8:=k7.trans (ar.of_eq e8)
     refine#[r,_,d8,d8.toNat,Z,Z,r8,?_,?_]
     ·unfold lN
      rw[D0 a0,DK,D0 IM]
     refine t _ _ #[Z,ys.set d8.toNat od,by rw[jc,pY],by rw[Hr];exact h1,#[λy hm=>?_,Zl nd (tj (by have c0:(!mx (.str od) (ys.map V.str))=true:=cb;rw[Bool.not_eq_true']at c0;exact c0))],B8.eq (jj (Eg m)),k8.upd_own X]
     rcases List.mem_or_eq_of_mem_set hm with hm |hm
     ·exact d y hm
     ·rw[hm];exact h'
    ·exact t _ _ #[Z,ys,r7,h1,#[d,nd],B7,k7]
   ·exact t _ _ #[Z,ys,r6,h1,#[d,nd],B6,k6]
  obtain⟨a1,y0,r1,l1,y1,U,k1⟩:=b
  refine a _ _ ?_
  exact#[_,a1,q r y0 H1 X r1 l1 y1 U k1]
def ai(H h:Hp):Prop:=∀b x,H b=some (.tup x)->h b=some (.tup x)
theorem ae.tm(a:ae H c):ai H c:=λb x h=>a b _ h
theorem je{H:Hp}{o:HO}(n:H p=none):ae H (af H p o):=λb u e=>ap e n
theorem bJ{b:Bool}{A B:Prop}(h:b=true)(x:A):if b=true then A else B:=by rw[D0 h];exact x
theorem aF{b:Bool}{A B:Prop}(h:b=false)(x:B):if b=true then A else B:=by rw[h,D1 DR];exact x
theorem aE:sizeLine=16777216:=by rw[HS]
theorem am.same(B:am H p)(s:ae H c):am c p:=by
 refine aR λG k=>?_
 obtain⟨a,b,d,e,f,h⟩:=B.ob
 refine k ?_
 clear k
 exact#[a,b,d,e,f,s _ _ h]
theorem ar.of_same{p:Addr}(s:ae H h):ar p H h:=λb o _ e=>s _ _ e
theorem ar.tm(k:ar p H h)(B:am H p):ai H h:=λb x e=>by
 refine aR λG d=>?_
 obtain⟨a,c,_,_,_,f⟩:=B.ob
 refine d ?_
 clear d
 exact k b _ (jG e f (by intro w;cases w)) e
theorem ar.none(k:ar p H h)(B:am h p)(n:h r=none):H r=none:=by
 cases z:H r with
 |none=>rfl
 |some o=>have:=k _ _ (B.ne n) z;rw[n]at this;cases this
theorem Zm{K:Frag}{a:Addr}{xs:List V}{t:TE}{Q:List V->Hp->Prop}(u:xs.length<=sizeLine)(Pv:Nat->List V->Hp->Prop)(l:Pv 0 [] H)
  (n:∀i Y h,Pv i Y h->aC K h a xs/\Y.length<=i) (o:∀i x Y h,xs[i]?=some x->Pv i Y h->t (some x::d) h λy c=>Pv (i+1) (Y++[y]) c) (q:∀Y h,Pv xs.length Y h->Q Y h):
  eO (vj K a) 1 d (bg 0) lh t Q H:=by
 refine#[λi m Y h=>m=xs.length - i/\i<=xs.length/\Pv i Y h,#[xs.length,IN,DX _,l],?_]
 intro i m Y h f
 refine aR λG k=>?_
 obtain⟨rfl,z,p⟩:=f
 refine k ?_
 clear k
 obtain⟨g,A⟩:=n i Y h p
 by_cases b:i < xs.length
 ·refine .inr #[#[xs,xs[i],g,DJ b],IM,Pv (i+1),λr c s=>#[xs.length - (i+1),IM,Z,b,s],λv c T j y=>?_]
  obtain⟨e,y⟩:=y
  subst e
  obtain⟨w,rfl⟩:=sS j
  exact#[#[[some _],Z,Z],o i v Y c (y xs g) p]
 ·have e:i=xs.length:=by omega
  subst e
  exact .inl #[#[xs,g,DN _],q Y h p]
theorem qr{K:Frag}{xs:List V}{t:TE}{Q:List V->Hp->Prop}(u:xs.length<=sizeLine)(Pv:Nat->List V->Hp->Prop)(l:Pv 0 [] H)
  (n:∀i Y h,Pv i Y h->aA K h a xs/\Y.length<=i) (o:∀i x Y h,xs[i]?=some x->Pv i Y h->t (some x::d) h λy c=>Pv (i+1) (Y++[y]) c) (q:∀Y h,Pv xs.length Y h->Q Y h):
  eO (sh K a) 1 d (bg 0) lh t Q H:=by
 refine#[λi m Y h=>m=xs.length - i/\i<=xs.length/\Pv i Y h,#[xs.length,IN,DX _,l],?_]
 intro i m Y h f
 refine aR λG k=>?_
 obtain⟨rfl,z,p⟩:=f
 refine k ?_
 clear k
 obtain⟨g,A⟩:=n i Y h p
 by_cases b:i < xs.length
 ·refine .inr #[#[xs,xs[i],g,DJ b],IM,Pv (i+1),λr c s=>#[xs.length - (i+1),IM,Z,b,s],λv c T j y=>?_]
  obtain⟨e,y⟩:=y
  subst e
  obtain⟨w,rfl⟩:=sS j
  exact#[#[[some _],Z,Z],o i v Y c (y xs g) p]
 ·have e:i=xs.length:=by omega
  subst e
  exact .inl #[#[xs,g,DN _],q Y h p]
noncomputable abbrev iD:Stmt:=bE 55
noncomputable abbrev mK:Stmt:=bE 57
inductive Tm where
 |num (n:Int) |var (x:Str) |op (i:Nat) (a b:Tm)
noncomputable def Tm.depth:Tm->Nat
 | .num _=>0
 | .var _=>0
 | .op _ a b=>max a.depth b.depth+1
noncomputable def iJ:Str:="+-*/<="
theorem pZ:iJ.length=6:=by decide+kernel
noncomputable def CH(i:Nat):Str:=#[(List.toArray [iJ.cps.toList.getD i 0])]
theorem yD(H:0<=d)(a:d < 6):du iJ.cps.toList d=some (iJ.cps.toList.getD d.toNat 0):=by
 have b:iJ.cps.toList.length=6:=by decide+kernel
 have h:d.toNat < iJ.cps.toList.length:=by omega
 have e:d=((d.toNat:Nat):Int):=by omega
 have q:du iJ.cps.toList ((d.toNat:Nat):Int)=some (iJ.cps.toList.getD d.toNat 0):=jM (by rw[FV,DJ h];rfl)
 rw[<- e]at q
 exact q
def Tm.Good(y:List Str):Tm->Prop
 | .num n=>0<=n/\n < 1000000000000000000
 | .var x=>x∈y
 | .op i a b=>i < 6/\a.Good y/\b.Good y
def aW(H:Hp):Tm->Addr->Prop
 | .num n,p=>H p=some (.tup [.str "num",.int n])
 | .var x,p=>H p=some (.tup [.str "var",.str x])
 | .op i a b,p=>∃q r,H p=some (.tup [.str "op",.str (CH i),.ref q,.ref r])/\aW H a q/\aW H b r
theorem aW.mono{H a:Hp}(h:∀b x,H b=some (.tup x)->a b=some (.tup x)):∀{t:Tm} {p:Addr},aW H t p->aW a t p
 | .num _,_,e=>h _ _ e
 | .var _,_,e=>h _ _ e
 | .op _ _ _,_,z=>by obtain⟨q,r,e,E,c⟩:=z;exact #[q,r,h _ _ e,aW.mono h E,aW.mono h c]
theorem aW.same(h:ae H a)(e:aW H t p):aW a t p:=e.mono λb x z=>h b _ z
theorem aW.but(B:am H p)(k:ar p H h)(e:aW H t a):aW h t a:=e.mono λb X z=>by
 refine aR λG c=>?_
 obtain⟨x,y,_,_,_,d⟩:=B.ob
 refine c ?_
 clear c
 exact k b _ (jG z d (by intro q;cases q)) z
theorem aW.new{H:Hp}{o:HO}(n:H r=none)(e:aW H t a):aW (af H r o) t a:=e.mono λb x z=>ap z n
def fj:Sp:=λv H Q _=>∃p:Addr,v=[.ref p]/\am H p/\∀(d:Int) (h:Hp),0<=d->d < 1000000000000000000->am h p->(∀b,b≠p->h b=H b)->Q (.int d) h
def cy(n:Nat):Sp:=λv H Q _=>∃(p g:Addr) (d:Int) (y:List Str),v=[.ref p,.ref g,.int d]/\am H p/\H g=some (.lst (y.map V.str))/\1<=y.length/\y.length<=20/\0<=d/\d < (n:Int)/\
 ∀(r:Addr) (T:Tm) (h:Hp),aW h T r->(T.depth:Int)<=d->T.Good y->am h p->ar p H h->Q (.ref r) h
theorem zo{Y:List Str}(B:am H p)(h:H g=some (.lst (Y.map V.str))):g≠p:=by
 refine aR λG k=>?_
 obtain⟨x,y,_,_,_,b⟩:=B.ob
 refine k ?_
 clear k
 refine jG h b λz=>?_
 injection z with z
 match Y,z with
 |a::r,z=>injection z with c _;cases c
theorem pR:ak ["_law_box_here"] ["_law_box_here"] (aa iD):=bq
theorem Zn(F:aJ K "_law_number" "_law_number" iD f t)(C:Cl P w K mg base 1 I u ["_law_box_here","_law_wide"] aN "_law_take"):aj P w K mg base ay 2 f t ["_law_box_here"] fj:=by
 refine F.ok pR (λv H Q E h=>?_) (λx A o s H v Q E a h=>?_)
 ·obtain⟨p,rfl,_⟩:=h
  rfl
 refine aR λJ l=>?_
 obtain⟨p,rfl,B,q⟩:=h
 refine l ?_
 clear l
 refine#[_,(jd (jv (kL (C.e a (ja (pv 0) (ja jf jb)))) (jg (jl (C.e a (ja (pv 0) (ja (ju Qv jf jf) jb))))) jm) (jg (jl (C.e a (ja (pv 0) (ja jf jb)))))),?_]
 refine#[_,Z,p,4,Z,B,IL,IL,λL M y G m r=>#[Z,_,Z,?_]]
 refine bu (λc=>?_) (λc=>?_)
 ·refine#[_,Z,_,_,Z,Z,#[IL,IL,IL],p,_,Z,m,IL,IL,λD g d i j k=>?_]
  have z:=v6
  exact q D g d IM j λb n=>(k b n).trans (r b n)
 ·refine#[_,Z,p,9,Z,m,IL,IL,λD g d i j k=>?_]
  exact q D g d IM j λb n=>(k b n).trans (r b n)
theorem lW:ak ["_law_box_here","_law_names_here","_law_deep","_law_kind","_law_one"] ["_law_box_here","_law_names_here","_law_deep"] (aa mK):=bq
theorem tP(F:aJ K "_law_term" "_law_term" mK f fd)(cF:Cl P w K mg base (n+2) f fd ["_law_box_here","_law_names_here","_law_deep"] (cy n) "_law_term")(S:Cl P w K mg base 1 fT f0 ["_law_box_here","_law_wide"] aN "_law_take")(cN:Cl P w K mg base 2 fN f2 ["_law_box_here"] fj "_law_number")(ml:mg "len"=none):aj P w K mg base ay (n+3) f fd ["_law_box_here","_law_names_here","_law_deep"] (cy (n+1)):=by
 refine F.ok lW ?_ λc0 A T s H vs Q E u h=>?_
 ·rintro _ _ _ _ ⟨p,g,d,ys,rfl,_⟩
  rfl
 refine aR λGq kq=>?_
 obtain⟨p,g,d,ys,rfl,B,hg,v,x,h1,h2,q⟩:=h
 refine kq ?_
 clear kq
 refine#[_,(jd (jx 3 lW.nd (S.e u.m (ja (pv 0) (ja jf jb)))) (jd (jW (jv (PW.pt (KW (jA Jv (pv 3) jf (aD _)) (Jj (PW.pt (qf (jA qL (pv 3) jf (aD _)) (zD (kL (pv 2)))))))) (jg (jl (jh (ja jk (ja (cN.e u.m (ja (pv 0) jb)) jb))))) jm)) (jd (jv (jA Jv (pv 3) jf (aD _)) (jg (jl (jh (ja jk (ja (jr jo (pv 1) (S.e u.m (ja (pv 0) (ja (jO jK Z ml EX (ja (pv 1) jb)) jb))) (λ_ _=>Z)) jb))))) jm) (jd (jx 4 lW.nd (cF.e u (ja (pv 0) (ja (pv 1) (ja (ju kP (pv 2) jf) jb))))) (jg (jl (jh (ja jk (ja (jr J9 jk (S.e u.m (ja (pv 0) (ja jf jb))) (λ_ _=>Z)) (ja (pv 4) (ja (cF.e u (ja (pv 0) (ja (pv 1) (ja (ju kP (pv 2) jf) jb)))) jb))))))))))),?_]
 have b0:=zr
 have j:g≠p:=zo B hg
 refine ah λF1 l=>#[_,Z,p,6,Z,B,IL,IL,λM O k0 k1 R e1=>l _ _ ?_]
 clear l
 have k:O g=some (.lst (ys.map V.str)):=by rw[e1 g j];exact hg
 have U:ar p H O:=ar.of_eq e1
 have num:∀(D:Int) (a:Hp) (r:Addr),0<=D->D < 1000000000000000000->am a p->(∀b,b≠p->a b=O b)->a r=none->Q (.ref r) (af a r (.tup [.str "num",.int D])):=λD a r C I i o N=>
  q r (.num D) _ jc (by show((0:Nat):Int)<=d;omega) #[C,I] (i.upd_new N) ((U.trans (ar.of_eq o)).upd_new N)
 refine ah λF1 l=>dq (λJ H'=>J=[some (.ref p),some (.ref g),some (.int d),some (.int M),none]/\H'=O/\(M<=3∨d≠0)) (λE2 eR fm=>?_) λJ H' W=>?_
 ·clear l
  refine mv λG' G=>#[_,Z,_,_,Z,Z,_,Z,?_]
  refine bu (λc=>?_) (λc=>?_)
  ·refine G _ _ (nG ?_)
   show eh _ E2 _ _
   unfold eh
   rw[eR]
   exact#[_,Z,p,Z,R,λD a C I i o=>#[bn,λr N=>num D a r C I i o N]]
  refine#[_,Z,_,_,Z,Z,_,Z,?_]
  refine bu (λc2=>?_) (λc2=>?_)
  ·refine#[_,Z,Z,_,Z,G _ _ ?_]
   refine bu (λc3=>?_) (λc3=>?_)
   ·show eh _ E2 _ _
    unfold eh
    rw[eR]
    exact#[_,Z,p,Z,R,λD a C I i o=>#[bn,λr N=>num D a r C I i o N]]
   ·exact fm _ _ #[Z,Z,.inr λz=>c3 (by rw[z];rfl)]
  ·have c1:¬(3:Int) < M:=GJ (Bool.eq_false_iff.mpr c2)
   exact G _ _ (nF (fm _ _ #[Z,Z,.inl IM]))
 obtain⟨rfl,eH,hk⟩:=W
 rw[eH]
 refine l _ _ ?_
 clear l
 refine ah λF1 l=>mv λG' G=>#[_,Z,_,_,Z,Z,_,Z,G _ _ ?_]
 clear G
 refine bu (λc=>?_) (λc=>l _ _ ?_)
 ·-- a variable
  refine#[_,Z,_,Z,_,Z,g,_,Z,.inl (aC.of k),p,_,Z,R,by rw[DK];omega,by rw[DK];omega,λD a X L i o=>?_]
  rw[DK]at L
  obtain⟨y,hy,Y⟩:=Jk (ys:=ys) X L
  have t:a g=some (.lst (ys.map V.str)):=by rw[o g j];exact k
  refine#[g,_,_,_,Z,Z,aC.of t,Y,bn,λr N=>?_]
  exact q r (.var y) _ jc (by show((0:Nat):Int)<=d;omega) hy (i.upd_new N) ((U.trans (ar.of_eq o)).upd_new N)
 ·have c':¬M < (4:Int):=GJ (Bool.eq_false_iff.mpr c)
  have hd:d≠0:=hk.resolve_left IM
  refine#[_,Z,_,Z,_,Z,_,_,Z,Z,p,g,d - 1,ys,Z,R,k,v,x,IM,IM,λr1 T1 a t1 d3 g0 i k2=>?_]
  have t:a g=some (.lst (ys.map V.str)):=k2 g _ j k
  refine#[_,Z,p,6,Z,i,IL,IL,λs3 H3 s0 s1 B3 e3=>?_]
  have h0:H3 g=some (.lst (ys.map V.str)):=by rw[e3 g j];exact t
  have k3:ar p a H3:=ar.of_eq e3
  refine#[iJ,_,_,Z,Z,(by rw[pZ];omega),yD s0 s1,?_]
  refine#[_,Z,_,Z,_,Z,_,Z,_,_,Z,Z,p,g,d - 1,ys,Z,B3,h0,v,x,IM,IM,λr2 T2 H4 t2 d4 g1 B4 k4=>?_]
  refine#[nO,λr N=>?_]
  have t0:aW H4 T1 r1:=(t1.but i k3).but B3 k4
  refine q r (.op s3.toNat T1 T2) _ #[r1,r2,jc,t0.new N,t2.new N] ?_ #[IM,g0,g1] (B4.upd_new N) (((U.trans k2).trans (k3.trans k4)).upd_new N)
  show((max T1.depth T2.depth+1:Nat):Int)<=d
  omega
theorem sZ:aj P w K mg base ay 2 f e ["_law_box_here","_law_names_here","_law_deep"] (cy 0):=by
 have n:∀v H Q E,¬cy 0 v H Q E:=λv H Q E h=>by
  refine aR λG k=>?_
  obtain⟨p,g,d,y,_,_,_,_,_,i,b,_⟩:=h
  refine k ?_
  clear k
  have c:d < ((0:Nat):Int):=b
  omega
 exact#[λv H Q E h=>absurd h (n v H Q E),λA o s H a u v Q E _ _ _ _ h=>absurd h (n v H Q E)]
theorem wb(F:aJ K "_law_term" "_law_term" mK f a)(b:aw K a ["_law_box_here","_law_names_here","_law_deep"] [])(m:mg "_law_term"=some (.ref f))(c:Cl P w K mg base 1 g d ["_law_box_here","_law_wide"] aN "_law_take")(C:Cl P w K mg base 2 h e ["_law_box_here"] fj "_law_number")(M:mg "len"=none):
  ∀n:Nat,aj P w K mg base ay (n+2) f a ["_law_box_here","_law_names_here","_law_deep"] (cy n)
 |0=>sZ
 |n+1=>tP F #[(wb F b m c C M n),b,F.kp,m] c C M
end K29
namespace K29
open PySem PySem.Spec PyProof.Rows L2
variable {P:Program}{w:World}{K:Frag}{mg:Str->Option Value}{base:Heap}
noncomputable def Tm.vars:Tm->List Str
 | .num _=>[]
 | .var x=>[x]
 | .op _ a b=>a.vars++b.vars
theorem ki:∀{t:Tm},t.Good y->∀x∈t.vars,x∈y
 | .num _,_,_,h=>nomatch h
 | .var _,g,_,h=>by rw[List.mem_singleton.mp h];exact g
 | .op _ _ _,g,_,h=>(List.mem_append.mp h).elim (ki g.2.1 _) (ki g.2.2 _)
theorem j4:∀{l m:List Str},l.Nodup->(∀x∈l,x∈m)->l.length<=m.length
 | [],_,_,_=>DX _
 |x::l,m,n,h=>by
  rw[Ij]at n
  have H:=h x D3
  have q:=j4 (l:=l) (m:=m.erase x) n.2 λy a=>(List.mem_erase_of_ne (λe=>n.1 (by rw[<- e];exact a))).mpr (h y (D9 _ a))
  rw[List.length_erase_of_mem H]at q
  have:0 < m.length:=List.length_pos_of_mem H
  rw[El]
  omega
theorem Kw:∀{l m:List Str},l.Nodup->m.Nodup->(∀x,x∈l↔x∈m)->l.Perm m
 | [],[],_,_,_=>.nil
 | [],y::m,_,_,h=>absurd ((h y).mpr D3) IN
 |x::l,m,n,N,h=>by
  rw[Ij]at n
  have a:x∈m:=(h x).mp D3
  refine(List.Perm.cons x (Kw n.2 (N.erase x) λy=>?_)).trans (List.perm_cons_erase a).symm
  rw[N.mem_erase_iff]
  constructor
  ·intro H
   exact#[λe=>n.1 (by rw[<- e];exact H),(h y).mp (D9 _ H)]
  ·rintro ⟨b,H⟩
   exact(List.mem_cons.mp ((h y).mpr H)).resolve_left b
theorem Qp:∀{p:Str} {l:List Str},risingS p l=true->(p::l).Pairwise λa b=>a.cps.toList<=b.cps.toList
 |p,[],_=>by simp
 |p,x::r,h=>by
  have H:(!ltCps x.cps.toList p.cps.toList&&risingS x r)=true:=h
  rw[EM]at H
  have i:=Qp H.2
  have c:p.cps.toList<=x.cps.toList:=by
   have z:=H.1
   rw[ltCps_eq]at z
   simpa using z
  rw[List.pairwise_cons]at i ⊢
  refine#[λy hy=>?_,List.pairwise_cons.mpr i]
  rcases List.mem_cons.mp hy with rfl |hy
  ·exact c
  ·exact List.le_trans c (i.1 y hy)
theorem Qq(h:sortedS l=true):l.Pairwise λa b=>a.cps.toList<=b.cps.toList:=by
 cases l with
 |nil=>exact .nil
 |cons x r=>exact Qp h
theorem Xw{l:List Str}(p:l.Perm m)(h:sortedS l=true)(H:sortedS m=true):l=m:=by
 refine List.Perm.eq_of_pairwise (λa b _ _ x y=>?_) (Qq h) (Qq H) p
 have e:=List.le_antisymm x y
 cases a
 cases b
 exact EO Str.mk (Array.toList_inj.mp e)
inductive Lf where
 |rd (x:Str) (t:Addr) (T:Tm)
 |st (x:Str) (t:Addr) (T:Tm)
 |wr (t u:Addr) (T U:Tm)
 |cl (x f:Str) (q:Addr) (ts:List (Addr×Tm))
 |gv (t:Addr) (T:Tm)
def si(H:Hp):Lf->List V->Prop
 | .rd x t T,v=>v=[.str "read",.str x,.ref t]/\aW H T t
 | .st x t T,v=>v=[.str "set",.str x,.ref t]/\aW H T t
 | .wr t u T U,v=>v=[.str "write",.ref t,.ref u]/\aW H T t/\aW H U u
 | .cl x f q a,v=>v=[.str "call",.str x,.str f,.ref q]/\H q=some (.tup (a.map λc=>V.ref c.1))/\∀c∈a,aW H c.2 c.1
 | .gv t T,v=>v=[.str "give",.ref t]/\aW H T t
theorem si.mono(k:ai H a)(h:si H l v):si a l v:=by
 cases l with
 |rd x t T |st x t T |gv t T=>exact#[h.1,h.2.mono k]
 |wr t u T U=>exact#[h.1,h.2.1.mono k,h.2.2.mono k]
 |cl x f q d=>exact#[h.1,k _ _ h.2.1,λc b=>(h.2.2 c b).mono k]
inductive Bd where
 |nil
 |lf (p:Addr) (l:Lf) (r:Bd)
 |ite (p t:Addr) (T:Tm) (a b r:Bd)
 |loop (p t:Addr) (T:Tm) (a r:Bd)
noncomputable def Bd.app:Bd->Bd->Bd
 | .nil,s=>s
 | .lf p l r,s=>.lf p l (r.app s)
 | .ite p t T a b r,s=>.ite p t T a b (r.app s)
 | .loop p t T a r,s=>.loop p t T a (r.app s)
noncomputable def Bd.size:Bd->Nat
 | .nil=>0
 | .lf _ _ r=>r.size+1
 | .ite _ _ _ a b r=>a.size+b.size+r.size+1
 | .loop _ _ _ a r=>a.size+r.size+1
noncomputable def Bd.dep:Bd->Nat
 | .nil=>0
 | .lf _ _ r=>r.dep
 | .ite _ _ _ a b r=>max (max a.dep b.dep+1) r.dep
 | .loop _ _ _ a r=>max (a.dep+1) r.dep
def cR(y:List Str)(T:Tm):Prop:=T.Good y/\T.depth < 6
def Lf.Ok(y:List Str):Lf->Prop
 | .rd x _ T=>x∈y/\cR y T
 | .st x _ T=>x∈y/\cR y T
 | .wr _ _ T U=>cR y T/\cR y U
 | .cl x _ _ t=>x∈y/\t.length<=6/\∀c∈t,cR y c.2
 | .gv _ T=>cR y T
def Bd.Ok(y:List Str):Bd->Prop
 | .nil=>True
 | .lf _ l r=>l.Ok y/\r.Ok y
 | .ite _ _ T a b r=>cR y T/\a.Ok y/\b.Ok y/\r.Ok y
 | .loop _ _ T a r=>cR y T/\a.Ok y/\r.Ok y
abbrev gG:=List (Str×Nat)
def Lf.Cs(F:gG):Lf->Prop
 | .cl _ f _ t=>(f,t.length)∈F
 |_=>True
def Bd.Cs(F:gG):Bd->Prop
 | .nil=>True
 | .lf _ l r=>l.Cs F/\r.Cs F
 | .ite _ _ _ a b r=>a.Cs F/\b.Cs F/\r.Cs F
 | .loop _ _ _ a r=>a.Cs F/\r.Cs F
theorem Kb{F:gG}:∀{a b:Bd},a.Cs F->b.Cs F->(a.app b).Cs F
 | .nil,_,_,h=>h
 | .lf _ _ _,_,h,k=>#[h.1,Kb h.2 k]
 | .ite _ _ _ _ _ _,_,h,k=>#[h.1,h.2.1,Kb h.2.2 k]
 | .loop _ _ _ _ _,_,h,k=>#[h.1,Kb h.2 k]
theorem kj{F:gG}(k:∀f∈F,f∈G):∀{a:Bd},a.Cs F->a.Cs G
 | .nil,_=>trivial
 | .lf _ l _,h=>#[by cases l<;>first |exact k _ h.1 |trivial,kj k h.2]
 | .ite _ _ _ _ _ _,h=>#[kj k h.1,kj k h.2.1,kj k h.2.2]
 | .loop _ _ _ _ _,h=>#[kj k h.1,kj k h.2]
noncomputable def Lf.calls:Lf->gG
 | .cl _ f _ t=>[(f,t.length)]
 |_=>[]
noncomputable def Bd.calls:Bd->gG
 | .nil=>[]
 | .lf _ l r=>l.calls++r.calls
 | .ite _ _ _ a b r=>a.calls++(b.calls++r.calls)
 | .loop _ _ _ a r=>a.calls++r.calls
theorem zw:∀b:Bd,b.Cs b.calls
 | .nil=>trivial
 | .lf _ l r=>#[by cases l<;>first |exact List.mem_append_left _ List.mem_cons_self |trivial,kj (λ_ h=>List.mem_append_right _ h) (zw r)]
 | .ite _ _ _ a b r=>#[kj (λ_ h=>List.mem_append_left _ h) (zw a),kj (λ_ h=>List.mem_append_right _ (List.mem_append_left _ h)) (zw b),kj (λ_ h=>List.mem_append_right _ (List.mem_append_right _ h)) (zw r)]
 | .loop _ _ _ a r=>#[kj (λ_ h=>List.mem_append_left _ h) (zw a),kj (λ_ h=>List.mem_append_right _ h) (zw r)]
theorem zA{F:gG}:∀{b:Bd},b.Cs F->∀f∈b.calls,f∈F
 | .nil,_,_,h=>nomatch h
 | .lf _ l r,k,f,h=>(List.mem_append.mp h).elim (λh=>by cases l<;>first | (rw[List.mem_singleton.mp h];exact k.1) |exact nomatch h) (zA k.2 f)
 | .ite _ _ _ a b r,k,f,h=>(List.mem_append.mp h).elim (zA k.1 f) λh=>(List.mem_append.mp h).elim (zA k.2.1 f) (zA k.2.2 f)
 | .loop _ _ _ a r,k,f,h=>(List.mem_append.mp h).elim (zA k.1 f) (zA k.2 f)
theorem jT:∀(a b:Bd),(a.app b).size=a.size+b.size
 | .nil,b=>by show b.size=0+b.size;omega
 | .lf _ _ r,b=>by have:=jT r b;show(r.app b).size+1=r.size+1+b.size;omega
 | .ite _ _ _ x y r,b=>by have:=jT r b;show x.size+y.size+(r.app b).size+1=x.size+y.size+r.size+1+b.size;omega
 | .loop _ _ _ x r,b=>by have:=jT r b;show x.size+(r.app b).size+1=x.size+r.size+1+b.size;omega
theorem zf:∀(a b:Bd),(a.app b).dep=max a.dep b.dep
 | .nil,b=>(Nat.zero_max b.dep).symm
 | .lf _ _ r,b=>zf r b
 | .ite _ _ _ x y r,b=>by show max _ (r.app b).dep=max (max _ r.dep) b.dep;rw[zf r b,Nat.max_assoc]
 | .loop _ _ _ x r,b=>by show max _ (r.app b).dep=max (max _ r.dep) b.dep;rw[zf r b,Nat.max_assoc]
theorem Kc:∀{a b:Bd},a.Ok y->b.Ok y->(a.app b).Ok y
 | .nil,_,_,h=>h
 | .lf _ _ _,_,g,h=>#[g.1,Kc g.2 h]
 | .ite _ _ _ _ _ _,_,g,h=>#[g.1,g.2.1,g.2.2.1,Kc g.2.2.2 h]
 | .loop _ _ _ _ _,_,g,h=>#[g.1,g.2.1,Kc g.2.2 h]
def dj(H:Hp):Bd->List V->Prop
 | .nil,x=>x=[]
 | .lf p l r,x=>∃v y,x= .ref p::y/\H p=some (.tup v)/\si H l v/\dj H r y
 | .ite p t T a b r,x=>∃q Q A B y,x= .ref p::y/\H p=some (.tup [.str "if",.ref t,.ref q,.ref Q])/\aW H T t/\H q=some (.tup A)/\H Q=some (.tup B)/\dj H a A/\dj H b B/\dj H r y
 | .loop p t T a r,x=>∃q A y,x= .ref p::y/\H p=some (.tup [.str "while",.ref t,.ref q])/\aW H T t/\H q=some (.tup A)/\dj H a A/\dj H r y
theorem dj.mono(k:ai H m):∀{x:List V},dj H a x->dj m a x:=by
 induction a with
 |nil=>exactλh=>h
 |lf p l r n=>rintro x ⟨v,y,e,c,d,f⟩;exact#[v,y,e,k _ _ c,d.mono k,n f]
 |ite p t T a b r i o I=>rintro x ⟨q,Q,A,B,y,e,c,g,d,f,j,s,u⟩;exact#[q,Q,A,B,y,e,k _ _ c,g.mono k,k _ _ d,k _ _ f,i j,o s,I u]
 |loop p t T a r i I=>rintro x ⟨q,A,y,e,c,g,d,f,j⟩;exact#[q,A,y,e,k _ _ c,g.mono k,k _ _ d,i f,I j]
theorem dj.app(k:dj H b y):∀{x:List V},dj H a x->dj H (a.app b) (x++y):=by
 induction a with
 |nil=>intro x h;have e:x=[]:=h;rw[e];exact k
 |lf p l r I=>rintro x ⟨v,z,e,c,d,f⟩;exact#[v,z++y,by rw[e];rfl,c,d,I f]
 |ite p t T a b r _ _ i=>rintro x ⟨q,Q,A,B,z,e,c,g,d,f,j,m,n⟩;exact#[q,Q,A,B,z++y,by rw[e];rfl,c,g,d,f,j,m,i n]
 |loop p t T a r _ i=>rintro x ⟨q,A,z,e,c,g,d,f,j⟩;exact#[q,A,z++y,by rw[e];rfl,c,g,d,f,i j]
theorem dj.len:∀{x:List V},dj H a x->x.length<=a.size:=by
 induction a with
 |nil=>intro x h;have e:x=[]:=h;rw[e];exact DN 0
 |lf p l r I=>rintro x ⟨v,y,e,d,f,c⟩;rw[e];exact Fd (I c)
 |ite p t T a b r _ _ i=>rintro x ⟨q,Q,A,B,y,e,d,j,f,c,g,m,k⟩;rw[e];exact Fd (DV (i k) (Nat.le_add_left _ _))
 |loop p t T a r _ i=>rintro x ⟨q,A,y,e,d,j,f,c,g⟩;rw[e];exact Fd (DV (i g) (Nat.le_add_left _ _))
inductive gp(H:Hp):V->Bd->Prop
 |lf (p:Addr) (l:Lf) (vs:List V) (h1:H p=some (.tup vs)) (h2:si H l vs):gp H (.ref p) (.lf p l .nil)
 |ite (p t:Addr) (T:Tm) (a b:Bd) (qa qb:Addr) (as bs:List V) (h1:H p=some (.tup [.str "if",.ref t,.ref qa,.ref qb])) (h0:aW H T t) (h2:H qa=some (.tup as)) (h3:H qb=some (.tup bs)) (h4:dj H a as) (h5:dj H b bs):gp H (.ref p) (.ite p t T a b .nil)
 |loop (p t:Addr) (T:Tm) (a:Bd) (qa:Addr) (as:List V) (h1:H p=some (.tup [.str "while",.ref t,.ref qa])) (h0:aW H T t) (h2:H qa=some (.tup as)) (h3:dj H a as):gp H (.ref p) (.loop p t T a .nil)
theorem gp.bd(h:gp H v s):dj H s [v]:=by
 cases h with
 |lf p l V c d=>exact#[V,[],Z,c,d,Z]
 |ite p t T a b q Q A B c e d f g i=>exact#[q,Q,A,B,[],Z,c,e,d,f,g,i,Z]
 |loop p t T a q A c e d f=>exact#[q,A,[],Z,c,e,d,f,Z]
theorem gp.mono(k:ai H g)(h:gp H v s):gp g v s:=by
 cases h with
 |lf p l V c d=>exact .lf p l V (k _ _ c) (d.mono k)
 |ite p t T a b q Q A B c e d f i j=>exact .ite p t T a b q Q A B (k _ _ c) (e.mono k) (k _ _ d) (k _ _ f) (i.mono k) (j.mono k)
 |loop p t T a q A c e d f=>exact .loop p t T a q A (k _ _ c) (e.mono k) (k _ _ d) (f.mono k)
theorem dj.last:∀{x:List V},dj H a x->x=[]/\a= .nil∨∃z v b s,x=z++[v]/\a=b.app s/\dj H b z/\gp H v s:=by
 induction a with
 |nil=>exactλh=>.inl #[h,Z]
 |lf p l r i=>
  rintro x ⟨u,y,e,f,g,n⟩
  rcases i n with ⟨E,d⟩ | ⟨z,v,b,s,E,d,j,k⟩
  ·exact .inr #[[],.ref p,.nil,.lf p l .nil,by rw[e,E];rfl,by rw[d];rfl,Z,.lf p l u f g]
  ·exact .inr #[.ref p::z,v,.lf p l b,s,by rw[e,E];rfl,by rw[d];rfl,#[u,z,Z,f,g,j],k]
 |ite p t T a b r _ _ i=>
  rintro x ⟨q,Q,A,B,y,e,f,m,g,n,G,C,o⟩
  rcases i o with ⟨E,d⟩ | ⟨z,v,c,s,E,d,j,k⟩
  ·exact .inr #[[],.ref p,.nil,.ite p t T a b .nil,by rw[e,E];rfl,by rw[d];rfl,Z,.ite p t T a b q Q A B f m g n G C]
  ·exact .inr #[.ref p::z,v,.ite p t T a b c,s,by rw[e,E];rfl,by rw[d];rfl,#[q,Q,A,B,z,Z,f,m,g,n,G,C,j],k]
 |loop p t T a r _ i=>
  rintro x ⟨q,A,y,e,f,m,g,G,o⟩
  rcases i o with ⟨E,d⟩ | ⟨z,v,c,s,E,d,j,k⟩
  ·exact .inr #[[],.ref p,.nil,.loop p t T a .nil,by rw[e,E];rfl,by rw[d];rfl,Z,.loop p t T a q A f m g G]
  ·exact .inr #[.ref p::z,v,.loop p t T a c,s,by rw[e,E];rfl,by rw[d];rfl,#[q,A,z,Z,f,m,g,G,j],k]
theorem zJ:∀{a b:Bd},(a.app b).Ok y->a.Ok y/\b.Ok y
 | .nil,_,h=>#[Eh,h]
 | .lf _ _ _,_,h=>#[#[h.1,(zJ h.2).1],(zJ h.2).2]
 | .ite _ _ _ _ _ _,_,h=>#[#[h.1,h.2.1,h.2.2.1,(zJ h.2.2.2).1],(zJ h.2.2.2).2]
 | .loop _ _ _ _ _,_,h=>#[#[h.1,h.2.1,(zJ h.2.2).1],(zJ h.2.2).2]
structure Nm(ss:List Str)(M:Str->Prop):Prop where
 nd:ss.Nodup
 so:sortedS ss=true
 mem:∀x,x∈ss↔M x
theorem Nm.uniq(h:Nm a M)(g:Nm s M):a=s:=Xw (Kw h.nd g.nd λx=>(h.mem x).trans (g.mem x).symm) h.so g.so
open Classical in
noncomputable def canon(M:Str->Prop):List Str:=if h:∃s,Nm s M then Classical.choose h else []
theorem Nm.canon(h:Nm s M):s=canon M:=by
 have e:∃s,Nm s M:=#[s,h]
 unfold K29.canon
 rw[dif_pos e]
 exact h.uniq (Classical.choose_spec e)
theorem Nm.len{s y:List Str}{M:Str->Prop}(h:Nm s M)(H:∀x,M x->x∈y):s.length<=y.length:=j4 h.nd λx a=>H x ((h.mem x).mp a)
def Lf.use(M:Str->Prop):Lf->Str->Prop
 | .rd x _ T,y=>(M y/\y≠x)∨y∈T.vars
 | .st x _ T,y=>(M y/\y≠x)∨y∈T.vars
 | .wr _ _ T U,y=>M y∨y∈T.vars∨y∈U.vars
 | .cl x _ _ t,y=>(M y/\y≠x)∨∃c∈t,y∈c.2.vars
 | .gv _ T,y=>y∈T.vars
def Bd.use:Bd->(Str->Prop)->Str->Prop
 | .nil,M=>M
 | .lf _ l r,M=>l.use (r.use M)
 | .ite _ _ T a b r,M=>λy=>(a.use (r.use M) y∨b.use (r.use M) y)∨y∈T.vars
 | .loop _ _ T a r,M=>λy=>(a.use (λ_=>False) y∨r.use M y)∨y∈T.vars
theorem JO:∀(a b:Bd) (M:Str->Prop),(a.app b).use M=a.use (b.use M)
 | .nil,_,_=>rfl
 | .lf _ l r,b,M=>by show l.use ((r.app b).use M)=l.use (r.use (b.use M));rw[JO r b M]
 | .ite _ _ T x y r,b,M=>by show(λz=>(x.use ((r.app b).use M) z∨y.use ((r.app b).use M) z)∨z∈T.vars)=λz=>(x.use (r.use (b.use M)) z∨y.use (r.use (b.use M)) z)∨z∈T.vars;rw[JO r b M]
 | .loop _ _ T x r,b,M=>by show(λz=>(x.use (λ_=>False) z∨(r.app b).use M z)∨z∈T.vars)=λz=>(x.use (λ_=>False) z∨r.use (b.use M) z)∨z∈T.vars;rw[JO r b M]
theorem Lf.use_in{M:Str->Prop}{l:Lf}(h:l.Ok Y)(a:∀x,M x->x∈Y):∀y,l.use M y->y∈Y:=by
 intro y H
 cases l with
 |rd x t T |st x t T=>exact H.elim (λz=>a y z.1) (ki h.2.1 y)
 |wr t u T U=>exact H.elim (a y) λz=>z.elim (ki h.1.1 y) (ki h.2.1 y)
 |cl x f q d=>exact H.elim (λz=>a y z.1) λ#[c,b,z]=>ki (h.2.2 c b).1 y z
 |gv t T=>exact ki h.1 y H
theorem Bd.use_in:∀{b:Bd} {M:Str->Prop},b.Ok Y->(∀x,M x->x∈Y)->∀y,b.use M y->y∈Y
 | .nil,_,_,H,y,c=>H y c
 | .lf _ l r,_,h,H,y,c=>Lf.use_in h.1 (Bd.use_in h.2 H) y c
 | .ite _ _ T a b r,_,h,H,y,c=>c.elim (λz=>z.elim (Bd.use_in h.2.1 (Bd.use_in h.2.2.2 H) y) (Bd.use_in h.2.2.1 (Bd.use_in h.2.2.2 H) y)) (ki h.1.1 y)
 | .loop _ _ T a r,_,h,H,y,c=>c.elim (λz=>z.elim (Bd.use_in h.2.1 (λ_ w=>w.elim) y) (Bd.use_in h.2.2 H y)) (ki h.1.1 y)
end K29
namespace K29
open PySem PySem.Spec PyProof.Rows L2
variable {P:Program}{w:World}{K:Frag}{mg:Str->Option Value}{base:Heap}
noncomputable abbrev dR:Stmt:=bE 14
noncomputable abbrev yu:Stmt:=bE 34
noncomputable abbrev pJ:Stmt:=bE 35
noncomputable abbrev uE:Stmt:=bE 36
noncomputable abbrev uD:Stmt:=bE 37
def df(n:Nat):Sp:=λv H Q _=>∃(a:Addr) (T:Tm) (y:List Str),v=[.ref a]/\aW H T a/\T.depth < n/\T.Good y/\y.length<=21/\
 ∀(r:Addr) (s:List Str) (h:Hp),H r=none->h r=some (.lst (s.map V.str))->s.Nodup->(∀x,x∈s↔x∈T.vars)->sortedS s=true->ae H h->Q (.ref r) h
theorem pQ:ak ["term"] ["term"] (aa dR):=bq
theorem tI{f:Addr}{o:FuncData}(F:aJ K "names_in" "names_in" dR f o){n:Nat}(C:Cl P w K mg base (n+1) f o ["term"] (df n) "names_in")(M:mg "set"=none)(p:mg "sorted"=none):aj P w K mg base ay (n+2) f o ["term"] (df (n+1)):=by
 refine F.ok pQ (λvs H Q E h=>?_) (λc0 A O s H vs Q E v h=>?_)
 ·obtain⟨a,T,Y,rfl,_⟩:=h
  rfl
 obtain⟨a,T,Y,rfl,t,dp,g,j,q⟩:=h
 refine#[_,(jd (jv (jX (jw (pv 0))) (jg (jl (jC jb))) jm) (jd (jv (jX (jw (pv 0))) (jg (jl (jC (ja (jw (pv 0)) jb)))) jm) (jg (jl (jO (z9 Z) Z p boot_sorted (ja (jz (qJ Z) Z M boot_set (ja (ju qg (C.e v (ja (jw (pv 0)) jb)) (C.e v (ja (jw (pv 0)) jb))) jb)) jb)))))),?_]
 cases T with
 |num m=>
  have b:H a=some (.tup [.str "num",.int m]):=t
  refine(jp b Z #[Z,_,Z,bJ IP ?_])
  exact#[IL,λr N=>q r [] _ N jc HH (λx=>Ip) Z (je N)]
 |var x=>
  have b:H a=some (.tup [.str "var",.str x]):=t
  refine(jp b Z #[Z,_,Z,aF IP ?_])
  refine(jp b Z #[Z,_,Z,bJ IP ?_])
  exact(jp b Z #[lg,λr N=>q r [x] _ N jc IN (λy=>Ip) Z (je N)])
 |op i B D=>
  obtain⟨p1,p2,b,h1,h2⟩:=t
  have d0:max B.depth D.depth+1 < n+1:=dp
  refine(jp b Z #[Z,_,Z,aF IP ?_])
  refine(jp b Z #[Z,_,Z,aF IP ?_])
  refine(jp b Z #[p1,B,Y,Z,h1,IM,g.2.1,j,λr1 S H1 n1 e1 d1 G o1 u=>?_])
  refine(jp (u _ _ b) Z #[p2,D,Y,Z,h2.same u,IM,g.2.2,j,λr2 k H2 n2 e2 d2 I o2 J=>?_])
  have l1:S.length<=21:=DV (j4 d1 λx d=>ki g.2.1 x ((G x).mp d)) j
  have l2:k.length<=21:=DV (j4 d2 λx d=>ki g.2.2 x ((I x).mp d)) j
  have b0:=zr
  refine#[r1,r2,_,_,Z,Z,J _ _ e1,e2,(by rw[DK,DK];omega),λc nc=>?_]
  refine#[c,S++k,Z,aC.of (by rw[jc,Ef]),(λL nd hs=>Fe (Fd (j4 nd hs)) (by rw[DM];show S.length+k.length+1 < 4096;omega)),λl L nl dL R=>?_]
  have lL:=j4 dL λx d=>(R x).mp d
  rw[DM]at lL
  refine#[l,L,Z,jc,IM,λz ss U W dz oz=>?_]
  have X:ae H (af (af H2 c (.lst (S.map V.str++k.map V.str))) l (BB P w l L)):=(u.trans J).trans ((je nc).trans (je nl))
  refine q z ss _ (X.free U) jc (W.nodup_iff.mpr dz) (λx=>?_) oz (X.trans (je U))
  rw[W.mem_iff,R x,Gd,G x,I x]
  exact List.mem_append.symm
theorem sY:aj P w K mg base ay 1 f d ["term"] (df 0):=by
 have n:∀v H Q E,¬df 0 v H Q E:=λv H Q E h=>by
  obtain⟨a,T,y,_,_,c,_⟩:=h
  exact absurd c (GH _)
 exact#[λv H Q E h=>absurd h (n v H Q E),λA o s H b u v Q E _ _ _ _ h=>absurd h (n v H Q E)]
theorem vJ(F:aJ K "names_in" "names_in" dR f a)(b:aw K a ["term"] [])(c:mg "names_in"=some (.ref f))(m:mg "set"=none)(M:mg "sorted"=none):
  ∀n:Nat,aj P w K mg base ay (n+1) f a ["term"] (df n)
 |0=>sY
 |n+1=>tI F #[(vJ F b c m M n),b,F.kp,c] m M
noncomputable def Lf.own:Lf->List (Addr×Tm)
 | .rd _ t T=>[(t,T)]
 | .st _ t T=>[(t,T)]
 | .wr t u T U=>[(t,T),(u,U)]
 | .cl _ _ _ a=>a
 | .gv t T=>[(t,T)]
noncomputable def Bd.own:Bd->List (Addr×Tm)
 | .nil=>[]
 | .lf _ l _=>l.own
 | .ite _ t T _ _ _=>[(t,T)]
 | .loop _ t T _ _=>[(t,T)]
noncomputable def rT(c:Addr×Tm):V:=.ref c.1
def nh:Sp:=λa H Q _=>∃(v:V) (s:Bd),a=[v]/\gp H v s/\∀(r:Addr) (h:Hp),h r=some (.tup (s.own.map rT))->ae H h->Q (.ref r) h
theorem YD:aK (a::b::r) (some 1) (some 2)=[b]:=by
 unfold aK
 have e:(1:Int)=((1:Nat):Int):=rfl
 have E:(2:Int)=((2:Nat):Int):=rfl
 rw[E,e,HT.sIx_nat,HT.sIx_nat,El,El]
 have c:min 1 (r.length+1+1)=1:=by omega
 have d:min 2 (r.length+1+1) - 1=1:=by omega
 rw[c,d]
 rfl
theorem vQ:ak ["statement","word"] ["statement"] (aa yu):=bq
theorem xK{f:Addr}{j:FuncData}(F:aJ K "own_terms" "own_terms" yu f j):aj P w K mg base ay 1 f j ["statement"] nh:=by
 refine F.ok vQ ?_ λC A o s H V Q E d h=>?_
 ·rintro _ _ _ _ ⟨v,s,rfl,_⟩
  rfl
 refine aR λJ k=>?_
 obtain⟨v,st,rfl,m,q⟩:=h
 refine k ?_
 clear k
 refine#[_,(jd (jx 1 vQ.nd (jw (pv 0))) (jd (jv (jA zh (pv 1) (jh (ja jk (ja jk jb))) Z) (jg (jl (jH zU (pv 0) (jE jf) ke))) jm) (jd (jv (jX (pv 1)) (jg (jl (jH zU (pv 0) (jE jf) ke))) jm) (jd (jv (jX (pv 1)) (jg (jl (jw (pv 0)))) jm) (jg (jl (jH zU (pv 0) (jE jf) (jE jf)))))))),?_]
 cases m with
 |lf p l V c g=>
  cases l with
  |rd x t T |st x t T=>
   obtain⟨rfl,i⟩:=g
   refine(jp c Z #[_,Z,bn,λl n=>#[l,_,Z,.inr (aA.of jc),Z,Z,_,Z,bJ IP ?_]])
   exact#[_,Z,_,Z,p,_,Z,ap c n,λr e d s=>q r e d ((je n).trans s)]
  |wr t u T U=>
   obtain⟨rfl,i,L⟩:=g
   refine(jp c Z #[_,Z,bn,λl n=>#[l,_,Z,.inr (aA.of jc),Z,Z,_,Z,aF IP ?_]])
   refine#[_,Z,Z,_,Z,bJ IP ?_]
   exact#[_,Z,_,Z,p,_,Z,ap c n,λr e d s=>q r e d ((je n).trans s)]
  |cl x M y N=>
   obtain⟨rfl,z,i⟩:=g
   refine(jp c Z #[_,Z,bn,λl n=>#[l,_,Z,.inr (aA.of jc),Z,Z,_,Z,aF IP ?_]])
   refine#[_,Z,Z,_,Z,aF IP ?_]
   refine#[_,Z,Z,_,Z,bJ IP ?_]
   exact(jp (ap c n) Z (q y _ (ap z n) (je n)))
  |gv t T=>
   obtain⟨rfl,i⟩:=g
   refine(jp c Z #[_,Z,bn,λl n=>#[l,_,Z,.inr (aA.of jc),Z,Z,_,Z,aF IP ?_]])
   refine#[_,Z,Z,_,Z,aF IP ?_]
   refine#[_,Z,Z,_,Z,aF IP ?_]
   exact#[_,Z,_,Z,_,Z,p,_,Z,ap c n,λr e d s=>q r e (by rw[YD]at d;exact d) ((je n).trans s)]
 |ite p t T a b B O D R c G g I S W |loop p t T a B D c G g I=>
  refine(jp c Z #[_,Z,bn,λl n=>#[l,_,Z,.inr (aA.of jc),Z,Z,_,Z,aF IP ?_]])
  refine#[_,Z,Z,_,Z,aF IP ?_]
  refine#[_,Z,Z,_,Z,aF IP ?_]
  exact#[_,Z,_,Z,_,Z,p,_,Z,ap c n,λr e d s=>q r e (by rw[YD]at d;exact d) ((je n).trans s)]
theorem Kx{K:Frag}{a:Addr}{Y:List Str}{t:TT}{T:TE}{q:List V->Hp->Prop}{b:L2.St}{H:Hp}(f:Str->Bool)(L:Y.length<=1000)(A:H a=some (.lst (Y.map V.str)))
  (B:∀y g (Q:Bool->Hp->Prop),y∈Y->ae H g->(∀j,ae g j->Q (f y) j)->t (some (.str y)::b) g Q)
  (C:∀y g (Q:VK),y∈Y->Q (.str y) g->T (some (.str y)::b) g Q) (D:∀c,ae H c->q ((Y.filter f).map V.str) c):eO (vj K a) 1 b (bg 0) t T q H:=by
 have F:=zr
 refine#[λi m n c=>m=Y.length - i/\i<=Y.length/\n=((Y.take i).filter f).map V.str/\ae H c,#[Y.length,IN,DX _,IN,ae.refl H],?_]
 rintro i m n c ⟨rfl,M,rfl,k⟩
 have d:aC K c a (Y.map V.str):=aC.of (k _ _ A)
 by_cases h:i < Y.length
 ·have o:(Y.map V.str)[i]?=some (.str Y[i]):=by rw[D4,DJ h];rfl
  refine .inr #[#[_,_,d,o],?_,λz j=>z=((Y.take (i+1)).filter f).map V.str/\ae H j,λz j #[G,I]=>#[Y.length - (i+1),IM,Z,h,G,I],λv j N l y=>?_]
  ·rw[DK]
   have:=FP f (Y.take i)
   rw[Ec]at this
   omega
  obtain⟨e,y⟩:=y
  subst e
  have p:=y _ d
  rw[o]at p
  cases p
  obtain⟨w,rfl⟩:=sS l
  have r:Y[i]∈Y:=FJ h
  have s:Y.take (i+1)=Y.take i++[Y[i]]:=by rw[Eu,DJ h];rfl
  refine#[#[[some _],Z,Z],B Y[i] _ _ r k λJ u=>?_]
  cases x:f Y[i] with
  |true=>
   refine bJ Z (C Y[i] J _ r #[?_,k.trans u])
   rw[s,List.filter_append,Ef]
   have E:[Y[i]].filter f=[Y[i]]:=by simp [x]
   rw[E]
   rfl
  |false=>
   refine aF Z #[?_,k.trans u]
   rw[s,List.filter_append,Ef]
   have E:[Y[i]].filter f=[]:=by simp [x]
   rw[E]
   simp
 ·have e:i=Y.length:=by omega
  subst e
  refine .inl #[#[_,d,IN],?_]
  rw[Fk (DN _)]
  exact D c k
def Lf.bt(M:Str->Prop):Lf->Str->Prop
 | .rd x _ _,y=>M y/\y≠x
 | .st x _ _,y=>M y/\y≠x
 | .wr _ _ _ _,y=>M y
 | .cl x _ _ _,y=>M y/\y≠x
 | .gv _ _,_=>False
def Bd.bt(M:Str->Prop):Bd->Str->Prop
 | .nil,y=>M y
 | .lf _ l _,y=>l.bt M y
 | .ite _ _ _ a b _,y=>a.use M y∨b.use M y
 | .loop _ _ _ a _,y=>a.use (λ_=>False) y∨M y
theorem ZY(h:gp H v s)(M:Str->Prop)(y:Str):s.use M y↔s.bt M y∨∃c∈s.own,y∈c.2.vars:=by
 cases h with
 |lf p l V _ _=>
  cases l with
  |rd x t T |st x t T=>exact#[λz=>z.elim .inl λw=>.inr #[_,List.mem_singleton.mpr Z,w],λz=>z.elim .inl λ#[c,hc,w]=>.inr (by rw[List.mem_singleton.mp hc]at w;exact w)]
  |wr t u T U=>
   refine#[λz=>z.elim .inl λw=>.inr (w.elim (λw=>#[_,D3 ..,w]) λw=>#[_,D9 _ (List.mem_singleton.mpr Z),w]),λz=>z.elim .inl λ#[c,hc,w]=>.inr ?_]
   rcases List.mem_cons.mp hc with e |hc
   ·rw[e]at w;exact .inl w
   ·rw[List.mem_singleton.mp hc]at w;exact .inr w
  |cl x f q d=>exact Ip
  |gv t T=>exact#[λw=>.inr #[_,List.mem_singleton.mpr Z,w],λz=>z.elim False.elim λ#[c,hc,w]=>by rw[List.mem_singleton.mp hc]at w;exact w]
 |ite p t T a b Q g A B _ _ _ _ _ _ |loop p t T a Q A _ _ _ _=>exact#[λz=>z.elim .inl λw=>.inr #[_,List.mem_singleton.mpr Z,w],λz=>z.elim .inl λ#[c,hc,w]=>.inr (by rw[List.mem_singleton.mp hc]at w;exact w)]
structure NL(H:Hp)(g:Addr)(ss:List Str)(M:Str->Prop)(ys:List Str):Prop where
 at':H g=some (.lst (ss.map V.str))
 nm:Nm ss M
 sub:∀x,M x->x∈ys
 y20:ys.length<=21
theorem NL.len{H:Hp}{g:Addr}{s:List Str}{M:Str->Prop}{y:List Str}(h:NL H g s M y):s.length<=21:=DV (h.nm.len h.sub) h.y20
theorem NL.same(h:NL H g a M y)(s:ae H b):NL b g a M y:=#[s _ _ h.at',h.nm,h.sub,h.y20]
structure NU(H:Hp)(g:Addr)(ss:List Str)(M:Str->Prop)(ys:List Str):Prop where
 at':H g=some (.lst (ss.map V.str))
 nd:ss.Nodup
 mem:∀x,x∈ss↔M x
 sub:∀x,M x->x∈ys
 y20:ys.length<=21
theorem NL.nu(h:NL H g s M y):NU H g s M y:=#[h.at',h.nm.nd,h.nm.mem,h.sub,h.y20]
def vX(n:Nat):Sp:=λa H Q _=>∃(v:V) (g:Addr) (s:Bd) (S:List Str) (M:Str->Prop) (Y:List Str),a=[v,.ref g]/\gp H v s/\NL H g S M Y/\s.Ok Y/\s.dep < n+1/\s.size<=10000000/\
 ∀(r:Addr) (z:List Str) (h:Hp),h r=some (.lst (z.map V.str))->(∀y,y∈z↔s.bt M y)->z.length<=50->ae H h->Q (.ref r) h
def gj(n:Nat):Sp:=λa H Q _=>∃(v:V) (g:Addr) (s:Bd) (S:List Str) (M:Str->Prop) (y:List Str),a=[v,.ref g]/\gp H v s/\NL H g S M y/\s.Ok y/\s.dep < n+1/\s.size<=10000000/\
 ∀(r:Addr) (z:List Str) (h:Hp),H r=none->NL h r z (s.use M) y->ae H h->Q (.ref r) h
def ik(n:Nat):Sp:=λv H Q _=>∃(a g:Addr) (b:Bd) (x:List V) (s:List Str) (M:Str->Prop) (y:List Str),v=[.ref a,.ref g]/\H a=some (.tup x)/\dj H b x/\NU H g s M y/\b.Ok y/\b.dep < n/\b.size<=10000000/\
 ∀(r:Addr) (z:List Str) (h:Hp),H r=none->NL h r z (b.use M) y->ae H h->Q (.ref r) h
theorem Nm.empty:Nm [] (λ_=>False):=#[HH,Z,λx=>#[λh=>absurd h Eb,False.elim]]
theorem vU:ak ["statement","behind","word"] ["statement","behind"] (aa pJ):=bq
noncomputable def pX:Scope:=#[.function,[(".0",.local),("name",.local),("statement",.free)],false,false,[]]
theorem AD:(["name","statement"]:List Str).Nodup:=by decide+kernel
theorem Ak:a8 ["statement","behind","word"] (aa pJ) pX ["name","statement"] 1 [0]:=nR
theorem ZZ{L n:Nat}(F:aJ K "used_behind_terms" "used_behind_terms" pJ f fd)(J:Cl P w K mg base L fA f0 ["body","behind"] (ik n) "used_ahead"):aj P w K mg base ay (L+1) f fd ["statement","behind"] (vX n):=by
 refine F.ok vU ?_ λc0 A O s H vs Q E R h=>?_
 ·rintro _ _ _ _ ⟨v,g,s,G,M,Y,rfl,_⟩
  rfl
 refine aR λGq kq=>?_
 obtain⟨v,g,st,G,M,Y,rfl,hs,c,W,hd,hz,q⟩:=h
 refine kq ?_
 clear kq
 refine#[_,(jd (jx 2 vU.nd (jw (pv 0))) (jd (jv (jA zh (pv 2) (jh (ja jk (ja jk (ja jk jb)))) Z) (jg (jl (@za _ _ _ _ _ _ _ (["name","statement"]) (1) ([0]) _ _ _ _ Z (zT (pv 1)) Ak (λ_ _ _ _ _=>(js (i:=0) AD Z (Or.inl Z))) (λ_ _ _ _ _=>(@yg _ _ _ (jA KY (pv 0) (jr (r:=fu K) kI (pv 1) jf (λ_ _=>Z)) (aD _)))) (λ_ _ _ _ _=>(pv 0)) (by intro _;rfl)))) jm) (jd (jv (jX (pv 2)) (jg (jl (ju qg (J.e R.m (ja (jw (pv 0)) (ja (pv 1) jb))) (J.e R.m (ja (jw (pv 0)) (ja (pv 1) jb)))))) jm) (jd (jv (jX (pv 2)) (jg (jl (ju qg (J.e R.m (ja (jw (pv 0)) (ja (jC jb) jb))) (pv 1)))) jm) (jd (jv (jX (pv 2)) (jg (jl (jC jb))) jm) (jg (jl (pv 1)))))))),?_]
 have g0:=c.len
 cases hs with
 |lf p l vs d B=>
  cases l with
  |rd x t T |st x t T=>
   obtain⟨rfl,X⟩:=B
   refine(jp d Z #[_,Z,dU,λl N=>#[l,_,Z,.inr (aA.of jc),Z,Z,_,Z,bJ IP ?_]])
   have S:ae H (af H l (.tup [.str "set",.str "read",.str "call"])):=je N
   refine#[_,Z,g,Z,#[_,aC.of (S _ _ c.at')],Kx (λy=>!decide (V.str y=V.str x)) IM (S _ _ c.at') (λy I Q' hy k C=>?_) (λy I Q' hy C=>#[_,Z,C]) λH' k r j=>?_]
   ·exact#[_,Z,jp (k _ _ (S _ _ d)) Z #[Z,_,Z,C _ (ae.refl _)]]
   ·refine q r _ _ jc (λy=>?_) (DV (FP ..) IM) ((S.trans k).trans (je j))
    rw[List.mem_filter,c.nm.mem y]
    exact and_congr_right λ_=>by simp
  |wr t u T U=>
   obtain⟨rfl,X,hU⟩:=B
   refine(jp d Z #[_,Z,dU,λl N=>#[l,_,Z,.inr (aA.of jc),Z,Z,_,Z,aF IP ?_]])
   refine#[_,Z,Z,_,Z,aF IP ?_]
   refine#[_,Z,Z,_,Z,aF IP ?_]
   refine#[_,Z,Z,_,Z,aF IP ?_]
   exact#[_,Z,q g G _ (ap c.at' N) c.nm.mem IM (je N)]
  |cl x f' q' ts=>
   obtain⟨rfl,h8,X⟩:=B
   refine(jp d Z #[_,Z,dU,λl N=>#[l,_,Z,.inr (aA.of jc),Z,Z,_,Z,bJ IP ?_]])
   have S:ae H (af H l (.tup [.str "set",.str "read",.str "call"])):=je N
   refine#[_,Z,g,Z,#[_,aC.of (S _ _ c.at')],Kx (λy=>!decide (V.str y=V.str x)) IM (S _ _ c.at') (λy I Q' hy k C=>?_) (λy I Q' hy C=>#[_,Z,C]) λH' k r j=>?_]
   ·exact#[_,Z,jp (k _ _ (S _ _ d)) Z #[Z,_,Z,C _ (ae.refl _)]]
   ·refine q r _ _ jc (λy=>?_) (DV (FP ..) IM) ((S.trans k).trans (je j))
    rw[List.mem_filter,c.nm.mem y]
    exact and_congr_right λ_=>by simp
  |gv t T=>
   obtain⟨rfl,X⟩:=B
   refine(jp d Z #[_,Z,dU,λl N=>#[l,_,Z,.inr (aA.of jc),Z,Z,_,Z,aF IP ?_]])
   refine#[_,Z,Z,_,Z,aF IP ?_]
   refine#[_,Z,Z,_,Z,aF IP ?_]
   refine#[_,Z,Z,_,Z,bJ IP ?_]
   exact#[le,λr j=>q r [] _ jc (λy=>#[λh=>absurd h Eb,λh=>(show False from h).elim]) (DX _) ((je N).trans (je j))]
 |ite p t T a b qa qb as bs d h0 B h3 h4 h5=>
  refine(jp d Z #[_,Z,dU,λl N=>#[l,_,Z,.inr (aA.of jc),Z,Z,_,Z,aF IP ?_]])
  refine#[_,Z,Z,_,Z,bJ IP ?_]
  have S:ae H (af H l (.tup [.str "set",.str "read",.str "call"])):=je N
  have h6:max (max a.dep b.dep+1) 0 < n+1:=hd
  have h7:a.size+b.size+0+1<=10000000:=hz
  refine(jp (S _ _ d) Z #[_,Z,qa,g,a,as,G,M,Y,Z,S _ _ B,h4.mono (ae.tm S),(c.same S).nu,W.2.1,IM,IM,λr1 z1 I _ D k1=>?_])
  have z:=S.trans k1
  refine(jp (z _ _ d) Z #[_,Z,qb,g,b,bs,G,M,Y,Z,z _ _ h3,h5.mono (ae.tm z),(c.same z).nu,W.2.2.1,IM,IM,λr2 z2 H2 _ n2 k2=>?_])
  have l1:=D.len
  have l2:=n2.len
  have b0:=zr
  refine#[r1,r2,_,_,Z,Z,k2 _ _ D.at',n2.at',by rw[DK,DK];omega,λr j=>q r (z1++z2) _ (by rw[jc,Ef]) (λy=>?_) (by rw[DM];omega) ((z.trans k2).trans (je j))]
  rw[Gd,D.nm.mem y,n2.nm.mem y]
  exact Ip
 |loop p t T a qa as d h0 B h3=>
  refine(jp d Z #[_,Z,dU,λl N=>#[l,_,Z,.inr (aA.of jc),Z,Z,_,Z,aF IP ?_]])
  refine#[_,Z,Z,_,Z,aF IP ?_]
  refine#[_,Z,Z,_,Z,bJ IP ?_]
  have S:ae H (af H l (.tup [.str "set",.str "read",.str "call"])):=je N
  have h6:max (a.dep+1) 0 < n+1:=hd
  have h7:a.size+0+1<=10000000:=hz
  refine(jp (S _ _ d) Z #[le,λe ne=>?_])
  have z:=S.trans (je (o:=.lst []) ne)
  refine#[qa,e,a,as,[],λ_=>False,Y,Z,z _ _ B,h3.mono (ae.tm z),(NL.nu #[jc,Nm.empty,λ_ w=>w.elim,c.y20]),W.2.1,IM,IM,λr1 z1 I _ D k1=>?_]
  have l1:=D.len
  have s3:=z.trans k1
  have b0:=zr
  refine#[_,Z,r1,g,_,_,Z,Z,D.at',s3 _ _ c.at',by rw[DK,DK];omega,λr j=>q r (z1++G) _ (by rw[jc,Ef]) (λy=>?_) (by rw[DM];omega) (s3.trans (je j))]
  rw[Gd,D.nm.mem y,c.nm.mem y]
  exact Ip
theorem xX(h:gp H v s):∀c∈s.own,aW H c.2 c.1:=by
 cases h with
 |lf p l V _ d=>
  cases l with
  |rd x t T |st x t T |gv t T=>intro c hc;rw[List.mem_singleton.mp hc];exact d.2
  |wr t u T U=>
   intro c hc
   rcases List.mem_cons.mp hc with e |hc
   ·rw[e];exact d.2.1
   ·rw[List.mem_singleton.mp hc];exact d.2.2
  |cl x f q i=>exact d.2.2
 |ite p t T a b Q j A B _ g _ _ _ _ |loop p t T a Q A _ g _ _=>intro c hc;rw[List.mem_singleton.mp hc];exact g
theorem xY(h:gp H v s)(o:s.Ok y):s.own.length<=100/\∀c∈s.own,cR y c.2:=by
 have O:∀(t:Addr) (T:Tm),cR y T->[(t,T)].length<=100/\∀c∈[(t,T)],cR y c.2:=λt T h=>#[by show 1<=100;omega,λc hc=>by rw[List.mem_singleton.mp hc];exact h]
 cases h with
 |lf p l V _ g=>
  cases l with
  |rd x t T |st x t T=>exact O t T o.1.2
  |wr t u T U=>
   refine#[by show 2<=100;omega,λc hc=>?_]
   rcases List.mem_cons.mp hc with e |hc
   ·rw[e];exact o.1.1
   ·rw[List.mem_singleton.mp hc];exact o.1.2
  |cl x f q i=>exact#[DV o.1.2.1 IL,o.1.2.2]
  |gv t T=>exact O t T o.1
 |ite p t T a b Q j A B _ d _ _ _ _ |loop p t T a Q A _ d _ _=>exact O t T o.1
theorem zP:∀(a b c:Bd),(a.app b).app c=a.app (b.app c)
 | .nil,_,_=>rfl
 | .lf p l r,b,c=>by show Bd.lf p l ((r.app b).app c)=_;rw[zP r b c];rfl
 | .ite p t T x y r,b,c=>by show Bd.ite p t T x y ((r.app b).app c)=_;rw[zP r b c];rfl
 | .loop p t T x r,b,c=>by show Bd.loop p t T x ((r.app b).app c)=_;rw[zP r b c];rfl
theorem qT:∀(a:Bd),a.app .nil=a
 | .nil=>rfl
 | .lf p l r=>by show Bd.lf p l (r.app .nil)=_;rw[qT r]
 | .ite p t T x y r=>by show Bd.ite p t T x y (r.app .nil)=_;rw[qT r]
 | .loop p t T x r=>by show Bd.loop p t T x (r.app .nil)=_;rw[qT r]
inductive OI(v:V)(g r nl:Addr)(s:Bd)(M:Str->Prop)(H1:Hp)(i:Nat)(σ:L2.St)(H':Hp):Prop
 |mk (o3:Option V) (zs:List Str) (e0:σ=[some v,some (.ref g),some (.ref nl),o3]) (e1:H' nl=some (.lst (zs.map V.str))) (e2:∀y,y∈zs↔s.bt M y∨∃c∈s.own.take i,y∈c.2.vars) (e3:zs.length<=50+21*i) (e4:ar nl H1 H'):OI v g r nl s M H1 i σ H'
theorem pU:ak ["statement","behind","names","term"] ["statement","behind"] (aa uE):=bq
theorem Z0{L:Nat}(F:aJ K "used_ahead_of" "used_ahead_of" uE f fd)(cB:Cl P w K mg base (L+9) fB f0 ["statement","behind"] (vX n) "used_behind_terms")(cO:Cl P w K mg base 1 fO f2 ["statement"] nh "own_terms")(cN:Cl P w K mg base 7 fN f3 ["term"] (df 6) "names_in")(m0:mg "list"=none)(m2:mg "set"=none)(m3:mg "sorted"=none):aj P w K mg base ay (L+10) f fd ["statement","behind"] (gj n):=by
 refine F.ok pU ?_ λc0 A o1 s H vs Q E t h=>?_
 ·rintro _ _ _ _ ⟨v,g,s,ss,M,Y,rfl,_⟩
  rfl
 refine aR λGq D=>?_
 obtain⟨v,g,st,ss,M,Y,rfl,j,u,U,hd,hz,q⟩:=h
 refine D ?_
 clear D
 refine#[_,(jd (jx 2 pU.nd (jz Jc Z m0 boot_list (ja (cB.e t.m (ja (pv 0) (ja (pv 1) jb))) jb))) (jd (j6 Ej Z (zI (cO.e t.m (ja (pv 0) jb))) (js (i:=3) pU.nd Z (Or.inl Z)) (jg (jL (kK D2 GQ GP Qc (pv 2) (ja (cN.e t.m (ja (pv 3) jb)) jb))))) (jg (jl (jO (z9 Z) Z m3 boot_sorted (ja (jz (qJ Z) Z m2 boot_set (ja (pv 2) jb)) jb)))))),?_]
 refine ah λF1 C=>#[_,Z,_,Z,v,g,st,ss,M,Y,Z,j,u,U,hd,hz,λr1 G H1 e1 m1 l1 k1=>#[r1,_,Z,.inl (aC.of e1),λN I=>C _ _ ?_]]
 clear C
 have s2:ae H (af H1 N (.lst (G.map V.str))):=k1.trans (je I)
 have J:=j.mono (ae.tm s2)
 obtain⟨o2,O⟩:=xY j U
 have a:af H1 N (.lst (G.map V.str)) N=some (.lst (G.map V.str)):=jc
 have h0:H N=none:=k1.free I
 generalize af H1 N (.lst (G.map V.str))=H2 at s2 J a
 refine ah λF1 C=>?_
 refine dJ λF kF=>#[_,Z,v,st,Z,J,λr H3 t W=>#[r,Z,#[_,aA.of t],kF _ _ ?_]]
 clear kF
 have r0:r≠N:=jG t (W _ _ a) (by intro z;cases z)
 have s3:=s2.trans W
 have b0:=zr
 refine qj (K:=K) (xs:=st.own.map rT) (OI v g r N st M H3) #[_,G,Z,W _ _ a,λy=>?_,IM,ar.refl] (λi σ H' hi h=>?_) ?_ (λσ H' h=>C _ _ ?_)
 ·rw[m1 y]
  exact#[.inl,λz=>z.elim (λw=>w) λ#[c,p,_]=>absurd p Eb]
 ·obtain⟨_,_,_,_,_,_,k⟩:=h
  exact aA.of (k _ _ r0 t)
 ·clear C
  intro E _ i x σ H4 B fE Gq D h
  obtain⟨o3,X,rfl,h1,R,h3,k4⟩:=h
  rw[D4]at B
  cases p:st.own[i]? with
  |none=>rw[p]at B;cases B
  |some c=>
   rw[p]at B
   cases B
   refine D ?_
   clear D
   have cm:=D5 p
   have hi:i < st.own.length:=by
    rcases Hg i st.own.length with z |z
    ·exact z
    ·rw[Fb z]at p;cases p
   have tm:ai H3 H4:=λb xs e=>k4 b _ (jG e (W _ _ a) (by intro z;cases z)) e
   show ni _ E [some v,some (.ref g),some (.ref N),some (.ref c.1)] H4
   refine#[_,Z,.inl #[Z,_,aC.of h1],_,Z,c.1,c.2,Y,Z,((xX j c cm).mono (ae.tm s3)).mono tm,(O c cm).2,(O c cm).1,u.y20,λr5 s5 H5 n5 e5 d5 m5 o5 k5=>?_]
   have l5:s5.length<=21:=DV (j4 d5 λx B=>ki (O c cm).1 x ((m5 x).mp B)) u.y20
   refine#[N,r5,_,_,Z,Z,k5 _ _ h1,e5,by rw[DK,DK];omega,fE _ _ #[_,X++s5,Z,by rw[jc,Ef],λy=>?_,by rw[DM];omega,λb o nb e=>?_]]
   ·rw[Gd,R y,m5 y,Eu,p]
    refine#[λz=>z.elim (λz=>z.elim .inl λ#[d,hd,w]=>.inr #[d,EU _ hd,w]) λw=>.inr #[c,DZ _ (List.mem_singleton.mpr Z),w],λz=>z.elim (λw=>.inl (.inl w)) λ#[d,hd,w]=>?_]
    rcases List.mem_append.mp hd with hd |hd
    ·exact .inl (.inr #[d,hd,w])
    ·have ed:d=c:=List.mem_singleton.mp hd
     rw[ed]at w
     exact .inr w
   ·rw[jj nb]
    exact k5 _ _ (k4 b o nb e)
 ·obtain⟨o3,X,rfl,h1,R,h3,k4⟩:=h
  clear C
  rw[DK]at R h3
  have s4:ae H H':=λb o e=>k4 b o (ji e h0) (s3 _ _ e)
  refine#[_,Z,N,X,Z,aC.of h1,(λL nd j=>Fe (Fd (j4 nd j)) (by show X.length+1 < 4096;omega)),λl L S h4 hm=>?_]
  have sub:∀y∈L,y∈Y:=λy hy=>Bd.use_in U u.sub y ((ZY j M y).mpr (by have:=(R y).mp ((hm y).mp hy);rwa [Er]at this))
  have lL:=DV (j4 h4 sub) u.y20
  refine#[l,L,Z,jc,IM,λr' s0 T pm nd so=>?_]
  refine q r' s0 _ ((s4.trans (je S)).free T) #[jc,#[pm.nodup_iff.mpr nd,so,λy=>?_],Bd.use_in U u.sub,u.y20] ((s4.trans (je S)).trans (je T))
  rw[pm.mem_iff,hm y,R y,ZY j M y,Er]
theorem none_of(s:ae H h)(n:h r=none):H r=none:=by
 cases z:H r with
 |none=>rfl
 |some o=>have:=s _ _ z;rw[n]at this;cases this
inductive UI(a g:Addr)(b:Bd)(xs:List V)(M:Str->Prop)(ys:List Str)(H:Hp)(i:Nat)(σ:L2.St)(H':Hp):Prop
 |mk (g':Addr) (o3:Option V) (pre eM:Bd) (zs:List Str) (e0:σ=[some (.ref a),some (.ref g),some (.ref g'),o3]) (e1:b=pre.app eM) (e2:dj H pre (xs.take (xs.length - i))) (e3:NL H' g' zs (eM.use M) ys) (e4:ae H H') (e5:H g'=none):UI a g b xs M ys H i σ H'
theorem mP:ak ["body","behind","names","statement"] ["body","behind"] (aa uD):=bq
theorem xP{L:Nat}(F:aJ K "used_ahead" "used_ahead" uD f fd)(cU:Cl P w K mg base (L+10) fU f0 ["statement","behind"] (gj n) "used_ahead_of")(J:mg "sorted"=none)(N:mg "reversed"=none):aj P w K mg base ay (L+11) f fd ["body","behind"] (ik (n+1)):=by
 refine F.ok mP ?_ λc0 A O s H vs Q E hr h=>?_
 ·rintro _ _ _ _ ⟨a,g,b,xs,R,M,Y,rfl,_⟩
  rfl
 refine aR λGq p=>?_
 obtain⟨a,g,b,xs,R,M,Y,rfl,ha,hb,d,ho,hd,hz,q⟩:=h
 refine p ?_
 clear p
 refine#[_,(jd (jx 2 mP.nd (jO QR Z J boot_sorted (ja (pv 1) jb))) (jd (j6 Ej Z (@ZT _ _ _ _ _ _ _ Z N boot_reversed (pv 0) IL IL IQ IQ) (js (i:=3) mP.nd Z (Or.inl Z)) (jg (jx 2 mP.nd (cU.e hr.m (ja (pv 3) (ja (pv 2) jb)))))) (jg (jl (pv 2))))),?_]
 have g0:R.length<=21:=DV (j4 d.nd λx o=>d.sub x ((d.mem x).mp o)) d.y20
 have b0:=aE
 refine ah λF1 t=>#[_,Z,g,R,Z,aC.of d.at',IM,λl c nl pm so=>t _ _ ?_]
 clear t
 have T:Nm c M:=#[pm.nodup_iff.mpr d.nd,so,λx=>pm.mem_iff.trans (d.mem x)]
 have U:ae H (af H l (.lst (c.map V.str))):=je nl
 have u:NL (af H l (.lst (c.map V.str))) l c M Y:=#[jc,T,d.sub,d.y20]
 generalize af H l (.lst (c.map V.str))=H1 at U u
 have xl:=hb.len
 refine ah λF1 t=>?_
 refine dJ λF kF=>#[_,Z,a,xs,Z,aA.of (U _ _ ha),kF _ _ ?_]
 clear kF
 refine Q8 (K:=K) (xs:=xs) (UI a g b xs M Y H) #[l,_,b,.nil,c,Z,(qT b).symm,by rw[HW,Er];exact hb,u,U,nl] (λi σ H' hi h=>?_) ?_ (λσ H' h=>t _ _ ?_)
 ·obtain⟨_,_,_,_,_,_,_,_,_,k,_⟩:=h
  exact aA.of (k _ _ ha)
 ·clear t
  intro E _ i x σ H2 o fE Gq p h
  obtain⟨I,o3,pre,eM,W,rfl,j,y,X,B,n2⟩:=h
  have hi:i < xs.length:=by
   rcases Hg i xs.length with z |z
   ·exact z
   ·rw[Fb (by simpa using z)]at o;cases o
  rw[Gx hi]at o
  have et:xs.take (xs.length - i)=xs.take (xs.length - (i+1))++[x]:=by
   have C:xs.length - i=(xs.length - 1 - i)+1:=by omega
   have e2:xs.length - (i+1)=xs.length - 1 - i:=by omega
   rw[C,e2,Eu,o]
   rfl
  rw[et]at y
  rcases y.last with ⟨e,_⟩ | ⟨ws,v,D,S,C,e2,h4,h5⟩
  ·exact absurd e IN
  obtain⟨ew,ev⟩:=List.append_inj' C Z
  cases ev
  subst e2
  have h0:=zJ (j▸ho)
  have G:=zJ h0.1
  have a1:b.dep=max (D.app S).dep eM.dep:=by rw[j,zf]
  have a2:(D.app S).dep=max D.dep S.dep:=zf ..
  have h6:S.dep<=b.dep:=by rw[a1,a2];exact DV (Hc ..) (Ho ..)
  clear a1 a2
  have h7:S.size<=b.size:=by rw[j,jT,jT];omega
  refine p ?_
  clear p
  show dZ _ _ E [some (.ref a),some (.ref g),some (.ref I),some x] H2
  refine#[_,Z,_,Z,x,I,S,W,eM.use M,Y,Z,h5.mono (ae.tm B),X,G.2,IM,IM,λr z H3 nr n3 k3=>fE _ _ #[r,_,D,S.app eM,z,Z,by rw[j,zP],?_,by rw[JO];exact n3,B.trans k3,none_of B nr]]
  rw[ew]
  exact h4
 ·obtain⟨I,o3,pre,eM,W,rfl,j,y,X,B,n2⟩:=h
  rw[Hf]at y
  have ep:pre= .nil:=by
   rcases y.last with ⟨_,e⟩ | ⟨ws,v,D,S,C,_⟩
   ·exact e
   ·exact absurd C IN
  rw[ep]at j
  refine#[_,Z,q I W H' n2 ?_ B]
  rw[j]
  exact X
theorem xp:aj P w K mg base ay k f e ["body","behind"] (ik 0):=by
 have n:∀v H Q E,¬ik 0 v H Q E:=λv H Q E h=>by
  obtain⟨a,g,b,x,S,M,y,_,_,_,_,_,d,_⟩:=h
  exact absurd d (GH _)
 exact#[λv H Q E h=>absurd h (n v H Q E),λA o s H c u v Q E _ _ _ _ h=>absurd h (n v H Q E)]
theorem Bp(F:aJ K "used_ahead" "used_ahead" uD f e)(FB:aJ K "used_behind_terms" "used_behind_terms" pJ r g)(d:aJ K "used_ahead_of" "used_ahead_of" uE o b)
  (B:aw K e ["body","behind"] []) (i:mg "used_ahead"=some (.ref f)) (j:aw K g ["statement","behind"] []) (k:mg "used_behind_terms"=some (.ref r)) (p:aw K b ["statement","behind"] []) (q:mg "used_ahead_of"=some (.ref o)) (C:Cl P w K mg base 1 u s ["statement"] nh "own_terms") (l:Cl P w K mg base 7 v t ["term"] (df 6) "names_in") (M:mg "list"=none) (a:mg "set"=none) (m:mg "sorted"=none) (c:mg "reversed"=none):
  ∀n:Nat,aj P w K mg base ay (3*n+8) f e ["body","behind"] (ik n)/\aj P w K mg base ay (3*n+10) o b ["statement","behind"] (gj n)
 |0=>by
  have h:aj P w K mg base ay 8 f e ["body","behind"] (ik 0):=xp
  have H:=ZZ (L:=8) (n:=0) FB #[h,B,F.kp,i]
  exact#[h,Z0 (L:=0) d #[H,j,FB.kp,k] C l M a m]
 |n+1=>by
  have I:=(Bp F FB d B i j k p q C l M a m c n).2
  have h:=xP (L:=3*n) F #[I,p,d.kp,q] m c
  have E:3*n+11=3*(n+1)+8:=by omega
  rw[E]at h
  have H:=ZZ (L:=3*(n+1)+8) (n:=n+1) FB #[h,B,F.kp,i]
  exact#[h,Z0 (L:=3*(n+1)) d #[H,j,FB.kp,k] C l M a m]
noncomputable abbrev yp:Stmt:=bE 39
noncomputable abbrev pk:Stmt:=bE 42
noncomputable abbrev pi:Stmt:=bE 43
noncomputable abbrev iG:Stmt:=bE 44
noncomputable abbrev pw:Stmt:=bE 45
noncomputable def Lf.cut:Lf->Nat
 | .st _ _ _=>0
 | .gv _ _=>0
 |_=>1
noncomputable def Bd.cuts:Bd->Nat
 | .nil=>0
 | .lf _ l r=>l.cut+r.cuts
 | .ite _ _ _ a b r=>1+a.cuts+b.cuts+r.cuts
 | .loop _ _ _ a r=>1+a.cuts+r.cuts
noncomputable def Bd.inn:Bd->Bd
 | .ite _ _ _ a b _=>a.app b
 | .loop _ _ _ a _=>a
 |_=>.nil
theorem zN:∀(a b:Bd),(a.app b).cuts=a.cuts+b.cuts
 | .nil,b=>by show b.cuts=0+b.cuts;omega
 | .lf _ l r,b=>by have:=zN r b;show l.cut+(r.app b).cuts=l.cut+r.cuts+b.cuts;omega
 | .ite _ _ _ x y r,b=>by have:=zN r b;show 1+x.cuts+y.cuts+(r.app b).cuts=1+x.cuts+y.cuts+r.cuts+b.cuts;omega
 | .loop _ _ _ x r,b=>by have:=zN r b;show 1+x.cuts+(r.app b).cuts=1+x.cuts+r.cuts+b.cuts;omega
def mV:Sp:=λa H Q _=>∃(v:V) (s:Bd),a=[v]/\gp H v s/\s.size<=10000000/\∀(r:Addr) (x:List V) (h:Hp),h r=some (.tup x)->dj h s.inn x->ae H h->Q (.ref r) h
def gX:Sp:=λv H Q _=>∃(a:Addr) (b:Bd) (x:List V),v=[.ref a]/\H a=some (.tup x)/\dj H b x/\b.size<=10000000/\∀h,ae H h->Q (.int (b.cuts:Int)) h
theorem A1:ak ["statement"] ["statement"] (aa yp):=bq
theorem xw(F:aJ K "bodies_in" "bodies_in" yp f y):aj P w K mg base ay 1 f y ["statement"] mV:=by
 refine F.ok A1 ?_ λC A o s H V Q E j h=>?_
 ·rintro _ _ _ _ ⟨v,s,rfl,_⟩
  rfl
 refine aR λO k=>?_
 obtain⟨v,st,rfl,z,B,q⟩:=h
 refine k ?_
 clear k
 refine#[_,(jd (jv (jX (jw (pv 0))) (jg (jl (ju kh (jw (pv 0)) (jw (pv 0))))) jm) (jd (jv (jX (jw (pv 0))) (jg (jl (jw (pv 0)))) jm) (jg (jl (jh jb))))),?_]
 have D:=aE
 cases z with
 |lf p l V c d=>
  cases l with
  |rd x t T |st x t T |wr t u T U |cl x f R S |gv t T=>
   obtain⟨rfl,_⟩:=d
   refine(jp c Z #[Z,_,Z,aF IP ?_])
   refine(jp c Z #[Z,_,Z,aF IP ?_])
   exact#[le,λr N=>q r [] _ jc Z (je N)]
 |ite p t T a b e G g I c J d i m n=>
  refine(jp c Z #[Z,_,Z,bJ IP ?_])
  have L:a.size+b.size+0+1<=10000000:=B
  have W:=m.len
  have X:=n.len
  exact(jp c Z (jp c Z #[e,G,g,I,Z,Z,d,i,IM,λr M j s=>q r _ M j ((n.mono (ae.tm s)).app (m.mono (ae.tm s))) s]))
 |loop p t T a e g c J d i=>
  refine(jp c Z #[Z,_,Z,aF IP ?_])
  refine(jp c Z #[Z,_,Z,bJ IP ?_])
  exact(jp c Z (q e g H d i (ae.refl H)))
theorem uQ(h:gp H v s):s.inn.size < s.size/\∃(p:Addr) (w:Str) (r:List V),v= .ref p/\H p=some (.tup (.str w::r))/\s.cuts=(if mx (.str w) [.str "set",.str "give"]=true then 0 else 1)+s.inn.cuts:=by
 cases h with
 |lf p l i c d=>
  refine#[Nat.zero_lt_succ _,?_]
  cases l with
  |rd x t T |wr t u T U |cl x f Q j=>obtain⟨rfl,_⟩:=d;exact#[p,_,_,Z,c,by rw[D1 IP];rfl]
  |st x t T |gv t T=>obtain⟨rfl,_⟩:=d;exact#[p,_,_,Z,c,by rw[D0 IP];rfl]
 |ite p t T a b q k A B c e d g m n=>
  refine#[by show(a.app b).size < a.size+b.size+0+1;rw[jT];omega,p,_,_,Z,c,?_]
  rw[D1 IP]
  show 1+a.cuts+b.cuts+0=1+(a.app b).cuts
  rw[zN]
  omega
 |loop p t T a q A c e d g=>
  refine#[by show a.size < a.size+0+1;omega,p,_,_,Z,c,?_]
  rw[D1 IP]
  show 1+a.cuts+0=1+a.cuts
  omega
theorem h9:du (v::y) 0=some v:=jM (j:=0) Z
inductive MI(a td:Addr)(b:Bd)(H:Hp)(m:Nat)(σ:L2.St)(H':Hp):Prop
 |mk (o3:Option V) (W:Bd) (zs:List V) (k:Nat) (e0:m=W.size) (e1:σ=[some (.ref a),some (.int (k:Int)),some (.ref td),o3]) (e2:H' td=some (.lst zs)) (e3:dj H' W zs) (e4:k+W.cuts=b.cuts) (e5:W.size<=10000000) (e6:ar td H H'):MI a td b H m σ H'
theorem gN:ak ["body","many","todo","statement"] ["body"] (aa pk):=bq
theorem tH(F:aJ K "many_cuts" "many_cuts" pk f fd)(cB:Cl P w K mg base 1 fB f0 ["statement"] mV "bodies_in")(m0:mg "list"=none):aj P w K mg base ay 2 f fd ["body"] gX:=by
 refine F.ok gN ?_ λc0 A o1 s H vs Q E hr h=>?_
 ·rintro _ _ _ _ ⟨a,b,xs,rfl,_⟩
  rfl
 refine aR λGq y=>?_
 obtain⟨a,b,xs,rfl,ha,hb,hz,q⟩:=h
 refine y ?_
 clear y
 refine#[_,(jd (jx 1 gN.nd jf) (jd (jx 2 gN.nd (jz Jc Z m0 boot_list (ja (pv 0) jb))) (jd (Q1 Ej (@oY _ _ _ (pv 2) (λ_=>Z)) (jd (jx 3 gN.nd (yc D2 PySem.F.slot_list_pop PySem.F.type_list_pop wY (pv 2))) (jd (jW (jv (jA Jb (jw (pv 3)) (jh (ja jk (ja jk jb))) Z) (jg (yi (i:=1) gN.nd Z (Or.inl Z) jf wQ)) jm)) (jg (jL (kK D2 GQ GP X5 (pv 2) (ja (cB.e hr.m (ja (pv 3) jb)) jb))))))) (jg (jl (pv 1)))))),?_]
 have b0:=aE
 refine ah λU d=>d _ _ ?_
 clear d
 refine ah λU d=>#[_,Z,a,_,Z,.inr (aA.of ha),λt C=>d _ _ ?_]
 clear d
 have s0:ae H (af H t (.lst xs)):=je C
 refine ah λU d=>?_
 refine rP (MI a t b H) b.size #[_,b,xs,0,Z,Z,jc,hb.mono (ae.tm s0),IM,hz,λc o N e=>s0 _ _ e] ?_
 intro m σ D E _ fE F X Y Gq y h
 obtain⟨o3,W,zs,k,rfl,rfl,x,h2,h3,h4,h5⟩:=h
 refine y #[_,Z,!zs.isEmpty,.inl #[zs,aC.of x,Z],?_]
 clear y
 rcases h2.last with ⟨e1,e2⟩ | ⟨g,v,B,n,e1,e2,g1,g2⟩
 ·rw[e1]
  refine Y _ (d _ _ #[_,Z,?_])
  rw[e2]at h3
  have e3:k=b.cuts:=by have:k+0=b.cuts:=h3;omega
  rw[e3]
  exact q _ λc o e=>h5 c o (ji e C) e
 ·rw[e1]
  have ne:(!(g++[v]).isEmpty)=true:=by cases g<;>rfl
  rw[ne]
  refine X _ ?_
  clear Y X d
  have h6:W.size=B.size+n.size:=by rw[e2,jT]
  have h7:W.cuts=B.cuts+n.cuts:=by rw[e2,zN]
  obtain⟨h8,p,w',r,rfl,hp,hc⟩:=uQ g2
  rw[e1]at x
  refine ah λU d=>#[_,Z,.inl #[Z,_,aC.of x],t,_,.ref p,Z,Z,x,IN,d _ _ ?_]
  clear d
  rw[List.dropLast_concat]
  have T:ai D (af D t (.lst g)):=λc ys e=>by rw[jj (jG e x (by intro z;cases z))];exact e
  have t2:af D t (.lst g) t=some (.lst g):=jc
  have u:=g1.mono T
  have I:=g2.mono T
  have J:=T _ _ hp
  have k2:ar t H (af D t (.lst g)):=λc o N e=>by rw[jj N];exact h5 c o N e
  generalize af D t (.lst g)=H2 at t2 u I J k2
  clear T x h2 h5 g1 g2 hp
  have R:∀(j:Nat) (H3:Hp),ae H2 H3->j+B.cuts+n.inn.cuts=b.cuts->ni (CO K "list" (i5 K) (aS 2) (al (dD mV [] E0 (al (aS 3) aI)) aI)) E [some (.ref a),some (.int (j:Int)),some (.ref t),some (.ref p)] H3:=λj H3 L hk=>by
   have g0:=I.mono (ae.tm L)
   refine#[_,Z,.inl #[Z,_,aC.of (L _ _ t2)],_,Z,.ref p,n,Z,g0,IM,λr' ys H4 h0 hy s4=>?_]
   have S:=L.trans s4
   have l1:=u.len
   have l2:=hy.len
   refine#[t,r',g,ys,Z,Z,S _ _ t2,aA.of h0,IM,fE (B.app n.inn).size _ _ (by rw[jT];omega) #[_,B.app n.inn,g++ys,j,Z,Z,jc,?_,by rw[zN];omega,by rw[jT];omega,λc o N e=>?_]]
   ·have M:ai H4 (af H4 t (.lst (g++ys))):=λc z0 e=>by rw[jj (jG e (S _ _ t2) (by intro z;cases z))];exact e
    exact(hy.mono M).app ((u.mono (ae.tm S)).mono M)
   ·rw[jj N]
    exact S _ _ (k2 c o N e)
  refine ah λU d=>dq (λO H'=>∃j:Nat,O=[some (.ref a),some (.int (j:Int)),some (.ref t),some (.ref p)]/\ae H2 H'/\j+B.cuts+n.inn.cuts=b.cuts) (λE2 _ fm=>?_) λO H' h=>?_
  ·clear d fE
   refine wO λG X Y=>(jp J h9 #[bn,λl nl=>#[l,_,Z,.inr (aA.of jc),Z,Z,_,Z,?_]])
   cases hv:mx (.str w') [.str "set",.str "give"] with
   |true=>
    rw[hv,D0 Z]at hc
    exact Y _ (fm _ _ #[k,Z,je nl,IM])
   |false=>
    rw[hv,D1 DR]at hc
    refine X _ #[_,Z,_,_,Z,Z,fm _ _ #[k+1,?_,je nl,IM]]
    show [_,some (V.int ((k:Int)+1)),_,_]=[_,some (V.int ((k+1:Nat):Int)),_,_]
    rfl
  ·obtain⟨j,rfl,L,hk⟩:=h
   exact d _ _ (R j H' L hk)
end K29
namespace K29
open PySem PySem.Spec PyProof.Rows L2
variable {P:Program}{w:World}{K:Frag}{mg:Str->Option Value}{base:Heap}
inductive Bu where
 |go (n:Int) |give (t:Addr)
structure Wy where
 sets:List (Str×Addr)
 goal:Bu
inductive Dd where
 |st (p:Addr) |ask (t:Addr)
structure Ct where
 M:Str->Prop
 d:Dd
 ws:List Wy
structure Pc where
 M:Str->Prop
 w:Wy
def aZ(H:Hp):Tr->V->List V->Prop
 | .lf v,x,_=>x=v/\Dq v=true
 | .tp l,x,_=>l.isL=true/\∃a X,x= .ref a/\H a=some (.tup X)/\aZ H l .non X
 | .nil,_,X=>X=[]
 | .cons h t,_,X=>h.isL=false/\t.isL=true/\∃y Y,X=y::Y/\aZ H h y []/\aZ H t .non Y
theorem aZ.mono(k:ai H d):∀{t:Tr} {x:V} {X:List V},aZ H t x X->aZ d t x X:=by
 intro t
 induction t with
 |lf v |nil=>exactλh=>h
 |tp l f=>rintro x X ⟨h,a,Y,e,b,c⟩;exact#[h,a,Y,e,k _ _ b,f c]
 |cons h t i I=>rintro x X ⟨E,g,y,Y,e,b,c⟩;exact#[E,g,y,Y,e,i b,I c]
noncomputable def aQ:List Tr->Tr
 | []=>.nil
 |t::T=>.cons t (aQ T)
theorem Qr:∀t:List Tr,(aQ t).isL=true
 | []=>rfl
 |_::_=>rfl
noncomputable def bM(t:List Tr):Tr:=.tp (aQ t)
noncomputable def cQ(x:Str):Tr:=.lf (.str x)
noncomputable def nJ(a:Addr):Tr:=.lf (.ref a)
noncomputable def c8(n:Int):Tr:=.lf (.int n)
section
variable {H:Hp}
theorem jF:aZ H (aQ []) .non []:=rfl
theorem jq{t:Tr}(h:t.isL=false)(a:aZ H t y [])(b:aZ H (aQ T) .non Y):aZ H (aQ (t::T)) .non (y::Y):=#[h,Qr T,y,Y,Z,a,b]
theorem jJ(h:H a=some (.tup x))(b:aZ H (aQ t) .non x):aZ H (bM t) (.ref a) []:=#[Qr t,a,x,Z,h,b]
theorem kJ:aZ H (cQ x) (.str x) []:=#[Z,Z]
theorem Jl:aZ H (nJ a) (.ref a) []:=#[Z,Z]
theorem qF:aZ H (c8 n) (.int n) []:=#[Z,Z]
theorem JP(a:aZ H (aQ s) .non Y):∀{T:List Tr} {x:List V},aZ H (aQ T) .non x->aZ H (aQ (T++s)) .non (x++Y)
 | [],x,h=>by have e:x=[]:=h;rw[e];exact a
 |t::T,x,h=>by obtain⟨E,_,y,z,e,b,c⟩:=h;rw[e];exact jq E b (JP a c)
theorem zE:∀{T:List Tr} {x:List V},aZ H (aQ T) .non x->x.length=T.length
 | [],x,h=>by have e:x=[]:=h;rw[e];rfl
 |t::T,x,h=>by obtain⟨_,_,y,z,e,_,a⟩:=h;rw[e,El,El,zE a]
theorem Xb:∀(S:List Str),aZ H (aQ (S.map cQ)) .non (S.map V.str)
 | []=>rfl
 |s::S=>jq Z kJ (Xb S)
theorem YE:∀{T:List Tr} {x:List V},aZ H (aQ T) .non x->aZ H (aQ T.reverse) .non x.reverse
 | [],x,h=>by have e:x=[]:=h;rw[e];rfl
 |t::T,x,h=>by
  obtain⟨E,_,y,z,e,a,b⟩:=h
  rw[e,GN,GN]
  exact JP (jq E a jF) (YE b)
theorem Jm:∀{T:List Tr} {X:List V},aZ H (aQ T) .non X->∀(i:Nat) (x:V),X[i]?=some x->∃t,T[i]?=some t/\aZ H t x []
 | [],X,h,i,x,a=>by have e:X=[]:=h;rw[e]at a;simp at a
 |t::T,X,h,0,x,a=>by obtain⟨_,_,y,z,e,b,c⟩:=h;rw[e]at a;cases a;exact#[t,Z,b]
 |t::T,X,h,i+1,x,a=>by obtain⟨_,_,y,z,e,b,c⟩:=h;rw[e]at a;simpa using Jm c i x (by simpa using a)
end
noncomputable def A6(s:Str×Addr):Tr:=bM [cQ s.1,nJ s.2]
noncomputable def sQ:Bu->Tr
 | .go n=>bM [cQ "go",c8 n]
 | .give t=>bM [cQ "give",nJ t]
noncomputable def gn(w:Wy):Tr:=bM [bM (w.sets.map A6),sQ w.goal]
noncomputable def BF:Dd->Tr
 | .st p=>nJ p
 | .ask t=>bM [cQ "ask",nJ t]
noncomputable def Al(c:Ct):Tr:=bM [bM ((canon c.M).map cQ),BF c.d,bM (c.ws.map gn)]
theorem wL(g:Bu):(sQ g).isL=false:=by cases g<;>rfl
theorem Ao(d:Dd):(BF d).isL=false:=by cases d<;>rfl
def lB(H:Hp)(p:Pc)(v:V)(g:Addr)(y:List Str):Prop:=∃(r:Addr) (s:List Str) (W:V),v= .ref r/\H r=some (.tup [.ref g,W])/\NL H g s p.M y/\aZ H (gn p.w) W []
theorem lB.same(h:lB H p v g y)(s:ae H a):lB a p v g y:=by
 obtain⟨r,S,W,e,b,c,d⟩:=h
 exact#[r,S,W,e,s _ _ b,c.same s,d.mono (ae.tm s)]
theorem lB.but(h:lB H p v g y)(k:ar f H c)(d:H f=some (.lst C))(n:g≠f):lB c p v g y:=by
 obtain⟨r,s,W,e,i,a,j⟩:=h
 have t:ai H c:=λb x e=>k b _ (jG e d (by intro z;cases z)) e
 exact#[r,s,W,e,t _ _ i,#[k _ _ n a.at',a.nm,a.sub,a.y20],j.mono t]
noncomputable def Lf.isCut:Lf->Bool
 | .st _ _ _=>false
 | .gv _ _=>false
 |_=>true
noncomputable def Bd.deed:Bd->Dd
 | .lf p _ _=>.st p
 | .ite _ t _ _ _ _=>.ask t
 | .loop _ t _ _ _=>.ask t
 | .nil=>.st 0
def iM:Sp:=λa H Q _=>∃(v:V) (s:Bd),a=[v]/\gp H v s/\∀(d:V) (h:Hp),aZ h (BF s.deed) d []->ae H h->Q d h
def gB:Sp:=λa H Q _=>∃(t:Addr) (T:Tm) (y:List Str),a=[.ref t]/\aW H T t/\cR y T/\y.length<=21/\∀(v:V) (g:Addr) (h:Hp),lB h #[λx=>x∈T.vars,#[[],.give t]] v g y->H g=none->ae H h->Q v h
def rj(K:Frag):Sp:=λv H Q _=>∃a:Addr,v=[.ref a]/\aA K H a [.str "num",.int 0]/\∀(r:Addr),H r=none->Q (.ref r) (af H r (.lst []))
def rn(K:Frag):Sp:=λa H Q _=>∃(t:Addr) (y:List Str),a=[.ref t]/\aA K H t [.str "num",.int 0]/\y.length<=21/\∀(v:V) (g:Addr) (h:Hp),lB h #[λx=>x∈(Tm.num 0).vars,#[[],.give t]] v g y->H g=none->ae H h->Q v h
open Classical in
noncomputable def gR(x:Str)(t:Addr)(p:Pc):Wy:=if p.M x then #[(x,t)::p.w.sets,p.w.goal] else p.w
def iP:Sp:=λd H Q _=>∃(v b:V) (p t:Addr) (x:Str) (T:Tm) (a:Pc) (g:Addr) (y:List Str),d=[v,b]/\gp H v (.lf p (.st x t T) .nil)/\lB H a b g y/\x∈y/\cR y T/\a.w.sets.length<=10000000/\
 ∀(c:V) (G:Addr) (h:Hp),lB h #[(Lf.st x t T).use a.M,gR x t a] c G y->H G=none->ae H h->Q c h
theorem yy:ak ["statement"] ["statement"] (aa pi):=bq
theorem tF(F:aJ K "deed_of" "deed_of" pi f e):aj P w K mg base ay 1 f e ["statement"] iM:=by
 refine F.ok yy ?_ λC A o s H V Q E z h=>?_
 ·rintro _ _ _ _ ⟨v,s,rfl,_⟩
  rfl
 refine aR λG k=>?_
 obtain⟨v,st,rfl,g,q⟩:=h
 refine k ?_
 clear k
 refine#[_,(jd (jv (jA zh (jw (pv 0)) (jh (ja jk (ja jk jb))) Z) (jg (jl (jh (ja jk (ja (jw (pv 0)) jb))))) jm) (jg (jl (pv 0)))),?_]
 cases g with
 |lf p l V c d=>
  cases l with
  |rd x t T |st x t T |wr t u T U |cl x f B D |gv t T=>
   obtain⟨rfl,_⟩:=d
   refine(jp c Z #[bn,λl n=>#[l,_,Z,.inr (aA.of jc),Z,Z,_,Z,aF IP ?_]])
   exact#[_,Z,q _ _ Jl (je n)]
 |ite p t T a b i I j J c m d y L M |loop p t T a i j c m d y=>
  refine(jp c Z #[bn,λl n=>#[l,_,Z,.inr (aA.of jc),Z,Z,_,Z,bJ IP ?_]])
  refine(jp (ap c n) Z #[bn,λr N=>?_])
  exact q _ _ (jJ jc (jq Z kJ (jq Z Jl jF))) ((je n).trans (je N))
theorem xJ{fN:Addr}{fdN:FuncData}(F:aJ K "names_in" "names_in" dR f b)(c:Cl P w K mg base (n+1) f b ["term"] (df n) "names_in")(m:mg "set"=none)(M:mg "sorted"=none):aj P w K mg base ay (n+2) f b ["term"] (rj K):=by
 refine F.ok pQ (λv H Q E h=>?_) (λC A o s H v Q E d h=>?_)
 ·obtain⟨a,rfl,_⟩:=h
  rfl
 obtain⟨a,rfl,g,q⟩:=h
 refine#[_,(jd (jv (jX (jw (pv 0))) (jg (jl (jC jb))) jm) (jd (jv (jX (jw (pv 0))) (jg (jl (jC (ja (jw (pv 0)) jb)))) jm) (jg (jl (jO (z9 Z) Z M boot_sorted (ja (jz (qJ Z) Z m boot_set (ja (ju qg (c.e d (ja (jw (pv 0)) jb)) (c.e d (ja (jw (pv 0)) jb))) jb)) jb)))))),?_]
 refine#[_,Z,a,_,_,_,Z,Z,g,Z,Z,_,Z,bJ IP ?_]
 exact#[le,λr N=>q r N]
theorem mO:ak ["term"] ["term"] (aa iG):=bq
theorem oM(F:aJ K "place_of_give" "place_of_give" iG f d)(C:Cl P w K mg base 7 U i ["term"] (df 6) "names_in"):aj P w K mg base ay 8 f d ["term"] gB:=by
 refine F.ok mO ?_ λj A o s H V Q E l h=>?_
 ·rintro _ _ _ _ ⟨t,T,y,rfl,_⟩
  rfl
 refine aR λR k=>?_
 obtain⟨t,T,y,rfl,p,O,b,q⟩:=h
 refine k ?_
 clear k
 refine#[_,(jg (jl (jh (ja (C.e l.m (ja (pv 0) jb)) (ja (jh (ja (jh jb) (ja (jh (ja jk (ja (pv 0) jb))) jb))) jb))))),?_]
 refine#[_,Z,t,T,y,Z,p,O.2,O.1,b,λg v a z B D M G I=>?_]
 have J:NL a g v (λx=>x∈T.vars) y:=#[B,#[D,G,M],ki O.1,b]
 refine#[le,λe L=>#[_,Z,bn,λu c=>#[bn,λx N=>#[bn,λr n=>?_]]]]
 have S:ae a (af (af (af (af a e (.tup [])) u (.tup [.str "give",.ref t])) x (.tup [.ref e,.ref u])) r (.tup [.ref g,.ref x])):=(((je L).trans (je c)).trans (je N)).trans (je n)
 refine q _ g _ #[r,_,.ref x,Z,jc,J.same S,?_] z (I.trans S)
 exact jJ (ap jc n) (jq Z (jJ (ap (ap (ap jc c) N) n) jF) (jq Z (jJ (ap (ap jc N) n) (jq Z kJ (jq Z Jl jF))) jF))
theorem xM(F:aJ K "place_of_give" "place_of_give" iG f j)(C:Cl P w K mg base 7 G l ["term"] (rj K) "names_in"):aj P w K mg base ay 8 f j ["term"] (rn K):=by
 refine F.ok mO ?_ λp A o s H V Q E v h=>?_
 ·rintro _ _ _ _ ⟨t,y,rfl,_⟩
  rfl
 refine aR λI k=>?_
 obtain⟨t,y,rfl,z,B,q⟩:=h
 refine k ?_
 clear k
 refine#[_,(jg (jl (jh (ja (C.e v.m (ja (pv 0) jb)) (ja (jh (ja (jh jb) (ja (jh (ja jk (ja (pv 0) jb))) jb))) jb))))),?_]
 refine#[_,Z,t,Z,z,λg a=>?_]
 have b:ae H (af H g (.lst [])):=je a
 have c:NL (af H g (.lst [])) g [] (λx=>x∈(Tm.num 0).vars) y:=#[jc,#[HH,Z,λx=>Ip],λx h=>absurd h Eb,B]
 generalize af H g (.lst [])=d at b c
 refine#[le,λe D=>#[_,Z,bn,λu i=>#[bn,λx N=>#[bn,λr n=>?_]]]]
 have S:ae d (af (af (af (af d e (.tup [])) u (.tup [.str "give",.ref t])) x (.tup [.ref e,.ref u])) r (.tup [.ref g,.ref x])):=(((je D).trans (je i)).trans (je N)).trans (je n)
 refine q _ g _ #[r,_,.ref x,Z,jc,c.same S,?_] a (b.trans S)
 exact jJ (ap jc n) (jq Z (jJ (ap (ap (ap jc i) N) n) jF) (jq Z (jJ (ap (ap jc N) n) (jq Z kJ (jq Z Jl jF))) jF))
end K29
namespace K29
open PySem PySem.Spec PyProof.Rows L2
variable {P:Program}{w:World}{K:Frag}{mg:Str->Option Value}{base:Heap}
theorem sR{Y:List Str}:mx (.str x) (Y.map V.str)=decide (x∈Y):=by
 by_cases h:x∈Y
 ·rw[Ea h]
  unfold mx
  rw[List.any_eq_true]
  exact#[.str x,List.mem_map.mpr #[x,h,Z],by simp [lE]]
 ·rw[DU h]
  unfold mx
  rw[Bool.eq_false_iff]
  intro z
  rw[List.any_eq_true]at z
  obtain⟨v,a,e⟩:=z
  obtain⟨y,H,rfl⟩:=List.mem_map.mp a
  have E:x=y∨y=x:=by
   first
    |exact .inl (by simpa [lE] using e)
    |exact .inr (by simpa [lE] using e)
  rcases E with rfl |rfl
  ·exact h H
  ·exact h H
theorem yR{H:Hp}{w:Wy}{v:V}(h:aZ H (gn w) v []):∃(W s:Addr) (S:List V) (y:V),v= .ref W/\H W=some (.tup [.ref s,y])/\H s=some (.tup S)/\aZ H (aQ (w.sets.map A6)) .non S/\aZ H (sQ w.goal) y []:=by
 obtain⟨_,W,x,rfl,a,_,_,l,b,e,⟨_,s,S,c,d,f⟩,_,_,g,Y,E,i,j⟩:=h
 have k:Y=[]:=j
 rw[k]at E
 rw[E]at e
 rw[e,c]at a
 exact#[W,s,S,g,Z,a,d,f,i]
theorem lV:ak ["statement","behind","way"] ["statement","behind"] (aa pw):=bq
theorem tM(F:aJ K "place_of_set" "place_of_set" pw f fd)(cU:Cl P w K mg base 10 fU f0 ["statement","behind"] (gj 0) "used_ahead_of"):aj P w K mg base ay 11 f fd ["statement","behind"] iP:=by
 refine F.ok lV ?_ λc0 A O s H vs Q E hr h=>?_
 ·rintro _ _ _ _ ⟨v,bv,p,t,x,T,C,g,Y,rfl,_⟩
  rfl
 refine aR λGq U=>?_
 obtain⟨v,bv,p,t,x,T,C,g,Y,rfl,X,hp,hx,ok,hl,q⟩:=h
 refine U ?_
 clear U
 refine#[_,(jd (jx 2 lV.nd (jw (pv 1))) (jd (jW (jv (jA zh (jw (pv 0)) (jw (pv 1)) Z) (jg (jx 2 lV.nd (jh (ja (ju kh (jh (ja (jH zU (pv 0) (jE jf) ke) jb)) (jw (pv 2))) (ja (jw (pv 2)) jb))))) jm)) (jg (jl (jh (ja (cU.e hr.m (ja (pv 0) (ja (jw (pv 1)) jb))) (ja (pv 2) jb))))))),?_]
 have b0:=aE
 obtain⟨r,ss,wv,rfl,b,B,hW⟩:=hp
 have h0:=X
 cases X with
 |lf _ _ vs h1 h2=>
  obtain⟨rfl,hT⟩:=h2
  obtain⟨wa,sa,sx,y,rfl,i,D,j,hy⟩:=yR hW
  refine ah λF1 d=>(jp b Z (d _ _ ?_))
  clear d
  have sl:=zE j
  rw[DK]at sl
  refine ah λF1 d=>dq (λl I=>∃W:V,l=[some (.ref p),some (.ref r),some W]/\aZ I (gn (gR x t C)) W []/\ae H I) (λE2 _ fm=>?_) λl I h=>?_
  ·clear d
   refine wO λG kT kF=>(jp h1 Z (jp b Z #[g,_,Z,.inl (aC.of B.at'),Z,Qo _,_,Z,?_]))
   rw[sR]
   by_cases a:x∈ss
   ·rw[Ea a]
    refine kT _ #[_,Z,_,Z,p,_,Z,h1,λs1 H1 J k1=>#[lg,λu nu=>?_]]
    have L:=k1.trans (je (o:=.tup [.ref s1]) nu)
    refine(jp (L _ _ i) Z #[u,sa,_,_,Z,Z,jc,L _ _ D,by show 1+sx.length<=_;omega,λc H2 hc z=>?_])
    have R:=L.trans z
    refine(jp (R _ _ i) Z #[bn,λnw n=>fm _ _ #[.ref nw,Z,?_,R.trans (je n)]])
    have tm:=ae.tm (R.trans (je (o:=.tup [.ref c,y]) n))
    unfold gR
    rw[D0 ((B.nm.mem x).mp a)]
    refine jJ jc (jq Z (jJ (ap hc n) (jq Z ?_ (j.mono tm))) (jq (wL _) (hy.mono tm) jF))
    exact jJ (ap (z _ _ (ap J nu)) n) (jq Z kJ (jq Z Jl jF))
   ·rw[DU a]
    refine kF _ (fm _ _ #[_,Z,?_,ae.refl _])
    unfold gR
    rw[D1 λw=>a ((B.nm.mem x).mpr w)]
    exact hW
  ·obtain⟨W,rfl,S,k⟩:=h
   refine d _ _ ?_
   clear d
   refine#[_,Z,jp (k _ _ b) Z #[.ref p,g,.lf p (.st x t T) .nil,ss,C.M,Y,Z,h0.mono (ae.tm k),B.same k,#[#[hx,ok],Eh],(by show 0 < 1;decide),(by show 0+1<=10000000;decide),λg' zs H3 n3 N3 z=>?_]]
   refine#[_,Z,bn,λr' N=>q _ g' _ #[r',zs,W,Z,jc,N3.same (je N),S.mono (ae.tm (z.trans (je N)))] (k.free n3) ((k.trans z).trans (je N))]
noncomputable abbrev ur:Stmt:=bP (bE 46) 1
noncomputable abbrev uC:Stmt:=bP (bE 46) 2
noncomputable abbrev ut:Stmt:=bP (bE 46) 3
noncomputable abbrev uF:Stmt:=bP (bE 46) 4
noncomputable abbrev pj:Stmt:=bP (bE 46) 0
noncomputable def pL(m:Int)(p:Addr)(l:Lf)(q:Pc×List Ct):Pc×List Ct:=match l with
 | .gv t T=>(#[λx=>x∈T.vars,#[[],.give t]],q.2)
 | .st x t T=>(#[(Lf.st x t T).use q.1.M,gR x t q.1],q.2)
 | .rd x t T=>(#[(Lf.rd x t T).use q.1.M,#[[],.go (m - (q.2.length:Int) - 1)]],q.2++[#[(Lf.rd x t T).use q.1.M,.st p,[q.1.w]]])
 | .wr t u T U=>(#[(Lf.wr t u T U).use q.1.M,#[[],.go (m - (q.2.length:Int) - 1)]],q.2++[#[(Lf.wr t u T U).use q.1.M,.st p,[q.1.w]]])
 | .cl x f a b=>(#[(Lf.cl x f a b).use q.1.M,#[[],.go (m - (q.2.length:Int) - 1)]],q.2++[#[(Lf.cl x f a b).use q.1.M,.st p,[q.1.w]]])
noncomputable def pB(m:Int):Bd->Pc->List Ct->Pc×List Ct
 | .nil,c,f=>(c,f)
 | .lf p l r,c,f=>pL m p l (pB m r c f)
 | .ite p t T a b r,c,f=>
  let q:=pB m r c f
  let o:=pB m b q.1 q.2
  let s:=pB m a q.1 o.2
  (#[(Bd.ite p t T a b .nil).use q.1.M,#[[],.go (m - (q.2.length:Int) - ((Bd.ite p t T a b .nil).cuts:Int))]],s.2++[#[(Bd.ite p t T a b .nil).use q.1.M,.ask t,[s.1.w,o.1.w]]])
 | .loop p t T a r,c,f=>
  let q:=pB m r c f
  let d:Pc:=#[(Bd.loop p t T a .nil).use q.1.M,#[[],.go (m - (q.2.length:Int) - ((Bd.loop p t T a .nil).cuts:Int))]]
  let s:=pB m a d q.2
  (d,s.2++[#[(Bd.loop p t T a .nil).use q.1.M,.ask t,[s.1.w,q.1.w]]])
theorem Kd(m:Int):∀(a b:Bd) (c:Pc) (f:List Ct),pB m (a.app b) c f=pB m a (pB m b c f).1 (pB m b c f).2
 | .nil,_,_,_=>rfl
 | .lf p l r,b,c,f=>by show pL m p l (pB m (r.app b) c f)=pL m p l (pB m r _ _);rw[Kd m r b c f]
 | .ite p t T x y r,b,c,f=>by
  have e:=Kd m r b c f
  show pB m (.ite p t T x y (r.app b)) c f=_
  unfold pB
  rw[e]
 | .loop p t T x r,b,c,f=>by
  have e:=Kd m r b c f
  show pB m (.loop p t T x (r.app b)) c f=_
  unfold pB
  rw[e]
theorem j7(m:Int):∀(b:Bd) (c:Pc) (F:List Ct),(pB m b c F).2.length=F.length+b.cuts
 | .nil,_,_=>rfl
 | .lf p l r,c,F=>by
  have e:=j7 m r c F
  show(pL m p l (pB m r c F)).2.length=F.length+(l.cut+r.cuts)
  cases l with
  |rd x t T |wr t u T U |cl x f a d=>show((pB m r c F).2++[_]).length=F.length+(1+r.cuts);rw[DM,e];show _+1=_;omega
  |st x t T |gv t T=>show(pB m r c F).2.length=F.length+(0+r.cuts);omega
 | .ite p t T x y r,c,F=>by
  have e:=j7 m r c F
  show((pB m x _ (pB m y _ _).2).2++[_]).length=_
  rw[DM,j7 m x,j7 m y,e]
  show _+1=F.length+(1+x.cuts+y.cuts+r.cuts)
  omega
 | .loop p t T x r,c,F=>by
  have e:=j7 m r c F
  show((pB m x _ _).2++[_]).length=_
  rw[DM,j7 m x,e]
  show _+1=F.length+(1+x.cuts+r.cuts)
  omega
theorem Xc(x:Str)(t:Addr)(p:Pc):(gR x t p).sets.length<=p.w.sets.length+1:=by
 unfold gR
 split
 ·exact DN _
 ·exact Ff _
theorem YF(m:Int):∀(b:Bd) (a:Pc) (f:List Ct),(pB m b a f).1.w.sets.length<=a.w.sets.length+b.size
 | .nil,_,_=>DN _
 | .lf p l r,a,f=>by
  have e:=YF m r a f
  show(pL m p l (pB m r a f)).1.w.sets.length<=a.w.sets.length+(r.size+1)
  cases l with
  |st x t T=>have:=Xc x t (pB m r a f).1;show(gR x t (pB m r a f).1).sets.length<=_;omega
  |_=>exact DX _
 | .ite p t T x y r,a,f=>DX _
 | .loop p t T x r,a,f=>DX _
theorem kC:∀b:Bd,b.cuts<=b.size
 | .nil=>DN _
 | .lf _ l r=>by
  have:=kC r
  have h:l.cut<=1:=by cases l<;>first |exact DN _ |exact DX _
  show l.cut+r.cuts<=r.size+1
  omega
 | .ite _ _ _ a b r=>by have:=kC a;have:=kC b;have:=kC r;show 1+a.cuts+b.cuts+r.cuts<=a.size+b.size+r.size+1;omega
 | .loop _ _ _ a r=>by have:=kC a;have:=kC r;show 1+a.cuts+r.cuts<=a.size+r.size+1;omega
structure CK(K:Frag)(C:Addr):Prop where
 cl:nq K C
 nm:bj K C "many"
 nf:bj K C "found"
structure Cg(H:Hp)(C ia dx fa:Addr)(m:Int)(cts:List Ct)(cs:List V):Prop where
 ins:H ia=some (.ins C dx [("many",.int m),("found",.ref fa)])
 fd:H fa=some (.lst cs)
 tr:aZ H (aQ (cts.map Al)) .non cs
theorem Cg.same(h:Cg H C i d f m c a)(s:ae H b):Cg b C i d f m c a:=#[s _ _ h.ins,s _ _ h.fd,h.tr.mono (ae.tm s)]
theorem Cg.len(h:Cg H C i d f m c a):a.length=c.length:=by rw[zE h.tr,DK]
theorem Cg.tm(h:Cg H C i d f m c g)(k:ar f H a):ai H a:=λb x e=>k b _ (jG e h.fd (by intro z;cases z)) e
structure sf(H:Hp)(C ia dx fa:Addr)(m:Int)(cts:List Ct)(cs:List V)(pc:Pc)(bv:V)(g:Addr)(ys:List Str)(b:Bd):Prop where
 c:Cg H C ia dx fa m cts cs
 p:lB H pc bv g ys
 ng:g≠fa
 ok:b.Ok ys
 sz:cts.length+pc.w.sets.length+b.size<=10000000
def nU(H:Hp)(C i d f:Addr)(m:Int)(y:List Str)(q:Pc×List Ct)(Q:VK):Prop:=∀(v:V) (g:Addr) (c:List V) (h:Hp),lB h q.1 v g y->g≠f->Cg h C i d f m q.2 c->ar f H h->Q v h
def me(C:Addr)(n:Nat):Sp:=λv H Q _=>∃(i d f a g:Addr) (m:Int) (c:List Ct) (e x:List V) (p:Pc) (B:V) (y:List Str) (b:Bd),v=[.ref i,.ref a,B]/\sf H C i d f m c e p B g y b/\H a=some (.tup x)/\dj H b x/\b.dep < n/\nU H C i d f m y (pB m b p c) Q
def A9(C:Addr)(n:Nat):Sp:=λa H Q _=>∃(i d f g:Addr) (m:Int) (c:List Ct) (e:List V) (p:Pc) (v b:V) (y:List Str) (s:Bd),a=[.ref i,v,b]/\sf H C i d f m c e p b g y s/\gp H v s/\s.dep < n+1/\nU H C i d f m y (pB m s p c) Q
noncomputable def Bd.isCut:Bd->Bool
 | .lf _ l _=>l.isCut
 | .nil=>false
 |_=>true
def yG(C:Addr)(n:Nat):Sp:=λa H Q _=>∃(i d f g:Addr) (m:Int) (c:List Ct) (e:List V) (p:Pc) (v b:V) (y:List Str) (s:Bd),a=[.ref i,v,b]/\sf H C i d f m c e p b g y s/\gp H v s/\s.dep < n+1/\s.isCut=true/\nU H C i d f m y (pB m s p c) Q
noncomputable def fV(m:Int)(c:Pc)(p:Pc)(f:List Ct):Bd->List Wy×List Ct
 | .ite _ _ _ a b _=>([(pB m a p (pB m b p f).2).1.w,(pB m b p f).1.w],(pB m a p (pB m b p f).2).2)
 | .loop _ _ _ a _=>([(pB m a c f).1.w,p.w],(pB m a c f).2)
 |_=>([p.w],f)
def Bc(C:Addr)(n:Nat):Sp:=λe H Q _=>∃(i d f g G:Addr) (m:Int) (c:List Ct) (j:List V) (a p:Pc) (v B pv:V) (y:List Str) (s:Bd),e=[.ref i,v,pv,B]/\sf H C i d f m c j a B g y s/\lB H p pv G y/\G≠f/\p.w.sets=[]/\gp H v s/\s.dep < n+1/\
 ∀(W:V) (b:List V) (h:Hp),aZ h (bM ((fV m p a c s).1.map gn)) W []->Cg h C i d f m (fV m p a c s).2 b->ar f H h->Q W h
theorem XD(h:gp H v s)(g:s.isCut=true)(m:Int)(c:Pc)(F:List Ct):
  pB m s c F=(#[s.use c.M,#[[],.go (m - (F.length:Int) - (s.cuts:Int))]],(fV m #[s.use c.M,#[[],.go (m - (F.length:Int) - (s.cuts:Int))]] c F s).2++[#[s.use c.M,s.deed,(fV m #[s.use c.M,#[[],.go (m - (F.length:Int) - (s.cuts:Int))]] c F s).1]]):=by
 cases h with
 |lf p l V d e=>
  cases l with
  |rd x t T |wr t u T U |cl x f a k=>rfl
  |st x t T |gv t T=>cases g
 |ite p t T a b q Q A B d i e j n o |loop p t T a q A d i e j=>rfl
theorem rO(h:lB H p v g y):∃(r:Addr) (W:V),v= .ref r/\H r=some (.tup [.ref g,W])/\aZ H (gn p.w) W []:=by
 obtain⟨r,s,W,e,a,c,b⟩:=h
 exact#[r,W,e,a,b]
theorem A3:ak ["self","statement","place","behind","other"] ["self","statement","place","behind"] (aa uF):=bq
theorem AQ(F:aJ K "ways_of" "Cutting.ways_of" uF f fd)(X:CK K C)(GB:aj P w K mg base ay (4*n+31) fB f0 ["self","body","behind"] (me C n))(bB:aw K f0 ["self","body","behind"] [])(hB:bN K C "place_of_body" fB):aj P w K mg base ay (4*n+32) f fd ["self","statement","place","behind"] (Bc C n):=by
 refine F.ok A3 ?_ λc3 A o1 s H vs Q E hr h=>?_
 ·rintro _ _ _ _ ⟨i,D,R,g,g2,m,d,S,y,pl,v,bv,pv,Y,s,rfl,_⟩
  rfl
 refine aR λGq kq=>?_
 obtain⟨i,D,R,g,g2,m,d,S,y,pl,v,bv,G,Y,st,rfl,I,h6,n0,h7,hs,hd,q⟩:=h
 refine kq ?_
 clear kq
 refine#[_,(jd (jv (jX (jw (pv 1))) (jd (jx 4 A3.nd (kQ (pv 0) X.cl hB GB hr.m bB .nil bh (ja (jw (pv 1)) (ja (pv 3) jb)))) (jg (jl (jh (ja (jr kI (kQ (pv 0) X.cl hB GB hr.m bB .nil bh (ja (jw (pv 1)) (ja (pv 3) jb))) jf (λ_ _=>Z)) (ja (jw (pv 4)) jb)))))) jm) (jd (jv (jX (jw (pv 1))) (jg (jl (jh (ja (jr kI (kQ (pv 0) X.cl hB GB hr.m bB .nil bh (ja (jw (pv 1)) (ja (pv 2) jb))) jf (λ_ _=>Z)) (ja (jw (pv 3)) jb))))) jm) (jg (jl (jh (ja (jw (pv 3)) jb)))))),?_]
 have b0:=aE
 obtain⟨br,bw,rfl,J,L⟩:=rO I.p
 cases hs with
 |lf p l vs e M=>
  have f2:eh (bK (al (dG (fu K) (aS 3) (tC (V.int 1))) aI)) { nx:=λx H'=>Q V.non H',rt:=Q } [some (.ref i),some (.ref p),some G,some (.ref br),none] H:=by
   refine(jp J Z #[lg,λr N=>q (.ref r) S _ (jJ jc (jq Z (L.mono (ae.tm (je N))) jF)) (I.c.same (je N)) (ar.of_same (je N))])
  cases l with
  |rd x t T |st x t T |wr t u T U |cl x f q2 ts |gv t T=>
   obtain⟨rfl,_⟩:=M
   refine(jp e Z #[Z,_,Z,aF IP ?_])
   refine(jp e Z #[Z,_,Z,aF IP ?_])
   exact f2
 |ite p t T a b qa qb as bs e h0 M h3 h4 h5=>
  refine(jp e Z #[Z,_,Z,bJ IP ?_])
  have h8:max (max a.dep b.dep+1) 0 < n+1:=hd
  have hz:d.length+y.w.sets.length+(a.size+b.size+0+1)<=10000000:=I.sz
  have W:=I.ok
  refine ah λF1 f1=>#[_,Z,i,D,_,Z,I.c.ins,Z,jp e Z #[_,Z,i,D,R,qb,g,m,d,S,bs,y,.ref br,Y,b,Z,#[I.c,I.p,I.ng,W.2.2.1,IM],h3,h5,IM,λv1 g1 j H1 p1 n1 O z=>f1 _ _ ?_]]
  clear f1
  have B:=I.c.tm z
  have lc:=j7 m b y d
  have cb:=kC b
  refine#[_,Z,i,D,_,Z,O.ins,Z,jp (B _ _ e) Z #[_,Z,i,D,R,qa,g,m,_,j,as,y,.ref br,Y,a,Z,#[O,I.p.but z I.c.fd I.ng,I.ng,W.2.1,IM],B _ _ M,h4.mono B,IM,λv2 g2 c0 H2 p2 n2 c2 k2=>?_]]
  obtain⟨r2,w2,rfl,h',a0⟩:=rO p2
  obtain⟨r1,w1,rfl,k,o⟩:=rO (p1.but k2 O.fd n1)
  refine#[r2,_,_,_,Z,Z,aA.of h',Z,jp k Z #[bn,λr N=>q (.ref r) c0 _ (jJ jc (jq Z (a0.mono (ae.tm (je N))) (jq Z (o.mono (ae.tm (je N))) jF))) (c2.same (je N)) ((z.trans k2).trans (ar.of_same (je N)))]]
 |loop p t T a qa as e h0 M h3=>
  refine(jp e Z #[Z,_,Z,aF IP ?_])
  refine(jp e Z #[Z,_,Z,bJ IP ?_])
  have h8:max (a.dep+1) 0 < n+1:=hd
  have hz:d.length+y.w.sets.length+(a.size+0+1)<=10000000:=I.sz
  have W:=I.ok
  refine#[_,Z,i,D,_,Z,I.c.ins,Z,jp e Z #[_,Z,i,D,R,qa,g2,m,d,S,as,pl,G,Y,a,Z,#[I.c,h6,n0,W.2.1,by rw[h7];show d.length+0+a.size<=_;omega],M,h3,IM,λv1 g1 j H1 p1 n1 O z=>?_]]
  obtain⟨r1,w1,rfl,k,o⟩:=rO p1
  have B:=I.c.tm z
  refine#[r1,_,_,_,Z,Z,aA.of k,Z,jp (B _ _ J) Z #[bn,λr N=>q (.ref r) j _ (jJ jc (jq Z (o.mono (ae.tm (je N))) (jq Z ((L.mono B).mono (ae.tm (je N))) jF))) (O.same (je N)) (z.trans (ar.of_same (je N)))]]
theorem pK:ak ["self","statement","behind","n","names","place","ways"] ["self","statement","behind"] (aa ut):=bq
theorem AM(F:aJ K "place_of_cut" "Cutting.place_of_cut" ut f fd)(y:CK K C)(h7:n<=7)(GW:aj P w K mg base ay (4*n+32) fW f0 ["self","statement","place","behind"] (Bc C n))(bW:aw K f0 ["self","statement","place","behind"] [])(hW:bN K C "ways_of" fW)(cM:Cl P w K mg base 2 fM f2 ["body"] gX "many_cuts")(cU:Cl P w K mg base 31 fU f3 ["statement","behind"] (gj 7) "used_ahead_of")(cD:Cl P w K mg base 1 fD f4 ["statement"] iM "deed_of")(ml:mg "len"=none)(m0:mg "tuple"=none):aj P w K mg base ay (4*n+33) f fd ["self","statement","behind"] (yG C n):=by
 refine F.ok pK ?_ λc0 A o1 s H vs Q E Y h=>?_
 ·rintro _ _ _ _ ⟨z,L,l,g,m,a,cs,j,v,bv,ys,s,rfl,_⟩
  rfl
 refine aR λGq kq=>?_
 obtain⟨z,L,l,g,m,a,cs,j,v,bv,ys,st,rfl,I,B,hd,hc,q⟩:=h
 refine kq ?_
 clear kq
 refine#[_,(jd (jx 3 pK.nd (ju kP (ju kP (zk (pv 0) Z) (jO jK Z ml EX (ja (zk (pv 0) Z) jb))) (cM.e Y.m (ja (jh (ja (pv 1) jb)) jb)))) (jd (jx 4 pK.nd (cU.e Y.m (ja (pv 1) (ja (jw (pv 2)) jb)))) (jd (jx 5 pK.nd (jh (ja (pv 4) (ja (jh (ja (jh jb) (ja (jh (ja jk (ja (pv 3) jb))) jb))) jb)))) (jd (jx 6 pK.nd (kQ (pv 0) y.cl hW GW Y.m bW .nil bh (ja (pv 1) (ja (pv 5) (ja (pv 2) jb))))) (jd (jL (kK D2 Ee Ed jN (zk (pv 0) Z) (ja (jh (ja (jz jB Z m0 EZ (ja (pv 4) jb)) (ja (cD.e Y.m (ja (pv 1) jb)) (ja (pv 6) jb)))) jb))) (jg (jl (pv 5)))))))),?_]
 have b0:=aE
 obtain⟨br,ss,bw,rfl,h0,hN,h1⟩:=id I.p
 have hz:=I.sz
 have lc:=I.c.len
 refine ah λF1 i=>#[_,Z,z,C,L,_,_,Z,I.c.ins,y.cl,y.nm,Z,_,Z,z,C,L,_,_,Z,I.c.ins,y.cl,y.nf,Z,l,_,Z,.inl (aC.of I.c.fd),_,_,Z,Z,_,Z,lg,λu nu=>?_]
 have s1:ae H (af H u (.tup [v])):=je nu
 refine#[u,st,_,Z,jc,(B.mono (ae.tm s1)).bd,IM,λH1 k1=>#[_,_,Z,Z,i _ _ ?_]]
 clear i
 have S:=s1.trans k1
 rw[lc]
 refine ah λF1 i=>#[_,Z,jp (S _ _ h0) Z #[v,g,st,ss,j.M,ys,Z,B.mono (ae.tm S),hN.same S,I.ok,IM,IM,λG zs H2 n2 N2 k2=>i _ _ ?_]]
 clear i
 have s3:=S.trans k2
 have N:G≠l:=λe=>by rw[e,S _ _ I.c.fd]at n2;cases n2
 refine ah λF1 i=>#[_,Z,le,λe ne=>#[_,Z,bn,λU O=>#[bn,λx nx=>#[bn,λr nr=>i _ _ ?_]]]]
 clear i
 have s4:ae H2 (af (af (af (af H2 e (.tup [])) U (.tup [.str "go",.int (m - (a.length:Int) - (st.cuts:Int))])) x (.tup [.ref e,.ref U])) r (.tup [.ref G,.ref x])):=(((je ne).trans (je O)).trans (je nx)).trans (je nr)
 have P4:lB (af (af (af (af H2 e (.tup [])) U (.tup [.str "go",.int (m - (a.length:Int) - (st.cuts:Int))])) x (.tup [.ref e,.ref U])) r (.tup [.ref G,.ref x])) #[st.use j.M,#[[],.go (m - (a.length:Int) - (st.cuts:Int))]] (.ref r) G ys:=
  #[r,zs,.ref x,Z,jc,N2.same s4,jJ (ap jc nr) (jq Z (jJ (ap (ap (ap jc O) nx) nr) jF) (jq Z (jJ (ap (ap jc nx) nr) (jq Z kJ (jq Z qF jF))) jF))]
 generalize af (af (af (af H2 e (.tup [])) U (.tup [.str "go",.int (m - (a.length:Int) - (st.cuts:Int))])) x (.tup [.ref e,.ref U])) r (.tup [.ref G,.ref x])=H4 at s4 P4
 have R:=s3.trans s4
 have c5:=I.c.same R
 refine ah λF1 i=>#[_,Z,z,L,_,Z,c5.ins,Z,_,Z,_,Z,_,Z,z,L,l,g,G,m,a,cs,j,_,v,.ref br,.ref r,ys,st,Z,#[c5,I.p.same R,I.ng,I.ok,I.sz],P4,N,Z,B.mono (ae.tm R),hd,λwv D H6 w6 c6 k6=>i _ _ ?_]
 clear i
 have t0:=c5.tm k6
 have p6:=P4.but k6 c5.fd N
 have z6:H6 G=some (.lst (zs.map V.str)):=k6 _ _ N (s4 _ _ N2.at')
 have ez:=N2.nm.canon
 have l6:=c6.len
 have lw:(fV m #[st.use j.M,#[[],.go (m - (a.length:Int) - (st.cuts:Int))]] j a st).2.length+1=a.length+st.cuts:=by
  have:=j7 m st j a
  rw[XD B hc m j a,DM]at this
  exact this
 have cl:=kC st
 refine ah λF1 i=>#[_,Z,z,C,L,_,_,Z,c6.ins,y.cl,y.nf,Z,.inl #[Z,_,aC.of c6.fd],_,Z,G,_,Z,.inl #[aC.of z6,λnt n0=>?_]]
 have s7:ae H6 (af H6 nt (.tup (zs.map V.str))):=je n0
 refine#[_,Z,v,st,Z,((B.mono (ae.tm R)).mono t0).mono (ae.tm s7),λd H8 d8 k8=>#[_,Z,dU,λW J=>?_]]
 have X:=(s7.trans k8).trans (je (o:=.tup [.ref nt,d,wv]) J)
 have t:=c6.same X
 refine#[l,D,_,Z,Z,t.fd,IM,i _ _ ?_]
 clear i
 have T9:aZ (af H8 W (.tup [.ref nt,d,wv])) (Al #[st.use j.M,st.deed,(fV m #[st.use j.M,#[[],.go (m - (a.length:Int) - (st.cuts:Int))]] j a st).1]) (.ref W) []:=by
  refine jJ jc (jq Z (jJ (ap (k8 _ _ jc) J) ?_) (jq (Ao _) (d8.mono (ae.tm (je J))) (jq Z (w6.mono (ae.tm X)) jF)))
  rw[<- ez]
  exact Xb zs
 have p9:=p6.same X
 generalize af H8 W (.tup [.ref nt,d,wv])=H9 at X t T9 p9
 have k:ar l H9 (af H9 l (.lst (D++[.ref W]))):=λb o nb e=>by rw[jj nb];exact e
 have T:=t.tm k
 have n1:z≠l:=λe=>by have:=t.ins;rw[e,t.fd]at this;cases this
 refine#[_,Z,q (.ref r) G (D++[.ref W]) _ ?_ N ?_ (λb o nb e=>k b o nb (X _ _ (k6 b o nb (R _ _ e))))]
 ·rw[XD B hc m j a]
  exact p9.but k t.fd N
 ·rw[XD B hc m j a]
  refine#[k _ _ n1 t.ins,jc,?_]
  rw[Ef]
  exact JP (jq Z (T9.mono T) jF) (t.tr.mono T)
inductive BI(C ia dx fa a:Addr)(m:Int)(cts:List Ct)(pc:Pc)(bv:V)(ys:List Str)(b:Bd)(xs:List V)(H:Hp)(i:Nat)(σ:L2.St)(H':Hp):Prop
 |mk (pre eM:Bd) (v:V) (g:Addr) (cs:List V) (o4:Option V) (e0:σ=[some (.ref ia),some (.ref a),some bv,some v,o4]) (e1:b=pre.app eM) (e2:dj H pre (xs.take (xs.length - i))) (e3:lB H' (pB m eM pc cts).1 v g ys) (e4:g≠fa) (e5:Cg H' C ia dx fa m (pB m eM pc cts).2 cs) (e6:ar fa H H'):BI C ia dx fa a m cts pc bv ys b xs H i σ H'
theorem JQ(m:Int):∀(b:Bd) (c:Pc) (F:List Ct),(pB m b c F).2.length+(pB m b c F).1.w.sets.length<=F.length+c.w.sets.length+b.size
 | .nil,_,_=>DN _
 | .lf p l r,c,F=>by
  have e:=JQ m r c F
  show(pL m p l (pB m r c F)).2.length+(pL m p l (pB m r c F)).1.w.sets.length<=F.length+c.w.sets.length+(r.size+1)
  cases l with
  |st x t T=>have:=Xc x t (pB m r c F).1;show(pB m r c F).2.length+(gR x t (pB m r c F).1).sets.length<=_;omega
  |gv t T=>show(pB m r c F).2.length+0<=_;omega
  |rd x t T |wr t u T U |cl x f a d=>show((pB m r c F).2++[_]).length+0<=_;rw[DM];show _+1+0<=_;omega
 | .ite p t T x y r,c,F=>by
  have e:=JQ m r c F
  have h:=kC x
  have H:=kC y
  show((pB m x _ (pB m y _ _).2).2++[_]).length+0<=F.length+c.w.sets.length+(x.size+y.size+r.size+1)
  rw[DM,j7 m x,j7 m y]
  show _+1+0<=_
  omega
 | .loop p t T x r,c,F=>by
  have e:=JQ m r c F
  have h:=kC x
  show((pB m x _ _).2++[_]).length+0<=F.length+c.w.sets.length+(x.size+r.size+1)
  rw[DM,j7 m x]
  show _+1+0<=_
  omega
theorem CG:ak ["self","statement","behind"] ["self","statement","behind"] (aa uC):=bq
theorem AO(F:aJ K "place_of" "Cutting.place_of" uC f fd)(ck:CK K C)(GC:aj P w K mg base ay (4*n+33) fC D ["self","statement","behind"] (yG C n))(bC:aw K D ["self","statement","behind"] [])(hC:bN K C "place_of_cut" fC)(cG:Cl P w K mg base 8 fG f0 ["term"] gB "place_of_give")(cS:Cl P w K mg base 11 fS f1 ["statement","behind"] iP "place_of_set"):aj P w K mg base ay (4*n+34) f fd ["self","statement","behind"] (A9 C n):=by
 refine F.ok CG ?_ λc0 A O s H vs Q E G h=>?_
 ·rintro _ _ _ _ ⟨r,J,fa,g,m,j,z,L,v,B,y,s,rfl,_⟩
  rfl
 refine aR λGq kq=>?_
 obtain⟨r,J,fa,g,m,j,z,L,v,B,y,st,rfl,I,M,hd,q⟩:=h
 refine kq ?_
 clear kq
 refine#[_,(jd (jv (jX (jw (pv 1))) (jg (jl (cG.e G.m (ja (jw (pv 1)) jb)))) jm) (jd (jv (jX (jw (pv 1))) (jg (jl (cS.e G.m (ja (pv 1) (ja (pv 2) jb))))) jm) (jg (jl (kQ (pv 0) ck.cl hC GC G.m bC .nil bh (ja (pv 1) (ja (pv 2) jb))))))),?_]
 have hz:=I.sz
 have R:=M
 have i:st.isCut=true->eh (rG C "place_of_cut" (yG C n) [] E0 (aS 0) (al (aS 1) (al (aS 2) aI))) { nx:=λx k=>Q V.non k,rt:=Q } [some (.ref r),some v,some B] H:=λhc=>
  #[_,Z,r,J,_,Z,I.c.ins,Z,_,Z,_,Z,r,J,fa,g,m,j,z,L,v,B,y,st,Z,I,M,hd,hc,q]
 cases M with
 |lf p l vs d o=>
  cases l with
  |rd x t T |wr t u T U |cl x f q2 ts=>
   obtain⟨rfl,_⟩:=o
   refine(jp d Z #[Z,_,Z,aF IP ?_])
   refine(jp d Z #[Z,_,Z,aF IP ?_])
   exact i Z
  |gv t T=>
   obtain⟨rfl,hT⟩:=o
   refine(jp d Z #[Z,_,Z,bJ IP ?_])
   clear i
   have Y:y.length<=21:=by obtain⟨_,_,_,_,_,hN,_⟩:=I.p;exact hN.y20
   exact(jp d Z #[t,T,y,Z,hT,I.ok.1,Y,λW X k p' N S=>q W X z k p' (λe=>by rw[e,I.c.fd]at N;cases N) (I.c.same S) (ar.of_same S)])
  |st x t T=>
   obtain⟨rfl,hT⟩:=o
   refine(jp d Z #[Z,_,Z,aF IP ?_])
   refine(jp d Z #[Z,_,Z,bJ IP ?_])
   clear i
   exact#[_,Z,_,Z,.ref p,B,p,t,x,T,L,g,y,Z,R,I.p,I.ok.1.1,I.ok.1.2,IM,λW X k p' N S=>q W X z k p' (λe=>by rw[e,I.c.fd]at N;cases N) (I.c.same S) (ar.of_same S)]
 |ite p t T a b qa qb as bs d h0 o h3 h4 h5 |loop p t T a qa as d h0 o h3=>
  refine(jp d Z #[Z,_,Z,aF IP ?_])
  refine(jp d Z #[Z,_,Z,aF IP ?_])
  exact i Z
theorem uI:ak ["self","body","behind","place","statement"] ["self","body","behind"] (aa ur):=bq
theorem AH(F:aJ K "place_of_body" "Cutting.place_of_body" ur f fd)(ck:CK K C)(GO:aj P w K mg base ay (4*n+34) fO T ["self","statement","behind"] (A9 C n))(bO:aw K T ["self","statement","behind"] [])(hO:bN K C "place_of" fO)(R:mg "reversed"=none):aj P w K mg base ay (4*n+35) f fd ["self","body","behind"] (me C (n+1)):=by
 refine F.ok uI ?_ λc1 A U s H vs Q E hr h=>?_
 ·rintro _ _ _ _ ⟨r,J,V,a,g,m,d,cs,xs,l,L,Y,b,rfl,_⟩
  rfl
 refine aR λGq t=>?_
 obtain⟨r,J,V,a,g,m,d,cs,xs,l,L,Y,b,rfl,I,ha,hb,hd,q⟩:=h
 refine t ?_
 clear t
 refine#[_,(jd (jx 3 uI.nd (pv 2)) (jd (j6 Ej Z (@ZT _ _ _ _ _ _ _ Z R boot_reversed (pv 1) IL IL IQ IQ) (js (i:=4) uI.nd Z (Or.inl Z)) (jg (jx 3 uI.nd (kQ (pv 0) ck.cl hO GO hr.m bO .nil bh (ja (pv 4) (ja (pv 3) jb)))))) (jg (jl (pv 3))))),?_]
 have b0:=aE
 have hz:=I.sz
 have xl:=hb.len
 refine ah λF1 u=>#[_,Z,u _ _ ?_]
 clear u
 refine ah λF1 u=>?_
 refine dJ λF kF=>#[_,Z,a,xs,Z,aA.of ha,kF _ _ ?_]
 clear kF
 refine Q8 (K:=K) (xs:=xs) (BI C r J V a m d l L Y b xs H) #[b,.nil,L,g,cs,_,Z,(qT b).symm,by rw[HW,Er];exact hb,I.p,I.ng,I.c,ar.refl] (λi σ H' hi h=>?_) ?_ (λσ H' h=>u _ _ ?_)
 ·obtain⟨_,_,_,_,_,_,_,_,_,_,_,_,k⟩:=h
  exact aA.of (I.c.tm k _ _ ha)
 ·clear u
  intro E _ i x σ H2 M fE Gq t h
  obtain⟨pre,eM,v,W,o,o4,rfl,j,y,X,h4,N,O⟩:=h
  have hi:i < xs.length:=by
   rcases Hg i xs.length with z |z
   ·exact z
   ·rw[Fb (by simpa using z)]at M;cases M
  rw[Gx hi]at M
  have et:xs.take (xs.length - i)=xs.take (xs.length - (i+1))++[x]:=by
   have D:xs.length - i=(xs.length - 1 - i)+1:=by omega
   have e2:xs.length - (i+1)=xs.length - 1 - i:=by omega
   rw[D,e2,Eu,M]
   rfl
  rw[et]at y
  rcases y.last with ⟨e,_⟩ | ⟨ws,v',B,S,D,e2,h6,h7⟩
  ·exact absurd e IN
  obtain⟨ew,ev⟩:=List.append_inj' D Z
  cases ev
  subst e2
  have h0:=zJ (j▸I.ok)
  have G:=zJ h0.1
  have a1:b.dep=max (B.app S).dep eM.dep:=by rw[j,zf]
  have a2:(B.app S).dep=max B.dep S.dep:=zf ..
  have h8:S.dep<=b.dep:=by rw[a1,a2];exact DV (Hc ..) (Ho ..)
  clear a1 a2
  have h':b.size=B.size+S.size+eM.size:=by rw[j,jT,jT]
  have hl:=j7 m eM l d
  have a0:=kC eM
  have a3:=YF m eM l d
  have a4:(pB m eM l d).1.w.sets.length+(pB m eM l d).2.length+S.size<=10000000:=by have:=JQ m eM l d;omega
  refine t ?_
  clear t
  have tm:=I.c.tm O
  show dZ _ _ E [some (.ref r),some (.ref a),some L,some v,some x] H2
  refine#[_,Z,r,J,_,Z,N.ins,Z,_,Z,_,Z,r,J,V,W,m,_,o,_,x,v,Y,S,Z,#[N,X,h4,G.2,IM],h7.mono tm,IM,λv3 g3 c0 H3 p3 n3 c3 k3=>fE _ _ #[B,S.app eM,v3,g3,c0,_,Z,by rw[j,zP],?_,by rw[Kd];exact p3,n3,by rw[Kd];exact c3,O.trans k3]]
  rw[ew]
  exact h6
 ·obtain⟨pre,eM,v,W,o,o4,rfl,j,y,X,h4,N,O⟩:=h
  rw[Hf]at y
  have ep:pre= .nil:=by
   rcases y.last with ⟨_,e⟩ | ⟨ws,v,B,S,D,_⟩
   ·exact e
   ·exact absurd D IN
  rw[ep]at j
  refine#[_,Z,q v W o H' ?_ h4 ?_ O]
  ·rw[j];exact X
  ·rw[j];exact N
theorem AF:aj P w K mg base ay k f i ["self","body","behind"] (me C 0):=by
 have n:∀v H Q E,¬me C 0 v H Q E:=λv H Q E h=>by
  obtain⟨I,D,F,a,g,m,d,j,x,p,B,y,b,_,_,_,_,e,_⟩:=h
  exact absurd e (GH _)
 exact#[λv H Q E h=>absurd h (n v H Q E),λA o s H c u v Q E _ _ _ _ h=>absurd h (n v H Q E)]
theorem Dh(c:CK K C)(FB:aJ K "place_of_body" "Cutting.place_of_body" ur g f)(F:aJ K "place_of" "Cutting.place_of" uC A a)(i:aJ K "place_of_cut" "Cutting.place_of_cut" ut D b)(j:aJ K "ways_of" "Cutting.ways_of" uF E d)
  (B:aw K f ["self","body","behind"] []) (H:bN K C "place_of_body" g) (k:aw K a ["self","statement","behind"] []) (l:bN K C "place_of" A) (o:aw K b ["self","statement","behind"] []) (p:bN K C "place_of_cut" D) (q:aw K d ["self","statement","place","behind"] []) (r:bN K C "ways_of" E)
  (s:Cl P w K mg base 2 T G ["body"] gX "many_cuts") (t:Cl P w K mg base 31 U I ["statement","behind"] (gj 7) "used_ahead_of") (u:Cl P w K mg base 1 Y J ["statement"] iM "deed_of") (v:Cl P w K mg base 8 fG L ["term"] gB "place_of_give") (x:Cl P w K mg base 11 fS N ["statement","behind"] iP "place_of_set") (y:mg "len"=none) (m:mg "tuple"=none) (M:mg "reversed"=none):
  ∀n:Nat,n<=8->aj P w K mg base ay (4*n+31) g f ["self","body","behind"] (me C n)
 |0,_=>AF
 |n+1,h=>by
  have O:=Dh c FB F i j B H k l o p q r s t u v x y m M n IM
  have Q:=AQ j c O B H
  have R:=AM i c IM Q q r s t u y m
  have S:=AO F c R o p v x
  have z:=AH FB c S k l M
  have e:4*n+35=4*(n+1)+31:=by omega
  rw[e]at z
  exact z
theorem ue{X:Cx}{K:Frag}{n:Nat}(a:X.K=K)(b:X.calm=true)(h:yY X e t)
  (c:(assignEach e X.env).length=n) (H:(assignEach e X.env).findIdx? (·.1)=none):PG X (.Tuple e k p) (sO K n t):=by
 subst a
 exact zi b h c H
abbrev g3(K:Frag)(i j k:Nat):TG:=sO K 3 (dO (bg i) (dO (bg j) (dO (bg k) sN)))
theorem Co{t:L2.St}(h:t.length=3):∃a b c,t=[a,b,c]:=by
 cases t with
 |nil=>cases h
 |cons a r=>
  cases r with
  |nil=>cases h
  |cons b R=>
   cases R with
   |nil=>cases h
   |cons c d=>
    cases d with
    |nil=>exact#[a,b,c,Z]
    |cons _ _=>cases h
noncomputable abbrev pq:Stmt:=bE 47
noncomputable abbrev mH:Stmt:=bE 48
structure Df where
 f:Str
 p:Addr
 pa:Addr
 pb:Addr
 b:Bd
def vf(H:Hp)(d:Df)(v:V):Prop:=∃B,v= .ref d.p/\H d.p=some (.tup [.str d.f,.ref d.pa,.ref d.pb])/\H d.pb=some (.tup B)/\dj H d.b B
def cf(H:Hp):List Df->List V->Prop
 | [],a=>a=[]
 |d::D,a=>∃v r,a=v::r/\vf H d v/\cf H D r
theorem vf.mono(k:ai H a)(h:vf H d v):vf a d v:=by
 obtain⟨b,e,c,f,g⟩:=h
 exact#[b,e,k _ _ c,k _ _ f,g.mono k]
theorem cf.mono(k:ai H b):∀{a:List V},cf H D a->cf b D a:=by
 induction D with
 |nil=>exactλh=>h
 |cons d D i=>rintro a ⟨v,r,e,c,f⟩;exact#[v,r,e,c.mono k,i f]
theorem cf.snoc{d:Df}(a:vf H d v):∀{D:List Df} {b:List V},cf H D b->cf H (D++[d]) (b++[v])
 | [],_,h=>by have e:_=[]:=h;rw[e];exact#[v,[],Z,a,Z]
 |_::_,_,z=>by obtain⟨u,r,e,c,f⟩:=z;exact #[u,r++[v],by rw[e];rfl,c,cf.snoc a f]
theorem cf.len:∀{d:List Df} {v:List V},cf H d v->v.length=d.length
 | [],_,h=>by have e:_=[]:=h;rw[e];rfl
 |_::_,_,z=>by obtain⟨u,r,e,b,a⟩:=z;rw[e,El,El,cf.len a]
theorem cf.at:∀{D:List Df} {b:List V},cf H D b->∀(i:Nat) (v:V),b[i]?=some v->∃d,D[i]?=some d/\vf H d v
 | [],_,h,i,v,a=>by have e:_=[]:=h;rw[e]at a;simp at a
 |d::_,_,#[u,r,e,c,f],0,v,a=>by rw[e]at a;cases a;exact#[d,Z,c]
 |_::D,_,#[u,r,e,c,f],i+1,v,a=>by rw[e]at a;simpa using cf.at f i v (by simpa using a)
def lF(d:Df):Prop:=(∃y:List Str,y.length<=20/\d.b.Ok y)/\d.b.dep < 8/\d.b.size<=3000
noncomputable def Cr(n:Addr):Pc:=#[λx=>x∈(Tm.num 0).vars,#[[],.give n]]
noncomputable def gI(n:Addr)(d:Df):Pc×List Ct:=pB (d.b.cuts:Int) d.b (Cr n) []
noncomputable def eY(n:Addr)(d:Df):Tr:=bM [cQ d.f,nJ d.pa,gn (gI n d).1.w,bM ((gI n d).2.reverse.map Al)]
def lI(K:Frag)(n:Addr):Prop:=∀H:Hp,aA K H n [.str "num",.int 0]
def rg(C:Addr):Sp:=λv H Q _=>∃(i d a:Addr) (b:Bd) (x:List V),v=[.ref i,.ref a]/\H i=some (.ins C d [])/\H a=some (.tup x)/\dj H b x/\b.size<=10000000/\
 ∀(f:Addr) (h:Hp),H f=none->Cg h C i d f (b.cuts:Int) [] []->ar i H h->Q .non h
def mh(K:Frag)(n:Addr):Sp:=λa H Q _=>∃(d:Df) (B:List V),a=[.str d.f,.ref d.pa,.ref d.pb]/\H d.pb=some (.tup B)/\dj H d.b B/\lF d/\∀(v:V) (h:Hp),aZ h (eY n d) v []->ae H h->Q v h
def ma(K:Frag)(n:Addr):Sp:=λb H Q _=>∃(a:Addr) (D:List Df) (x:List V),b=[.ref a]/\H a=some (.tup x)/\cf H D x/\D.length<=1000/\(∀d∈D,lF d)/\∀(v:V) (h:Hp),aZ h (bM (D.map (eY n))) v []->ae H h->Q v h
theorem Zo{K:Frag}{t:TE}{Q:List V->Hp->Prop}{H:Hp}(x:H a=some (.tup g))(u:cf H D g)(R:D.length<=1000)
  (Pv:Nat->List V->Hp->Prop) (z:Pv 0 [] H) (A:∀i Y h,Pv i Y h->ae H h/\Y.length<=i)
  (C:∀i d B Y h,D[i]?=some d->h d.pb=some (.tup B)->dj h d.b B->Pv i Y h->t (some (.str d.f)::some (.ref d.pa)::some (.ref d.pb)::l) h λy j=>Pv (i+1) (Y++[y]) j)
  (E:∀Y h,Pv D.length Y h->Q Y h):eO (sh K a) 3 l (g3 K 0 1 2) lh t Q H:=by
 have F:=aE
 have S:=u.len
 refine#[λi m Y h=>m=D.length - i/\i<=D.length/\Pv i Y h,#[D.length,IN,DX _,z],?_]
 intro i m Y h c
 refine aR λG k=>?_
 obtain⟨rfl,T,p⟩:=c
 refine k ?_
 clear k
 obtain⟨s,U⟩:=A i Y h p
 have c:aA K h a g:=aA.of (s _ _ x)
 by_cases n:i < D.length
 ·have I:i < g.length:=by omega
  refine .inr #[#[g,g[i],c,DJ I],IM,Pv (i+1),λJ j L=>#[D.length - (i+1),IM,Z,n,L],λv j W o y=>?_]
  obtain⟨e,y⟩:=y
  subst e
  have q:=y g c
  refine aR λG k=>?_
  obtain⟨d,r,B,rfl,M,N,O⟩:=(u.mono (ae.tm s)).at i v q
  refine k ?_
  clear k
  refine aR λG k=>?_
  obtain⟨X,t2,t3,rfl⟩:=Co o
  refine k ?_
  clear k
  refine#[d.p,_,Z,aA.of M,Z,_,_,Z,_,_,Z,_,_,Z,Z,#[[some _,some _,some _],Z,Z],?_]
  exact C i d B Y j r N O p
 ·have e:i=D.length:=by omega
  subst e
  exact .inl #[#[g,c,IM],E Y h p]
theorem A2:ak ["self","body"] ["self","body"] (aa pj):=bq
theorem xB(F:aJ K "__init__" "Cutting.__init__" pj f t)(d:CK K C)(u:Cl P w K mg base 2 M v ["body"] gX "many_cuts"):aj P w K mg base ay 3 f t ["self","body"] (rg C):=by
 refine F.ok A2 ?_ λy A O s H V Q E B h=>?_
 ·rintro _ _ _ _ ⟨i,D,a,b,x,rfl,_⟩
  rfl
 refine aR λR j=>?_
 obtain⟨i,D,a,b,x,rfl,G,I,J,L,q⟩:=h
 refine j ?_
 clear j
 refine#[_,(jd (@qC _ _ _ _ _ _ _ _ (pv 0) (u.e B.m (ja (pv 1) jb)) Z) (jg (@qC _ _ _ _ _ _ _ _ (pv 0) (jC jb) Z))),?_]
 refine ah λS l=>#[_,Z,a,b,x,Z,I,J,L,λT k=>#[_,Z,i,C,D,_,Z,k _ _ G,d.cl,d.nm,IL,l _ _ ?_]]
 clear l
 refine#[le,λg n=>#[_,Z,i,C,D,_,Z,ap jc n,d.cl,d.nf,(by show 1 < 1000;decide),?_]]
 have N:g≠i:=λe=>by rw[e,jc]at n;cases n
 have p:H g=none:=by
  cases e:H g with
  |none=>rfl
  |some o=>rw[jj N,k _ _ e]at n;cases n
 refine q g _ p #[jc,by rw[jj N,jc],Z] λc o r e=>?_
 rw[jj r,jj (λz=>by rw[z,p]at e;cases e),jj r]
 exact k _ _ e
theorem lU:ak ["name","params","body","cutting","first"] ["name","params","body"] (aa pq):=bq
theorem tJ(F:aJ K "part_made" "part_made" pq f fd)(t:CK K C)(mk:Mk K C fI)(GI:aj P w K mg base ay 3 fI u ["self","body"] (rg C))(bI:aw K u ["self","body"] [])(mC:mg "Cutting"=some (.ref C))(M:mg "NOUGHT"=some (.ref n))(no:lI K n)(GB:aj P w K mg base ay 63 fB x ["self","body","behind"] (me C 8))(bB:aw K x ["self","body","behind"] [])(hB:bN K C "place_of_body" fB)(cG:Cl P w K mg base 8 fG f0 ["term"] (rn K) "place_of_give")(y:mg "tuple"=none)(z:mg "reversed"=none):aj P w K mg base ay 64 f fd ["name","params","body"] (mh K n):=by
 refine F.ok lU ?_ λc0 A O s H vs Q E B h=>?_
 ·rintro _ _ _ _ ⟨d,G,rfl,_⟩
  rfl
 refine aR λGq kq=>?_
 obtain⟨d,G,rfl,hb,a,I,q⟩:=h
 refine kq ?_
 clear kq
 refine#[_,(jd (jx 3 lU.nd (Yu mk GI B.m Z mC bI .nil bh (ja (pv 2) jb))) (jd (jx 4 lU.nd (kQ (pv 3) t.cl hB GB B.m bB .nil bh (ja (pv 2) (ja (cG.e B.m (ja (qO (v:=.ref n) Z M Z) jb)) jb)))) (jg (jl (jh (ja (pv 0) (ja (pv 1) (ja (jw (pv 4)) (ja (@Zg _ _ _ _ _ _ _ _ _ Z Z y EZ Z z boot_reversed (zk (pv 3) Z) IL IL IL IL IQ IQ IQ IQ) jb))))))))),?_]
 have b0:=aE
 obtain⟨⟨ys,y0,ok⟩,J,hz⟩:=I
 refine ah λF1 j=>#[_,Z,λi D N L n0=>?_]
 have S:ae H (af (af H D (.own i)) i (.ins C D [])):=λc o e=>by rw[jj (ji e N),jj (ji e L)];exact e
 refine#[i,D,d.pb,d.b,G,Z,jc,S _ _ hb,a.mono (ae.tm S),IM,λp H1 nf R k1=>#[Z,j _ _ ?_]]
 clear j
 have s1:ae H H1:=λc o e=>k1 c o (ji e N) (S _ _ e)
 have T:H p=none:=S.free nf
 refine ah λF1 j=>#[_,Z,i,D,_,Z,R.ins,Z,_,Z,n,ys,Z,no _,IM,λv g H2 p2 n2 k2=>?_]
 have ng:g≠p:=λe=>by rw[e,R.fd]at n2;cases n2
 have U:=s1.trans k2
 refine#[i,D,p,d.pb,g,_,[],[],G,Cr n,v,ys,d.b,Z,#[R.same k2,p2,ng,ok,by show 0+0+d.b.size<=_;omega],U _ _ hb,a.mono (ae.tm U),J,λv3 g3 k V p3 n3 W k3=>j _ _ ?_]
 clear j
 obtain⟨r3,w3,rfl,X,Y⟩:=rO p3
 have s3:ae H V:=λc o e=>k3 c o (ji e T) (U _ _ e)
 refine#[_,Z,_,Z,jp X Z #[_,Z,i,C,D,_,_,Z,W.ins,t.cl,t.nf,Z,p,k,Z,aC.of W.fd,λl nl=>#[nO,λr nr=>?_]]]
 have s5:ae V (af (af V l (.tup k.reverse)) r (.tup [.str d.f,.ref d.pa,w3,.ref l])):=(je nl).trans (je nr)
 refine q (.ref r) _ ?_ (s3.trans s5)
 refine jJ jc (jq Z kJ (jq Z Jl (jq Z (Y.mono (ae.tm s5)) (jq Z (jJ (ap jc nr) ?_) jF))))
 have e:=YE (W.tr.mono (ae.tm s5))
 rw[<- List.map_reverse]at e
 exact e
theorem yz:ak ["program"] ["program"] (aa mH):=bq
noncomputable def pW:Scope:=#[.function,[(".0",.local),("name",.local),("params",.local),("body",.local),("part_made",.globalImplicit)],false,false,[]]
theorem ZG:(["name","params","body"]:List Str).Nodup:=by decide+kernel
theorem Aj:a8 ["program"] (aa mH) pW ["name","params","body"] 3 []:=nR
theorem tG(F:aJ K "made" "made" mH f p)(C:Cl P w K mg base 64 U t ["name","params","body"] (mh K N) "part_made")(M:mg "tuple"=none):aj P w K mg base ay 65 f p ["program"] (ma K N):=by
 refine F.ok yz ?_ λu A o s H V Q E x h=>?_
 ·rintro _ _ _ _ ⟨a,D,X,rfl,_⟩
  rfl
 refine aR λW k=>?_
 obtain⟨a,D,X,rfl,g,y,B,O,q⟩:=h
 refine k ?_
 clear k
 refine#[_,(jg (jl (jz jB Z M EZ (ja (@za _ _ _ _ _ _ _ (["name","params","body"]) (3) ([]) _ _ _ _ Z (zI (pv 0)) Aj (λ_ _ _ _ _=>(ue (K:=K) (n:=3) Z Z (jy (js (i:=0) ZG Z (Or.inl Z)) (jy (js (i:=1) ZG Z (Or.inl Z)) (jy (js (i:=2) ZG Z (Or.inl Z)) kc))) Z Z)) (λ_ _ _ _ _=>(@zn _)) (λ_ _ _ _ _=>(C.e x.m (ja (pv 0) (ja (pv 1) (ja (pv 2) jb))))) (by intro _;rfl)) jb)))),?_]
 refine#[_,Z,a,Z,#[_,aA.of g],?_]
 refine Zo g y B (λi V b=>aZ b (aQ ((D.take i).map (eY N))) .non V/\ae H b/\i<=D.length) #[Z,ae.refl _,DX _] (λi V b h=>#[h.2.1,?_]) (λi d G V b c I J h=>?_) (λV b h l L=>?_)
 ·rw[zE h.1,DK,Ec]
  exact Ii ..
 ·have R:i < D.length:=by
   rcases Hg i D.length with z |z
   ·exact z
   ·rw[Fb z]at c;cases c
  refine#[_,Z,_,Z,_,Z,d,G,Z,I,J,O d (D5 c),λv Y T j=>#[?_,h.2.1.trans j,R]]
  rw[Eu,c,Ef]
  exact JP (jq Z T jF) (h.1.mono (ae.tm j))
 ·refine#[l,V,Z,.inl #[aC.of jc,λr S=>?_]]
  have s:ae b (af (af b l (.lst V)) r (.tup V)):=(je L).trans (je S)
  refine q (.ref r) _ (jJ jc ?_) (h.2.1.trans s)
  have e:=h.1
  rw[Er]at e
  exact e.mono (ae.tm s)
noncomputable abbrev px:Stmt:=bE 58
noncomputable abbrev pC:Stmt:=bE 59
noncomputable abbrev mE:Stmt:=bE 60
def aB(p q:Addr)(H h:Hp):Prop:=∀b o,b≠p->b≠q->H b=some o->h b=some o
theorem aB.refl:aB p q H H:=λ_ _ _ _ h=>h
theorem aB.trans(a:aB p q H d)(b:aB p q d e):aB p q H e:=λc o n m h=>b c o n m (a c o n m h)
theorem ar.two(a:ar p H b):aB p q H b:=λc o n _ h=>a c o n h
theorem aB.of_same{p q:Addr}(a:ae H b):aB p q H b:=λc o _ _ h=>a c o h
theorem aB.at:aB p q H (af H q o):=λb u _ m e=>by rw[jj m];exact e
def bQ(H:Hp)(q:Addr):Prop:=∃k:Int,H q=some (.lst [.int k])
theorem bQ.new{o:HO}(h:bQ H q)(n:H r=none):bQ (af H r o) q:=let #[k,e]:=h;#[k,ap e n]
theorem bQ.ne(h:bQ H q)(B:am H p):q≠p:=by
 obtain⟨k,e⟩:=h
 refine aR λG c=>?_
 obtain⟨a,b,_,_,_,d⟩:=B.ob
 refine c ?_
 clear c
 exact jG e d (by intro z;cases z)
theorem bQ.but(h:bQ H q)(B:am H p)(k:ar p H a):bQ a q:=by
 have n:=h.ne B
 obtain⟨z,e⟩:=h
 exact#[z,k _ _ n e]
theorem aB.tm(k:aB p q H h)(B:am H p)(s:bQ H q):ai H h:=λb x e=>by
 refine aR λG d=>?_
 obtain⟨a,c,_,_,_,f⟩:=B.ob
 refine d ?_
 clear d
 obtain⟨z,g⟩:=s
 exact k b _ (jG e f (by intro w;cases w)) (jG e g (by intro w;cases w)) e
noncomputable def cc(H:Hp)(q:Addr):Int:=match H q with
 |some (.lst [.int k])=>k
 |_=>0
theorem zK{H:Hp}(e:H q=some (.lst [.int k])):cc H q=k:=by unfold cc;rw[e]
theorem Qy{h:Hp}(s:bQ H q)(k:∀o,H q=some o->h q=some o):cc h q=cc H q:=by
 obtain⟨z,e⟩:=s
 rw[zK e,zK (k _ e)]
theorem jQ(B:am H p)(s:bQ H q)(k:ar p H h):cc h q=cc H q:=Qy s λo e=>k _ _ (s.ne B) e
theorem jU(s:bQ H q)(k:ae H h):cc h q=cc H q:=Qy s λo e=>k _ _ e
def Bv(H:Hp)(c:Str×List Str)(v:V):Prop:=∃p t,v= .ref p/\H p=some (.tup [.str c.1,.ref t])/\H t=some (.tup (c.2.map V.str))
def dw(H:Hp):List (Str×List Str)->List V->Prop
 | [],a=>a=[]
 |c::C,a=>∃v r,a=v::r/\Bv H c v/\dw H C r
theorem dw.mono(k:ai H b):∀{c:List (Str×List Str)} {a:List V},dw H c a->dw b c a
 | [],_,h=>h
 |_::_,_,z=>by obtain⟨v,r,e,⟨p,t,E,d,f⟩,g⟩:=z;exact #[v,r,e,#[p,t,E,k _ _ d,k _ _ f],dw.mono k g]
theorem dw.snoc(a:Bv H c v):∀{C:List (Str×List Str)} {b:List V},dw H C b->dw H (C++[c]) (b++[v])
 | [],_,h=>by have e:_=[]:=h;rw[e];exact#[v,[],Z,a,Z]
 |_::_,_,z=>by obtain⟨u,r,e,d,f⟩:=z;exact #[u,r++[v],by rw[e];rfl,d,dw.snoc a f]
theorem dw.len:∀{c:List (Str×List Str)} {v:List V},dw H c v->v.length=c.length
 | [],_,h=>by have e:_=[]:=h;rw[e];rfl
 |_::_,_,z=>by obtain⟨u,r,e,b,a⟩:=z;rw[e,El,El,dw.len a]
theorem dw.at:∀{C:List (Str×List Str)} {b:List V},dw H C b->∀(i:Nat) (v:V),b[i]?=some v->∃c,C[i]?=some c/\Bv H c v
 | [],_,h,i,v,a=>by have e:_=[]:=h;rw[e]at a;simp at a
 |c::_,_,#[u,r,e,d,f],0,v,a=>by rw[e]at a;cases a;exact#[c,Z,d]
 |_::C,_,#[u,r,e,d,f],i+1,v,a=>by rw[e]at a;simpa using dw.at f i v (by simpa using a)
theorem yn(h:dw H C a)(i:0<=k)(j:k < (a.length:Int)):∃v c,du a k=some v/\c∈C/\Bv H c v:=by
 have b:k.toNat < a.length:=by omega
 have d:k=((k.toNat:Nat):Int):=by omega
 have E:a[k.toNat]?=some a[k.toNat]:=DJ b
 have e:du a ((k.toNat:Nat):Int)=some a[k.toNat]:=jM E
 rw[<- d]at e
 obtain⟨c,f,g⟩:=h.at _ _ E
 exact#[_,c,e,D5 f,g]
def Bd.fit(h:List (Str×List Str))(y:List Str)(d:Nat)(b:Bd):Prop:=(b.Ok y/\b.Cs (h.map λc=>(c.1,c.2.length)))/\b.dep<=d
theorem YG:Bd.fit h y d .nil:=#[#[Eh,Eh],DX _]
theorem wJ{H:List (Str×List Str)}{l:Lf}(h:l.Ok y)(k:l.Cs (H.map λc=>(c.1,c.2.length))):Bd.fit H y d (.lf p l .nil):=#[#[#[h,Eh],k,Eh],DX _]
theorem YH{a b:Bd}(h:a.fit H y d)(k:b.fit H y d):(a.app b).fit H y d:=#[#[Kc h.1.1 k.1.1,Kb h.1.2 k.1.2],by rw[zf];have:=h.2;have:=k.2;omega]
theorem sL{a b:Bd}(c:cR y T)(h:a.fit H y d)(k:b.fit H y d):Bd.fit H y (d+1) (.ite p t T a b .nil):=#[#[#[c,h.1.1,k.1.1,Eh],h.1.2,k.1.2,Eh],by show max (max a.dep b.dep+1) 0<=d+1;have:=h.2;have:=k.2;omega]
theorem oh{a:Bd}(H:cR y T)(h:a.fit b y d):Bd.fit b y (d+1) (.loop p t T a .nil):=#[#[#[H,h.1.1,Eh],h.1.2,Eh],by show max (a.dep+1) 0<=d+1;have:=h.2;omega]
noncomputable def Di:Nat->Nat
 |0=>1
 |d+1=>1+2*(5*Di d)
def iQ:Sp:=λv H Q _=>∃(p g:Addr) (y:List Str),v=[.ref p,.ref g]/\am H p/\H g=some (.lst (y.map V.str))/\1<=y.length/\y.length<=20/\∀(r:Addr) (T:Tm) (h:Hp),aW h T r->cR y T->am h p->ar p H h->Q (.ref r) h
structure lu(H:Hp)(p g h sp:Addr)(ys:List Str)(hs:List (Str×List Str)):Prop where
 B:am H p
 g:H g=some (.lst (ys.map V.str))
 y1:1<=ys.length
 y2:ys.length<=20
 h:∃hv,H h=some (.lst hv)/\dw H hs hv
 h1:1<=hs.length
 h2:hs.length<=20
 h3:∀c∈hs,c.2.length<=6
 s:bQ H sp
theorem lu.gsp{H:Hp}{p g h S:Addr}{y:List Str}{b:List (Str×List Str)}(G:lu H p g h S y b):g≠S:=by
 obtain⟨k,e⟩:=G.s
 refine jG G.g e λz=>?_
 injection z with z
 have c:=G.y1
 match y,c,z with
 |a::r,_,z=>injection z with d _;cases d
theorem lu.hsp{H:Hp}{p g h S:Addr}{y:List Str}{f:List (Str×List Str)}(G:lu H p g h S y f):h≠S/\h≠p:=by
 obtain⟨k,e⟩:=G.s
 obtain⟨j,E,l⟩:=G.h
 refine aR λu i=>?_
 obtain⟨a,b,_,_,_,m⟩:=G.B.ob
 refine i ?_
 clear i
 have n:=G.h1
 have:∃q r,j= .ref q::r:=by
  match f,n,l with
  |c::C,_,#[v,r,e,#[q,t,o,_],_]=>exact#[q,r,by rw[e,o]]
 obtain⟨q,r,rfl⟩:=this
 refine#[jG E e λz=>?_,jG E m λz=>?_]
 ·injection z with z
  injection z with d _
  cases d
 ·injection z with z
  injection z with d _
  cases d
theorem lu.but2{H a:Hp}{p g h S:Addr}{y:List Str}{b:List (Str×List Str)}(G:lu H p g h S y b)(B:am a p)(s:bQ a S)(k:aB p S H a):lu a p g h S y b:=by
 obtain⟨c,e,E⟩:=G.h
 exact#[B,k _ _ (zo G.B G.g) G.gsp G.g,G.y1,G.y2,#[c,k _ _ G.hsp.2 G.hsp.1 e,E.mono (k.tm G.B G.s)],G.h1,G.h2,G.h3,s]
theorem lu.but{H a:Hp}{p g h S:Addr}{y:List Str}{b:List (Str×List Str)}(G:lu H p g h S y b)(B:am a p)(k:ar p H a):lu a p g h S y b:=G.but2 B (G.s.but G.B k) k.two
def j'(n:Nat):Sp:=λv H Q _=>∃(p g h s:Addr) (d:Nat) (y:List Str) (c:List (Str×List Str)),v=[.ref p,.ref g,.ref h,.ref s,.int (d:Int)]/\lu H p g h s y c/\d < n/\0 < cc H s/\
 ∀(r:Addr) (b:Bd) (a:Hp),dj a b [.ref r]->(b.size:Int)+cc a s<=cc H s->0<=cc a s->b.fit c y d->am a p->bQ a s->aB p s H a->Q (.ref r) a
def gU(n:Nat):Sp:=λv H Q _=>∃(p g h s:Addr) (d:Nat) (y:List Str) (c:List (Str×List Str)),v=[.ref p,.ref g,.ref h,.ref s,.int (d:Int)]/\lu H p g h s y c/\d < n/\0<=cc H s/\
 ∀(r:Addr) (b:Bd) (B:List V) (a:Hp),a r=some (.tup B)->dj a b B->(b.size:Int)+cc a s<=cc H s->0<=cc a s->b.fit c y d->am a p->bQ a s->aB p s H a->Q (.ref r) a
theorem pT:ak ["_law_box_here","_law_names_here","_law_kind"] ["_law_box_here","_law_names_here"] (aa px):=bq
theorem tN(F:aJ K "_law_spot" "_law_spot" px f M)(C:Cl P w K mg base 1 Y N ["_law_box_here","_law_wide"] aN "_law_take")(O:Cl P w K mg base 6 fM R ["_law_box_here","_law_names_here","_law_deep"] (cy 4) "_law_term"):aj P w K mg base ay 7 f M ["_law_box_here","_law_names_here"] iQ:=by
 refine F.ok pT ?_ λS A o s H vs Q E a h=>?_
 ·rintro _ _ _ _ ⟨p,g,y,rfl,_⟩
  rfl
 refine aR λGq G=>?_
 obtain⟨p,g,y,rfl,B,I,i,j,q⟩:=h
 refine G ?_
 clear G
 refine#[_,(jd (jx 2 pT.nd (C.e a.m (ja (pv 0) (ja jf jb)))) (jd (jv (jA Jv (pv 2) jf (aD _)) (jg (jl (O.e a (ja (pv 0) (ja (pv 1) (ja jf jb)))))) jm) (jd (jv (kL (pv 2)) (jg (jl (jh (ja jk (ja (ju kP (ju kP (ju Qv jf jf) jf) (C.e a.m (ja (pv 0) (ja jf jb)))) jb))))) jm) (jg (jl (jh (ja jk (ja (C.e a.m (ja (pv 0) (ja jf jb))) jb)))))))),?_]
 have k:g≠p:=zo B I
 refine#[_,Z,p,8,Z,B,IL,IL,λkd J k0 k1 l L=>?_]
 have t:J g=some (.lst (y.map V.str)):=by rw[L g k];exact I
 have u:ar p H J:=ar.of_eq L
 refine#[_,Z,_,_,Z,Z,_,Z,?_]
 refine bu (λc=>?_) (λc=>?_)
 ·exact#[_,Z,_,Z,p,g,1,y,Z,l,t,i,j,IL,IL,λr T v U dT W b X=>q r T v U #[W,IM] b (u.trans X)]
 refine#[_,Z,Z,_,Z,?_]
 refine bu (λc=>?_) (λc=>?_)
 ·refine#[_,_,Z,Z,#[IL,IL,IL],_,_,Z,Z,_,Z,p,4,Z,l,IL,IL,λD v d x b z=>#[_,_,Z,Z,bn,λr n=>?_]]
  exact q r (.num (1000000000000000000 - 1 - D)) _ jc #[#[IM,IM],(by show 0 < 6;decide)] (b.upd_new n) ((u.trans (ar.of_eq z)).upd_new n)
 ·refine#[_,Z,p,12,Z,l,IL,IL,λD v d x b z=>#[bn,λr n=>?_]]
  exact q r (.num D) _ jc #[#[d,IM],(by show 0 < 6;decide)] (b.upd_new n) ((u.trans (ar.of_eq z)).upd_new n)
theorem ii:ak ["_law_box_here","_law_names_here","_law_heads","_law_spare","_law_deep","_law_kind","_law_x","_law_f","_law_params","_law_body_here"] ["_law_box_here","_law_names_here","_law_heads","_law_spare","_law_deep"] (aa pC):=bq
noncomputable def Zp:Scope:=#[.function,[(".0",.local),("_law_one",.local),("_law_term",.globalImplicit),("_law_box_here",.free),("_law_names_here",.free)],false,false,[]]
theorem xg:(["_law_one","_law_box_here","_law_names_here"]:List Str).Nodup:=by decide+kernel
theorem wD:a8 ["_law_box_here","_law_names_here","_law_heads","_law_spare","_law_deep","_law_kind","_law_x","_law_f","_law_params","_law_body_here"] (aa pC) Zp ["_law_one","_law_box_here","_law_names_here"] 1 [0,1]:=nR
def RH(p g h s:Addr)(d:Nat)(k:Int)(y:Str)(H:Hp)(a:L2.St)(b:Hp):Prop:=a=[some (.ref p),some (.ref g),some (.ref h),some (.ref s),some (.int (d:Int)),some (.int k),some (.str y),none,none,none]/\b=H
theorem xO(F:aJ K "_law_statement" "_law_statement" pC f fd)(cT:Cl P w K mg base 1 fT f0 ["_law_box_here","_law_wide"] aN "_law_take")(cM:Cl P w K mg base 6 fM f3 ["_law_box_here","_law_names_here","_law_deep"] (cy 4) "_law_term")(cP:Cl P w K mg base 7 fP f4 ["_law_box_here","_law_names_here"] iQ "_law_spot"){L:Nat}(cB:Cl P w K mg base (L+9) fB f5 ["_law_box_here","_law_names_here","_law_heads","_law_spare","_law_deep"] (gU n) "_law_body")(ml:mg "len"=none)(m0:mg "tuple"=none):aj P w K mg base ay (L+10) f fd ["_law_box_here","_law_names_here","_law_heads","_law_spare","_law_deep"] (j' (n+1)):=by
 refine F.ok ii ?_ λc3 A o2 s H vs Q E U h=>?_
 ·rintro _ _ _ _ ⟨p,g,h,S,d,ys,hs,rfl,_⟩
  rfl
 refine aR λGq kq=>?_
 obtain⟨p,g,h,S,d,ys,hs,rfl,G0,hd,b5,q⟩:=h
 refine kq ?_
 clear kq
 refine#[_,(jd (jx 5 ii.nd (cT.e U.m (ja (pv 0) (ja jf jb)))) (jd (jx 6 ii.nd (jr jo (pv 1) (cT.e U.m (ja (pv 0) (ja (jO jK Z ml EX (ja (pv 1) jb)) jb))) (λ_ _=>Z))) (jd (kN (ju kP (jr jo (pv 3) jf (λ_ _=>Z)) jf) (zS (pv 3) jf kU)) (jd (jv (jA Jv (pv 5) jf (aD _)) (jg (jl (jh (ja jk (ja (pv 6) (ja (cP.e U.m (ja (pv 0) (ja (pv 1) jb))) jb)))))) jm) (jd (jv (PW.pt (KW (kL (pv 5)) (Jj (kL (pv 5))))) (jg (jl (jh (ja jk (ja (cP.e U.m (ja (pv 0) (ja (pv 1) jb))) (ja (cM.e U.m (ja (pv 0) (ja (pv 1) (ja jf jb)))) jb)))))) jm) (jd (jv (PW.pt (KW (kL (pv 5)) (Jj (kL (pv 5))))) (jd (kN (jr jo (pv 2) (cT.e U.m (ja (pv 0) (ja (jO jK Z ml EX (ja (pv 2) jb)) jb))) (λ_ _=>Z)) (zi (n:=2) Z (jy (js (i:=7) ii.nd Z (Or.inl Z)) (jy (js (i:=8) ii.nd Z (Or.inl Z)) kc)))) (jg (jl (jh (ja jk (ja (pv 6) (ja (pv 7) (ja (jz jB Z m0 EZ (ja (@za _ _ _ _ _ _ _ (["_law_one","_law_box_here","_law_names_here"]) (1) ([0,1]) _ _ _ _ Z (zI (pv 8)) wD (λ_ _ _ _ _=>(js (i:=0) xg Z (Or.inl Z))) (λ_ _ _ _ _=>(@zn _)) (λ_ _ _ _ _=>(cM.e U.m (ja (pv 1) (ja (pv 2) (ja jf jb))))) (by intro _;rfl)) jb)) jb)))))))) jm) (jd (jW (jv (PW.pt (qf (kL (pv 5)) (zD (jA qL (pv 4) jf (aD _))))) (jd (jx 9 ii.nd (cB.e U (ja (pv 0) (ja (pv 1) (ja (pv 2) (ja (pv 3) (ja (ju kP (pv 4) jf) jb))))))) (jg (jl (jh (ja jk (ja (cM.e U.m (ja (pv 0) (ja (pv 1) (ja jf jb)))) (ja (pv 9) (ja (cB.e U (ja (pv 0) (ja (pv 1) (ja (pv 2) (ja (pv 3) (ja (ju kP (pv 4) jf) jb)))))) jb)))))))) jm)) (jd (jW (jv (PW.pt (qf (kL (pv 5)) (zD (jA qL (pv 4) jf (aD _))))) (jg (jl (jh (ja jk (ja (cM.e U.m (ja (pv 0) (ja (pv 1) (ja jf jb)))) (ja (cB.e U (ja (pv 0) (ja (pv 1) (ja (pv 2) (ja (pv 3) (ja (ju kP (pv 4) jf) jb)))))) jb)))))) jm)) (jd (jv (kL (pv 5)) (jg (jl (jh (ja jk (ja (cM.e U.m (ja (pv 0) (ja (pv 1) (ja jf jb)))) jb))))) jm) (jg (jl (jh (ja jk (ja (pv 6) (ja (cM.e U.m (ja (pv 0) (ja (pv 1) (ja jf jb)))) jb))))))))))))))),?_]
 have b6:=aE
 have B:=G0.B
 have b7:g≠p:=zo B G0.g
 refine ah λF1 u=>#[_,Z,p,10,Z,B,IL,IL,λkd H1 k0 k1 B1 e1=>u _ _ ?_]
 clear u
 have G1:=G0.but B1 (ar.of_eq e1)
 have y1:=G0.y1
 have y2:=G0.y2
 refine ah λF1 u=>#[_,Z,_,Z,_,Z,g,_,Z,.inl (aC.of G1.g),p,_,Z,B1,by rw[DK];omega,by rw[DK];omega,λd2 H2 d1 d0 B2 e2=>?_]
 rw[DK]at d0
 have G2:=G1.but B2 (ar.of_eq e2)
 obtain⟨y,hy,a2⟩:=Jk (ys:=ys) d1 d0
 refine#[g,_,_,_,Z,Z,aC.of G2.g,a2,u _ _ ?_]
 clear u
 obtain⟨k,hk⟩:=G2.s
 have ek:cc H S=k:=((jQ B1 G1.s (ar.of_eq e2)).trans (jQ B G0.s (ar.of_eq e1))).symm.trans (zK hk)
 refine ah λF1 u=>#[_,Z,S,_,_,_,Z,Z,aC.of hk,Z,_,_,Z,Z,_,Z,S,_,_,0,Z,Z,hk,Z,u _ _ ?_]
 clear u
 have s0:=G2.s.ne B2
 have B3:am (af H2 S (.lst ([.int k].set 0 (.int (k - 1))))) p:=B2.eq (jj (Eg s0))
 have s3:bQ (af H2 S (.lst ([.int k].set 0 (.int (k - 1))))) S:=#[k - 1,jc]
 have K3:aB p S H (af H2 S (.lst ([.int k].set 0 (.int (k - 1))))):=((ar.of_eq e1).trans (ar.of_eq e2)).two.trans aB.at
 have G:=G0.but2 B3 s3 K3
 have e3:cc (af H2 S (.lst ([.int k].set 0 (.int (k - 1))))) S=k - 1:=zK jc
 generalize af H2 S (.lst ([.int k].set 0 (.int (k - 1))))=H3 at B3 s3 K3 G e3
 have l0:∀(l:Lf) (M:List V) (j:Hp) (r:Addr),si j l M->l.Ok ys->l.Cs (hs.map λc=>(c.1,c.2.length))->lu j p g h S ys hs->aB p S H j->cc j S=k - 1->j r=none->Q (.ref r) (af j r (.tup M)):=λl M j r hl ok cs C K4 e4 nr=>
  q r (.lf r l .nil) _ #[M,[],Z,jc,hl.mono (ae.tm (je nr)),Z] (by rw[jU C.s (je nr)];show((0+1:Nat):Int)+_<=_;omega) (by rw[jU C.s (je nr)];omega) (wJ ok cs) (C.B.upd_new nr) (C.s.new nr) (K4.trans (aB.of_same (je nr)))
 refine ah λF1 u=>mv λG' D=>#[_,Z,_,_,Z,Z,_,Z,D _ _ ?_]
 clear D
 refine bu (λc=>?_) (λc=>u _ _ ?_)
 ·refine#[_,Z,_,Z,_,Z,p,g,ys,Z,G.B,G.g,y1,y2,λr T j W oT B4 J=>#[dU,λt N=>?_]]
  exact l0 (.rd y r T) _ j t #[Z,W] #[hy,oT] Eh (G.but B4 J) (K3.trans J.two) ((jQ G.B G.s J).trans e3) N
 have wr:∀(r:Addr) (T0:Tm) (j:Hp),aW j T0 r->cR ys T0->am j p->ar p H3 j->dD (cy 4) [] E0 (al (aS 0) (al (aS 1) (al (tC (.int 2)) aI))) [some (.ref p),some (.ref g),some (.ref h),some (.ref S),some (.int (d:Int)),some (.int kd),some (.str y),none,none,none] j (λv o=>3<=sizeLine/\∀t,o t=none->Q (.ref t) (af o t (.tup [.str "write",.ref r,v]))):=λr T0 j h4 o1 B4 J=>by
  refine#[_,Z,_,Z,p,g,2,ys,Z,B4,(G.but B4 J).g,y1,y2,IL,IL,λX T o W dT gT R a=>#[IL,λt N=>?_]]
  exact l0 (.wr r X T0 T) _ o t #[Z,h4.but B4 a,W] #[o1,gT,IM] Eh (G.but R (J.trans a)) (K3.trans (J.trans a).two) ((jQ G.B G.s (J.trans a)).trans e3) N
 refine ah λF1 u=>mv λG' D=>?_
 have Y:G' true H3:=D _ _ (nG #[_,Z,_,Z,p,g,ys,Z,G.B,G.g,y1,y2,λr T0 j h4 o1 B4 J=>wr r T0 j h4 o1 B4 J])
 refine#[_,Z,Z,_,Z,bu (λc=>Y) (λc=>#[_,Z,Z,_,Z,vm Y λc2=>D _ _ (aF c2 (u _ _ ?_))])]
 clear Y D u
 obtain⟨hv,hh,hH⟩:=G.h
 have hl:=hH.len
 have h1:=G0.h1
 have h2:=G0.h2
 have c1:∀(f':Str) (ps:List Str) (h':(f',ps.length)∈hs.map λc=>(c.1,c.2.length)) (t:Addr) (j:Hp),lu j p g h S ys hs->aB p S H j->cc j S=k - 1->j t=some (.tup (ps.map V.str))->ps.length<=6->
   eO (sh K t) 1 [some (.ref p),some (.ref g)] (bg 0) lh (dD (cy 4) [] E0 (al (aS 1) (al (aS 2) (al (tC (.int 1)) aI)))) (λM o=>∀l,o l=none->∃p' y0,[V.ref l]=[.ref p']/\((aC K (af o l (.lst M)) p' y0/\∀l2,af o l (.lst M) l2=none->4<=sizeLine/\∀r,af (af o l (.lst M)) l2 (.tup y0) r=none->Q (.ref r) (af (af (af o l (.lst M)) l2 (.tup y0)) r (.tup [.str "call",.str y,.str f',.ref l2])))∨(aA K (af o l (.lst M)) p' y0/\4<=sizeLine/\∀r,af o l (.lst M) r=none->Q (.ref r) (af (af o l (.lst M)) r (.tup [.str "call",.str y,.str f',.ref p']))))) j:=λf' ps h' t j C K4 e4 ht b8=>by
  refine qr (K:=K) (xs:=ps.map V.str) (by rw[DK];omega) (λi M o=>∃ts:List (Addr×Tm),M=ts.map (λc=>V.ref c.1)/\ts.length=i/\(∀c∈ts,aW o c.2 c.1/\cR ys c.2)/\am o p/\ar p j o) #[[],Z,Z,(λ_ h=>absurd h Eb),C.B,ar.refl] (λi M o h5=>?_) ?_ ?_
  ·obtain⟨ts,rfl,e5,_,_,a⟩:=h5
   exact#[aA.of (a.tm C.B _ _ ht),by rw[DK,e5];exact DN _]
  ·intro i x M o hx a3
   refine aR λGq kq=>?_
   obtain⟨ts,rfl,e5,h5,R,a⟩:=a3
   refine kq ?_
   clear kq
   refine#[_,Z,_,Z,p,g,1,ys,Z,R,(C.but R a).g,y1,y2,IL,IL,λX T H6 W dT gT B6 k6=>#[ts++[(X,T)],by rw[Ef];rfl,by rw[DM,e5];rfl,λc hc=>?_,B6,a.trans k6]]
   rcases List.mem_append.mp hc with hc |hc
   ·exact#[(h5 c hc).1.but R k6,(h5 c hc).2]
   ·rw[List.mem_singleton.mp hc]
    exact#[W,gT,(by show T.depth < 6;omega)]
  ·rintro M o ⟨ts,rfl,e5,h5,R,a⟩ l nl
   refine#[l,_,Z,.inl #[aC.of jc,λl2 n0=>#[IL,λr nr=>?_]]]
   have O:=C.but R a
   have s6:ae o (af (af o l (.lst (ts.map λc=>V.ref c.1))) l2 (.tup (ts.map λc=>V.ref c.1))):=(je nl).trans (je n0)
   rw[DK]at e5
   exact l0 (.cl y f' l2 ts) _ _ r #[Z,jc,λc hc=>(h5 c hc).1.same s6] #[hy,IM,λc hc=>(h5 c hc).2] (by show(f',ts.length)∈_;rw[e5];exact h') (O.but2 ((O.B.upd_new nl).upd_new n0) ((O.s.new nl).new n0) (aB.of_same s6)) ((K4.trans a.two).trans (aB.of_same s6)) ((jU O.s s6).trans ((jQ C.B C.s a).trans e4)) nr
 refine ah λF1 u=>mv λG' D=>?_
 have Y:G' true H3:=by
  refine D _ _ (nG ?_)
  clear u D
  refine ah λF2 f2=>#[_,Z,_,Z,_,Z,h,_,Z,.inl (aC.of hh),p,_,Z,G.B,IM,IM,λd4 j d3 d5 B4 e4=>?_]
  have C:=G.but B4 (ar.of_eq e4)
  have J:ar p H3 j:=ar.of_eq e4
  have a4:=hH.mono (J.tm G.B)
  refine aR λGq kq=>?_
  obtain⟨v,c0,a5,a0,p4,t4,rfl,z1,z2⟩:=yn a4 d3 d5
  refine kq ?_
  clear kq
  refine#[h,_,_,_,Z,Z,aC.of (J _ _ G.hsp.2 hh),a5,p4,_,Z,aA.of z1,Z,_,_,Z,_,_,Z,Z,f2 _ _ ?_]
  clear f2
  refine#[_,Z,_,Z,_,Z,t4,Z,#[_,aA.of z2],?_]
  exact c1 c0.1 c0.2 (List.mem_map.mpr #[c0,a0,Z]) t4 j C (K3.trans J.two) ((jQ G.B G.s J).trans e3) z2 (G0.h3 c0 a0)
 refine#[_,Z,Z,_,Z,bu (λc=>Y) (λc=>#[_,Z,Z,_,Z,vm Y λc2=>D _ _ (aF c2 (u _ _ ?_))])]
 clear Y D u
 have l1:∀(c:(0:Int) < (d:Int)),∃d':Nat,d=d'+1:=λc=>#[d - 1,IM]
 refine ah λF1 u=>dq (RH p g h S d kd y H3) (λE6 eR f6=>?_) λσ0 H' z=>?_
 ·clear u
  refine mv λG' D=>#[_,Z,Z,_,Z,?_]
  refine bu (λc=>?_) (λc=>D _ _ (nF (f6 _ _ #[Z,Z])))
  refine#[_,Z,_,_,Z,Z,_,Z,D _ _ ?_]
  clear D
  refine bu (λc2=>?_) (λc2=>f6 _ _ #[Z,Z])
  clear f6
  obtain⟨d',rfl⟩:=l1 (EQ c2)
  have ed:(((d'+1:Nat):Int) - 1)=((d':Nat):Int):=by omega
  refine#[_,Z,_,Z,_,Z,_,Z,_,Z,_,_,Z,Z,p,g,h,S,d',ys,hs,(by show [V.ref p,V.ref g,V.ref h,V.ref S,V.int (((d'+1:Nat):Int) - 1)]=_;rw[ed]),G,IM,IM,λr b bs j a' b1 b9 b2 b4 B4 s4 J=>?_]
  have C:=G.but2 B4 s4 J
  refine#[_,Z,_,Z,p,g,2,ys,Z,C.B,C.g,y1,y2,IL,IL,λX T o W dT gT R a=>?_]
  have O:=C.but R a
  refine#[_,Z,_,Z,_,Z,_,Z,_,Z,_,Z,_,_,Z,Z,p,g,h,S,d',ys,hs,(by show [V.ref p,V.ref g,V.ref h,V.ref S,V.int (((d'+1:Nat):Int) - 1)]=_;rw[ed]),O,IM,(by rw[jQ C.B C.s a];exact b2),λr3 b3 b0 H6 h6 h7 a1 h8 h0 B6 s6 k6=>#[nO,λt N=>?_]]
  have G6:=O.but2 B6 s6 k6
  have tm:ai j H6:=λb' xs e=>k6.tm O.B O.s _ _ (a.tm C.B _ _ e)
  have I:ai H6 (af H6 t (.tup [.str "if",.ref X,.ref r,.ref r3])):=ae.tm (je N)
  rw[eR]
  refine q t (.ite t X T b b3 .nil) _ #[r,r3,bs,b0,[],Z,jc,(W.mono (k6.tm O.B O.s)).mono I,I _ _ (tm _ _ a'),I _ _ h6,(b1.mono tm).mono I,h7.mono I,Z] (by have x1:=jQ C.B C.s a;rw[jU G6.s (je N)];show((b.size+b3.size+0+1:Nat):Int)+_<=_;omega) (by rw[jU G6.s (je N)];exact h8) (sL #[gT,IM] b4 h0) (G6.B.upd_new N) (G6.s.new N) (((K3.trans J).trans (a.two.trans k6)).trans (aB.of_same (je N)))
 obtain⟨rfl,e⟩:=z
 rw[e]
 refine u _ _ ?_
 clear u
 refine ah λF1 u=>dq (RH p g h S d kd y H3) (λE6 eR f6=>?_) λσ0 H' z=>?_
 ·clear u
  refine mv λG' D=>#[_,Z,Z,_,Z,?_]
  refine bu (λc=>?_) (λc=>D _ _ (nF (f6 _ _ #[Z,Z])))
  refine#[_,Z,_,_,Z,Z,_,Z,D _ _ ?_]
  clear D
  refine bu (λc2=>?_) (λc2=>f6 _ _ #[Z,Z])
  clear f6
  obtain⟨d',rfl⟩:=l1 (EQ c2)
  have ed:(((d'+1:Nat):Int) - 1)=((d':Nat):Int):=by omega
  refine#[_,Z,_,Z,p,g,2,ys,Z,G.B,G.g,y1,y2,IL,IL,λX T o W dT gT R a=>?_]
  have O:=G.but R a
  refine#[_,Z,_,Z,_,Z,_,Z,_,Z,_,_,Z,Z,p,g,h,S,d',ys,hs,(by show [V.ref p,V.ref g,V.ref h,V.ref S,V.int (((d'+1:Nat):Int) - 1)]=_;rw[ed]),O,IM,(by rw[jQ G.B G.s a];omega),λr3 b3 b0 H6 h6 h7 a1 h8 h0 B6 s6 k6=>#[dU,λt N=>?_]]
  have G6:=O.but2 B6 s6 k6
  have I:ai H6 (af H6 t (.tup [.str "while",.ref X,.ref r3])):=ae.tm (je N)
  rw[eR]
  refine q t (.loop t X T b3 .nil) _ #[r3,b0,[],Z,jc,(W.mono (k6.tm O.B O.s)).mono I,I _ _ h6,h7.mono I,Z] (by have x1:=jQ G.B G.s a;rw[jU G6.s (je N)];show((b3.size+0+1:Nat):Int)+_<=_;omega) (by rw[jU G6.s (je N)];exact h8) (oh #[gT,IM] h0) (G6.B.upd_new N) (G6.s.new N) ((K3.trans (a.two.trans k6)).trans (aB.of_same (je N)))
 obtain⟨rfl,e⟩:=z
 rw[e]
 refine u _ _ ?_
 clear u
 refine ah λF1 u=>mv λG' D=>#[_,Z,Z,_,Z,D _ _ ?_]
 clear D
 refine bu (λc=>?_) (λc=>u _ _ ?_)
 ·refine#[_,Z,_,Z,p,g,2,ys,Z,G.B,G.g,y1,y2,IL,IL,λX T o W dT gT R a=>#[bn,λt N=>?_]]
  exact l0 (.gv X T) _ o t #[Z,W] #[gT,IM] Eh (G.but R a) (K3.trans a.two) ((jQ G.B G.s a).trans e3) N
 ·refine#[_,Z,_,Z,_,Z,p,g,3,ys,Z,G.B,G.g,y1,y2,IL,IL,λX T o W dT gT R a=>#[dU,λt N=>?_]]
  exact l0 (.st y X T) _ o t #[Z,W] #[hy,gT,IM] Eh (G.but R a) (K3.trans a.two) ((jQ G.B G.s a).trans e3) N
theorem lT:ak ["_law_box_here","_law_names_here","_law_heads","_law_spare","_law_deep","_law_body_here","_law_k"] ["_law_box_here","_law_names_here","_law_heads","_law_spare","_law_deep"] (aa mE):=bq
theorem YI(F:aJ K "_law_body" "_law_body" mE f fd)(cT:Cl P w K mg base 1 fT f0 ["_law_box_here","_law_wide"] aN "_law_take"){L:Nat}(cS:Cl P w K mg base (L+8) fS f1 ["_law_box_here","_law_names_here","_law_heads","_law_spare","_law_deep"] (j' n) "_law_statement")(mr:mg "range"=none)(m2:mg "tuple"=none):aj P w K mg base ay (L+9) f fd ["_law_box_here","_law_names_here","_law_heads","_law_spare","_law_deep"] (gU n):=by
 refine F.ok lT ?_ λc0 A o1 s H v Q E hr h=>?_
 ·rintro _ _ _ _ ⟨p,g,h,S,d,ys,hs,rfl,_⟩
  rfl
 refine aR λGq y=>?_
 obtain⟨p,g,h,S,d,ys,hs,rfl,G,hd,h0,q⟩:=h
 refine y ?_
 clear y
 refine#[_,(jd (jx 5 lT.nd (jC jb)) (jd (j6 Ej Z (j3 Z mr (ja (cT.e hr.m (ja (pv 0) (ja jf jb))) jb)) (js (i:=6) lT.nd Z (Or.inl Z)) (jg (jv (jA qL (jr jo (pv 3) jf (λ_ _=>Z)) jf (aD _)) (jg (jL (kK D2 Ee Ed jN (pv 5) (ja (cS.e hr (ja (pv 0) (ja (pv 1) (ja (pv 2) (ja (pv 3) (ja (pv 4) jb)))))) jb)))) jm))) (jg (jl (jz jB Z m2 EZ (ja (pv 5) jb)))))),?_]
 have b0:=aE
 refine#[DX _,λl N=>?_]
 have s0:ae H (af H l (.lst [])):=je N
 have O:lu (af H l (.lst [])) p g h S ys hs:=G.but2 (G.B.upd_new N) (G.s.new N) (aB.of_same s0)
 have l1:af H l (.lst []) l=some (.lst []):=jc
 have lp:l≠p:=G.B.ne N
 have D:l≠S:=λe=>by obtain⟨k,z⟩:=G.s;rw[<- e,N]at z;cases z
 have k1:aB p S H (af H l (.lst [])):=aB.of_same s0
 have R:cc (af H l (.lst [])) S=cc H S:=jU G.s s0
 generalize af H l (.lst [])=H1 at O l1 k1 R
 refine#[_,Z,p,6,Z,O.B,IL,IL,λm H2 m0 m1 B2 e2=>#[_,Z,IM,IM,?_]]
 have G2:=O.but B2 (ar.of_eq e2)
 refine K7 (lo:=0) (λi σ I=>∃(o6:Option V) (v:List V) (b:Bd),σ=[some (.ref p),some (.ref g),some (.ref h),some (.ref S),some (.int (d:Int)),some (.ref l),o6]/\I l=some (.lst v)/\dj I b v/\((b.size:Int)+cc I S<=cc H S/\0<=cc I S)/\b.fit hs ys d/\v.length<=i/\am I p/\bQ I S/\aB p S H I)
  #[none,[],.nil,Z,by rw[e2 l lp];exact l1,Z,(by rw[jQ O.B O.s (ar.of_eq e2),R];exact#[by show((0:Nat):Int)+_<=_;omega,h0]),YG,DX _,B2,G2.s,k1.trans (ar.of_eq e2).two] ?_ ?_
 ·intro i σ H3 hi J
  refine aR λGq y=>?_
  obtain⟨o6,v,b,rfl,a,u,j,x,h1,T,C,U⟩:=J
  refine y ?_
  clear y
  have G3:=G.but2 T C U
  obtain⟨kk,W⟩:=id C
  refine#[_,Z,S,_,_,_,Z,Z,aC.of W,Z,_,_,Z,Z,_,Z,?_]
  refine bu (λc=>?_) (λc=>?_)
  ·refine#[_,Z,.inl #[Z,_,aC.of a],_,Z,_,Z,_,Z,_,Z,_,Z,p,g,h,S,d,ys,hs,Z,G3,hd,(by rw[zK W];exact EQ c),λr b4 H4 h2 h5 h3 h4 B4 s4 k4=>?_]
   have X:H4 l=some (.lst v):=k4 _ _ lp D a
   refine#[l,_,_,Z,Z,X,IM,?_]
   have tm:ai H4 (af H4 l (.lst (v++[.ref r]))):=λb' xs e=>by rw[jj (jG e X (by intro z;cases z))];exact e
   have Y:ai H3 H4:=k4.tm T C
   refine#[_,_,b.app b4,Z,jc,(h2.mono tm).app ((u.mono Y).mono tm),?_,YH x h4,by rw[DM];show v.length+1<=i+1;omega,B4.eq (jj (Eg lp)),?_,λb' o n1 n2 e=>?_]
   ·rw[jT,Qy s4 λo e=>by rw[jj (Eg D)];exact e]
    obtain⟨z1,z2⟩:=j
    exact#[IM,h3]
   ·obtain⟨z,hz⟩:=s4
    exact#[z,by rw[jj (Eg D)];exact hz]
   ·rw[jj (ji e N)]
    exact k4 _ _ n1 n2 (U _ _ n1 n2 e)
  ·exact#[_,v,b,Z,a,u,j,x,IM,T,C,U]
 ·intro σ H3 J
  refine aR λGq y=>?_
  obtain⟨o6,v,b,rfl,a,u,j,x,h1,T,C,U⟩:=J
  refine y ?_
  clear y
  refine#[_,Z,l,v,Z,.inl #[aC.of a,λt M=>?_]]
  have hm:(m).toNat<=5:=by omega
  refine q t b v _ jc (u.mono (ae.tm (je M))) (by rw[jU C (je M)];exact j.1) (by rw[jU C (je M)];exact j.2) x (T.upd_new M) (C.new M) (U.trans (aB.of_same (je M)))
theorem Z1:aj P w K mg base ay 8 f c ["_law_box_here","_law_names_here","_law_heads","_law_spare","_law_deep"] (j' 0):=by
 have n:∀v H Q E,¬j' 0 v H Q E:=λv H Q E h=>by
  refine aR λG k=>?_
  obtain⟨p,g,h,S,d,y,e,_,_,b,_⟩:=h
  refine k ?_
  clear k
  exact absurd b (GH _)
 exact#[λv H Q E h=>absurd h (n v H Q E),λA o s H a u v Q E _ _ _ _ h=>absurd h (n v H Q E)]
theorem Be(F:aJ K "_law_statement" "_law_statement" pC f e)(FB:aJ K "_law_body" "_law_body" mE g a)(c:Cl P w K mg base 1 r k ["_law_box_here","_law_wide"] aN "_law_take")(C:Cl P w K mg base 6 s l ["_law_box_here","_law_names_here","_law_deep"] (cy 4) "_law_term")(h:Cl P w K mg base 7 t o ["_law_box_here","_law_names_here"] iQ "_law_spot")(b:aw K e ["_law_box_here","_law_names_here","_law_heads","_law_spare","_law_deep"] [])(M:mg "_law_statement"=some (.ref f))(B:aw K a ["_law_box_here","_law_names_here","_law_heads","_law_spare","_law_deep"] [])(i:mg "_law_body"=some (.ref g))(j:mg "len"=none)(m:mg "tuple"=none)(d:mg "range"=none):
  ∀n:Nat,aj P w K mg base ay (n+n+8) f e ["_law_box_here","_law_names_here","_law_heads","_law_spare","_law_deep"] (j' n)/\aj P w K mg base ay (n+n+9) g a ["_law_box_here","_law_names_here","_law_heads","_law_spare","_law_deep"] (gU n)
 |0=>#[Z1,YI (L:=0) FB c #[Z1,b,F.kp,M] d m]
 |n+1=>by
  have I:=Be F FB c C h b M B i j m d n
  have E:n+n+10=n+1+(n+1)+8:=by omega
  have p:n+n+2+9=n+1+(n+1)+9:=by omega
  have H:=xO (L:=n+n) F c C h #[I.2,B,FB.kp,i] j m
  have q:=YI (L:=n+n+2) FB c #[H,b,F.kp,M] d m
  rw[<- E,<- p]
  exact#[H,q]
theorem Am{x:List V}(h:k<=x.length):aK x none (some (k:Int))=x.take k:=by
 unfold aK
 rw[HT.sIx_nat,HT.sIx_none]
 have e:min k x.length=k:=by omega
 rw[e]
 simp
noncomputable abbrev yo:Stmt:=bE 61
theorem sI(h:0<=d)(H:d < 4):∃D:Nat,du [V.int 3,.int 3,.int 3,.int 5] d=some (.int (D:Int))/\D < 6/\Di D<=111111/\D<=5:=by
 rcases(by omega:d=0∨d=1∨d=2∨d=3) with rfl |rfl |rfl |rfl
 ·exact#[3,Z,IL,IL,IL]
 ·exact#[3,Z,IL,IL,IL]
 ·exact#[3,Z,IL,IL,IL]
 ·exact#[5,Z,IL,IL,IL]
theorem n8{ys:List Str}{k:Int}(h:ys.length=20)(H:14<=k)(a:k<=20):1<=(aX ys (some 8) (some k)).length/\(aX ys (some 8) (some k)).length<=20:=by
 refine#[?_,by have:=qk ys (some 8) (some k);omega]
 have e:(8:Int)=((8:Nat):Int):=rfl
 have E:k=((k.toNat:Nat):Int):=by omega
 unfold aX
 rw[e,E,HT.sIx_nat,HT.sIx_nat,Ec,Fp]
 omega
theorem sG{ss:List Str}(h:0<=k):(aX ss none (some k)).length<=k.toNat:=by
 have e:k=((k.toNat:Nat):Int):=by omega
 unfold aX
 rw[e,HT.sIx_nat,HT.sIx_none,Ec]
 omega
theorem ff{t u:TS}(h:∀E:a9,(∀a b,u D a b->E.nx a b)->t E c H):fQ t u D c H:=h { D with nx:=u D } λ_ _ h=>h
def y'(h:List (Str×List Str)):Prop:=∀c∈h,c.1.length<=20/\c.2.length<=6
def Dk(H:Hp)(D:List Df):Prop:=∀d∈D,∃p:List Str,H d.pa=some (.tup (p.map V.str))/\p.length<=100
theorem qY{a:Type}{P:a->Prop}{X:List a}{x:a}(h:∀c∈X,P c)(H:P x):∀c∈X++[x],P c:=λc b=>by
 rcases List.mem_append.mp b with h1 |h1
 ·exact h c h1
 ·rw[List.mem_singleton.mp h1];exact H
def lv(H:Hp)(D:List Df)(N:List Nat):Prop:=D.length=N.length/\∀(i:Nat) (d:Df) (n:Nat),D[i]?=some d->N[i]?=some n->∃p:List Str,H d.pa=some (.tup (p.map V.str))/\p.length=n/\n<=100
theorem lv.mono(h:lv H D N)(k:ai H a):lv a D N:=#[h.1,λi d n b c=>let #[p,e,l]:=h.2 i d n b c;#[p,k _ _ e,l]]
theorem lv.snoc{d:Df}{p:List Str}(h:lv H D N)(e:H d.pa=some (.tup (p.map V.str)))(l:p.length<=100):lv H (D++[d]) (N++[p.length]):=by
 refine#[by rw[DM,DM,h.1];rfl,λi c n a b=>?_]
 by_cases f:i < D.length
 ·rw[Fu f]at a
  rw[Fu (by rw[<- h.1];exact f)]at b
  exact h.2 i c n a b
 ·have g:i < (D++[d]).length:=(List.getElem?_eq_some_iff.mp a).1
  rw[DM]at g
  have E:i=D.length:=by have:i < D.length+1:=g;omega
  subst E
  rw[Fq (DN _),Hf]at a
  rw[h.1,Fq (DN _),Hf]at b
  cases a
  cases b
  exact#[p,e,Z,l]
theorem lv.v(h:lv H D n):Dk H D:=λd b=>by
 obtain⟨i,a,e⟩:=List.mem_iff_getElem.mp b
 have c:D[i]?=some d:=by rw[<- e];exact DJ a
 obtain⟨p,e,l,k⟩:=h.2 i d _ c (DJ (by rw[<- h.1];exact a))
 exact#[p,e,IM]
def sd(D:List Df)(n:List Nat):Prop:=(∀d∈D,lF d/\d.b.Cs ((D.map Df.f).zip n))/\(D.map Df.f).Nodup/\∀y∈D.map Df.f,y.length<=20
def rf:Sp:=λv H Q _=>∃(p:Addr) (T R:Int),v=[.ref p,.int T,.int R]/\am H p/\1<=T/\T<=8/\0<=R/\R<=40/\
 ∀(r:Addr) (d:List Df) (x:List V) (h:Hp),h r=some (.tup x)->cf h d x->(d.length:Int)=T->∀n:List Nat,sd d n->lv h d n->am h p->ar p H h->Q (.ref r) h
theorem ci:ak ["_law_box_here","_law_total","_law_room","_law_words","_law_most","_law_heads","_law_k","_law_turn","_law_row","_law_some","_law_deep","_law_defs","_law_f","_law_params","_law_spare","_law_body_here"] ["_law_box_here","_law_total","_law_room"] (aa yo):=bq
inductive AJ(p wl:Addr)(T rm:Int)(H:Hp)(σ':L2.St)(H':Hp):Prop
 |mk (ys':List Str) (e0:σ'=[some (.ref p),some (.int T),some (.int rm),some (.ref wl),none,none,none,none,none,none,none,none,none,none,none,none]) (e1:H' wl=some (.lst (ys'.map V.str))) (e2:ys'.length=20) (e3:(∀y∈ys',y.length<=20)/\(ys'.take 8).Nodup) (e4:am H' p) (e5:ar p H H'):AJ p wl T rm H σ' H'
inductive AI(p wl hl:Addr)(T rm m:Int)(ys:List Str)(H:Hp)(i:Nat)(σ:L2.St)(H':Hp):Prop
 |mk (o6 o7 o8:Option V) (hs:List (Str×List Str)) (hv:List V) (e0:σ=[some (.ref p),some (.int T),some (.int rm),some (.ref wl),some (.int m),some (.ref hl),o6,o7,o8,none,none,none,none,none,none,none]) (e1:H' hl=some (.lst hv)) (e2:dw H' hs hv) (e3:hs.length=i) (e4:y' hs/\hs.map (·.1)=ys.take i) (e5:H' wl=some (.lst (ys.map V.str))) (e6:am H' p) (e7:ar p H H'):AI p wl hl T rm m ys H i σ H'
inductive AK(p wl hl sm dl:Addr)(T rm m:Int)(dp:Nat)(zs:List Str)(hs:List (Str×List Str))(hv:List V)(H:Hp)(i:Nat)(σ:L2.St)(H':Hp):Prop
 |mk (o6 o7 o8 o12 o13 o14 o15:Option V) (ds:List Df) (dv:List V) (e0:σ=[some (.ref p),some (.int T),some (.int rm),some (.ref wl),some (.int m),some (.ref hl),o6,o7,o8,some (.ref sm),some (.int (dp:Int)),some (.ref dl),o12,o13,o14,o15]) (e1:H' dl=some (.lst dv)) (e2:cf H' ds dv) (e3:ds.length=i) (e4:(∀d∈ds,lF d/\d.b.Cs (hs.map λc=>(c.1,c.2.length)))/\ds.map Df.f=(hs.map (·.1)).take i) (e5:H' hl=some (.lst hv)) (e6:dw H' hs hv) (e7:H' sm=some (.lst (zs.map V.str))) (e8:am H' p) (e9:ar p H H') (e10:lv H' ds ((hs.map λc=>c.2.length).take i)):AK p wl hl sm dl T rm m dp zs hs hv H i σ H'
inductive AL(hs:List (Str×List Str))(zs:List Str)(p wl hl sm dl t0 sp:Addr)(T rm m:Int)(dp:Nat)(o7 o8:Option V)(c:Str×List Str)(H9:Hp)(j:Nat)(σ:L2.St)(H':Hp):Prop
 |mk (o6':Option V) (bb:Addr) (Bb:Bd) (bs:List V) (e0:σ=[some (.ref p),some (.int T),some (.int rm),some (.ref wl),some (.int m),some (.ref hl),o6',o7,o8,some (.ref sm),some (.int (dp:Int)),some (.ref dl),some (.str c.1),some (.ref t0),some (.ref sp),some (.ref bb)]) (e1:H' bb=some (.tup bs)) (e2:dj H' Bb bs) (e3:(Bb.size:Int)+cc H' sp<=rm/\0<=cc H' sp) (e4:Bb.fit hs zs dp) (e5:am H' p) (e6:bQ H' sp) (e7:aB p sp H9 H'):AL hs zs p wl hl sm dl t0 sp T rm m dp o7 o8 c H9 j σ H'
theorem xt(F:aJ K "_law_any" "_law_any" yo f fd)(cT:Cl P w K mg base 1 fT i' ["_law_box_here","_law_wide"] aN "_law_take")(cA:Cl P w K mg base 2 fA j0 ["_law_box_here","_law_total"] fi "_law_names")(cB:Cl P w K mg base 21 fB j1 ["_law_box_here","_law_names_here","_law_heads","_law_spare","_law_deep"] (gU 6) "_law_body")(ml:mg "len"=none)(mr:mg "range"=none)(m0:mg "tuple"=none)(mi:mg "int"=none):aj P w K mg base ay 22 f fd ["_law_box_here","_law_total","_law_room"] rf:=by
 refine F.ok ci ?_ λj2 A o5 s H vs Q E hr h=>?_
 ·rintro _ _ _ _ ⟨p,T,Y,rfl,_⟩
  rfl
 refine aR λGq u=>?_
 obtain⟨p,T,Y,rfl,B,j5,l4,e',l5,q⟩:=h
 refine u ?_
 clear u
 refine#[_,(jd (jx 3 ci.nd (cA.e hr.m (ja (pv 0) (ja jf jb)))) (jd (jW (jv (kL (cT.e hr.m (ja (pv 0) (ja jf jb)))) (jg (kN (jH kf (pv 3) ke (jE jf)) (@oV _ _ _ _ _ _ _ _ _ (pv 3) jf jf (by intro _;rfl)))) jm)) (jd (jx 4 ci.nd (jr jo (jC (ja jf (ja jf jb))) (jz Jp Z mi boot_int (ja (qP qK (cT.e hr.m (ja (pv 0) (ja jf jb))) jf (aD _)) jb)) (λ_ _=>Z))) (jd (jx 5 ci.nd (jC jb)) (jd (j6 Ej Z (j3 Z mr (ja (pv 1) jb)) (js (i:=6) ci.nd Z (Or.inl Z)) (jd (jx 7 ci.nd (ju jV jf (cT.e hr.m (ja (pv 0) (ja jf jb))))) (jd (jx 8 ci.nd (ju qg (jH kf (pv 3) (jE (pv 7)) (jE jf)) (jH kf (pv 3) (jE jf) (jE (pv 7))))) (jg (jL (kK D2 Ee Ed jN (pv 5) (ja (jh (ja (jr jo (pv 3) (pv 6) (λ_ _=>Z)) (ja (jz jB Z m0 EZ (ja (jH kf (pv 8) ke (jE (cT.e hr.m (ja (pv 0) (ja (pv 4) jb))))) jb)) jb))) jb))))))) (jd (jx 9 ci.nd (jH kf (pv 3) (jE jf) (jE (ju jV jf (cT.e hr.m (ja (pv 0) (ja jf jb))))))) (jd (jx 10 ci.nd (jr jo (jC (ja jf (ja jf (ja jf (ja jf jb))))) (cT.e hr.m (ja (pv 0) (ja jf jb))) (λ_ _=>Z))) (jd (jx 11 ci.nd (jC jb)) (jd (j6 Ej Z (zT (pv 5)) (zi (n:=2) Z (jy (js (i:=12) ci.nd Z (Or.inl Z)) (jy (js (i:=13) ci.nd Z (Or.inl Z)) kc))) (jd (jx 14 ci.nd (jC (ja (pv 2) jb))) (jd (jx 15 ci.nd (jh jb)) (jd (j6 Ej Z (j3 Z mr (ja jf jb)) (js (i:=6) ci.nd Z (Or.inl Z)) (jg (jx 15 ci.nd (ju kh (pv 15) (cB.e hr (ja (pv 0) (ja (pv 9) (ja (pv 5) (ja (pv 14) (ja (pv 10) jb)))))))))) (jg (jL (kK D2 Ee Ed jN (pv 11) (ja (jh (ja (pv 12) (ja (pv 13) (ja (pv 15) jb)))) jb)))))))) (jg (jl (jz jB Z m0 EZ (ja (pv 11) jb))))))))))))),?_]
 have l6:=aE
 refine ff λE1 m1=>?_
 refine#[_,Z,p,20,Z,B,IL,IL,λW ys H1 c3 f4 c4 C B1 k1=>?_]
 refine m1 _ _ ?_
 refine ff λE2 m2=>?_
 have wp:W≠p:=B.ne c3
 refine dq (AJ p W T Y H) (λE0 _ fm=>?_) λσ0 H2 l=>?_
 ·clear m2
  refine mv λG' g'=>#[_,Z,p,2,Z,B1,IL,IL,λd1 H2 l9 l' B2 e2=>?_]
  have h0:H2 W=some (.lst (ys.map V.str)):=by rw[e2 W wp];exact f4
  have k2:=k1.trans (ar.of_eq e2)
  refine#[Z,_,Z,g' _ _ ?_]
  clear g'
  refine bu (λc=>?_) (λc=>fm _ _ #[ys,Z,h0,IM,#[C.1,C.2.sublist (FD _ _)],B2,k2])
  refine#[_,Z,_,Z,W,_,Z,aC.of h0,λsl n0=>?_]
  have f5:W≠sl:=λe=>by rw[<- e,h0]at n0;cases n0
  have m':=B2.ne n0
  refine#[_,Z,W,sl,_,_,_,_,Z,Z,Z,Z,ap h0 n0,jc,f5,IL,IL,by rw[DK];omega,?_,?_]
  ·have:=zc (ys.map V.str) none (some 2)
   rw[DK]at this ⊢
   omega
  have e2:aK (ys.map V.str) none (some 2)=(ys.take 2).map V.str:=by
   rw[show(2:Int)=((2:Nat):Int) from Z,Am (by rw[DK];omega),GU]
  refine fm _ _ #[ys.take 8++ys.take 2++ys.drop 10,Z,?_,?_,?_,(B2.upd_new n0).eq (jj (Eg wp)),?_]
  ·rw[jc,e2,Ef,Ef,GU,List.map_drop,GU]
   rfl
  ·rw[DM,DM,Ec,Ec,Fp]
   omega
  ·refine#[λy hy=>?_,?_]
   ·rcases List.mem_append.mp hy with h |h
    ·rcases List.mem_append.mp h with h |h
     ·exact C.1 y (EC h)
     ·exact C.1 y (EC h)
    ·exact C.1 y (List.mem_of_mem_drop h)
   ·rw[List.append_assoc,List.take_append_of_le_length (by rw[Ec];omega),List.take_take]
    exact C.2.sublist (FD _ _)
  ·exact(k2.upd_new n0).upd_own c3
 obtain⟨ys,rfl,h0,c4,C,B2,k2⟩:=l
 refine m2 _ _ ?_
 clear m1 m2
 refine ff λE3 m3=>?_
 refine#[bn,λl1 n'=>?_]
 refine#[_,Z,p,3,Z,B2.upd_new n',IL,IL,λd2 H3 o' p1 B3 e3=>?_]
 have k3:ar p H2 H3:=((ar.refl).upd_new n').trans (ar.of_eq e3)
 have l0:=B2.ne n'
 have f7:H3 l1=some (.lst [.int 4,.int 7]):=by rw[e3 l1 l0];exact jc
 refine#[Z,.inr #[_,Z,?_]]
 have a5:∀c:Bool,∃m:Int,du [V.int 4,V.int 7] (if c then 1 else 0)=some (.int m)/\4<=m/\m<=7:=λc=>by
  cases c
  ·exact#[4,Z,IL,IL]
  ·exact#[7,Z,IL,IL]
 obtain⟨m,hm,m4,m7⟩:=a5 _
 refine#[l1,_,_,_,Z,Z,aC.of f7,hm,?_]
 refine m3 _ _ ?_
 refine ff λE4 m4=>?_
 have c5:H3 W=some (.lst (ys.map V.str)):=k3 _ _ wp h0
 have k0:=k2.trans k3
 refine#[DX _,λhl n1=>?_]
 refine m4 _ _ ?_
 refine ff λE5 m5=>?_
 have h4:=B3.ne n1
 have n5:H hl=none:=by
  cases z:H hl with
  |none=>rfl
  |some o=>have:=k0 _ _ h4 z;rw[n1]at this;cases this
 have wh:W≠hl:=λe=>by rw[<- e,c5]at n1;cases n1
 refine dJ λJ j=>#[_,Z,T,Z,IM,IM,j _ _ ?_]
 clear j
 refine zC (lo:=0) (AI p W hl T Y m ys H)
  #[none,none,none,[],[],Z,jc,Z,Z,#[(λc hc=>nomatch hc),Z],ap c5 n1,B3.upd_new n1,k0.upd_own n5] ?_ ?_
 ·intro D' _ i σ H4 hi f0 Gq u l
  obtain⟨o6,o7,o8,hs,hv,rfl,a',h6,c6,h7,b1,B4,k4⟩:=l
  refine u ?_
  clear u m5 m3 m4
  show fQ (dZ _ _) _ D' _ _
  refine ff λF1 f1=>?_
  refine#[_,Z,p,6,Z,B4,IL,IL,λD H5 f9 f' B5 e5=>?_]
  have k5:ar p H4 H5:=ar.of_eq e5
  have h8:=k5 _ _ wp b1
  have b2:=k5 _ _ h4 a'
  have b3:=h6.mono (k5.tm B4)
  refine#[_,_,Z,Z,?_]
  refine f1 _ _ ?_
  show fQ (dZ _ _) _ D' _ _
  refine ff λF2 f2=>?_
  refine#[_,Z,_,Z,_,Z,_,Z,W,_,Z,aC.of h8,λs1 b4=>?_]
  refine#[_,Z,_,Z,_,Z,_,Z,W,_,Z,aC.of (ap h8 b4),λs2 b5=>?_]
  have L1:=qk ys (some (8+D)) (some 14)
  have L0:=qk ys (some 8) (some (8+D))
  have L3:=zc (ys.map V.str) (some (8+D)) (some 14)
  have L4:=zc (ys.map V.str) (some 8) (some (8+D))
  rw[DK]at L3 L4
  refine#[s1,s2,_,_,Z,Z,ap jc b5,jc,IM,λrl c7=>?_]
  refine f2 _ _ ?_
  have er:aK (ys.map V.str) (some (8+D)) (some 14)++aK (ys.map V.str) (some 8) (some (8+D))=(aX ys (some (8+D)) (some 14)++aX ys (some 8) (some (8+D))).map V.str:=by
   rw[zu,zu,Ef]
  have s6:ae H5 (af (af (af H5 s1 (.lst (aK (ys.map V.str) (some (8+D)) (some 14)))) s2 (.lst (aK (ys.map V.str) (some 8) (some (8+D))))) rl (.lst (aK (ys.map V.str) (some (8+D)) (some 14)++aK (ys.map V.str) (some 8) (some (8+D))))):=((je b4).trans (je b5)).trans (je c7)
  have r6:af (af (af H5 s1 (.lst (aK (ys.map V.str) (some (8+D)) (some 14)))) s2 (.lst (aK (ys.map V.str) (some 8) (some (8+D))))) rl (.lst (aK (ys.map V.str) (some (8+D)) (some 14)++aK (ys.map V.str) (some 8) (some (8+D)))) rl=some (.lst ((aX ys (some (8+D)) (some 14)++aX ys (some 8) (some (8+D))).map V.str)):=by rw[jc,er]
  have B6:am (af (af (af H5 s1 (.lst (aK (ys.map V.str) (some (8+D)) (some 14)))) s2 (.lst (aK (ys.map V.str) (some 8) (some (8+D))))) rl (.lst (aK (ys.map V.str) (some (8+D)) (some 14)++aK (ys.map V.str) (some 8) (some (8+D))))) p:=((B5.upd_new b4).upd_new b5).upd_new c7
  generalize af (af (af H5 s1 (.lst (aK (ys.map V.str) (some (8+D)) (some 14)))) s2 (.lst (aK (ys.map V.str) (some 8) (some (8+D))))) rl (.lst (aK (ys.map V.str) (some (8+D)) (some 14)++aK (ys.map V.str) (some 8) (some (8+D))))=H6 at s6 r6 B6
  have LR:(aX ys (some (8+D)) (some 14)++aX ys (some 8) (some (8+D))).length<=40:=by rw[DM];omega
  generalize aX ys (some (8+D)) (some 14)++aX ys (some 8) (some (8+D))=r0 at r6 LR
  have c9:=s6 _ _ h8
  have h':=s6 _ _ b2
  have ei:(0:Int)+(i:Int)=(i:Int):=Int.zero_add _
  rw[ei]
  obtain⟨y,b6⟩:∃y,ys[i]?=some y:=#[_,DJ (by omega:i < ys.length)]
  have hy:=D5 b6
  have a5:du (ys.map V.str) (i:Int)=some (.str y):=jM (by rw[D4,b6];rfl)
  have rp:rl≠p:=zo B6 r6
  refine#[_,Z,.inl #[Z,_,aC.of h'],_,Z,_,Z,W,_,_,_,Z,Z,aC.of c9,a5,_,Z,_,Z,_,Z,p,m,Z,B6,IM,IM,λd7 H7 d0 d4 B7 e7=>?_]
  have k7:ar p H6 H7:=ar.of_eq e7
  refine#[_,Z,rl,_,Z,aC.of (k7 _ _ rp r6),λs3 c'=>?_]
  refine#[s3,_,Z,.inl #[aC.of jc,λt nt=>#[bn,λr nr=>?_]]]
  rw[zu]at nt nr ⊢
  have L8:=sG (ss:=r0) d0
  generalize aX r0 none (some d7)=ps at*
  have s8:ae H7 (af (af (af H7 s3 (.lst (ps.map V.str))) t (.tup (ps.map V.str))) r (.tup [.str y,.ref t])):=((je c').trans (je nt)).trans (je nr)
  have t8:af (af (af H7 s3 (.lst (ps.map V.str))) t (.tup (ps.map V.str))) r (.tup [.str y,.ref t]) t=some (.tup (ps.map V.str)):=ap jc nr
  have r8:af (af (af H7 s3 (.lst (ps.map V.str))) t (.tup (ps.map V.str))) r (.tup [.str y,.ref t]) r=some (.tup [.str y,.ref t]):=jc
  have B8:am (af (af (af H7 s3 (.lst (ps.map V.str))) t (.tup (ps.map V.str))) r (.tup [.str y,.ref t])) p:=((B7.upd_new c').upd_new nt).upd_new nr
  generalize af (af (af H7 s3 (.lst (ps.map V.str))) t (.tup (ps.map V.str))) r (.tup [.str y,.ref t])=R at s8 t8 r8 B8
  have d6:=s8 _ _ (k7 _ _ h4 h')
  have g0:=s8 _ _ (k7 _ _ wp c9)
  have h5:=h6.len
  refine#[hl,_,_,Z,Z,d6,IM,?_]
  have tm:ai R (af R hl (.lst (hv++[.ref r]))):=λb xs e=>by rw[jj (jG e d6 (by intro z;cases z))];exact e
  have g1:=((b3.mono (ae.tm s6)).mono (k7.tm B6)).mono (ae.tm s8)
  refine f0 _ _ #[_,_,_,hs++[(y,ps)],_,Z,jc,(g1.mono tm).snoc #[r,t,Z,tm _ _ r8,tm _ _ t8],by rw[DM,c6];rfl,#[qY h7.1 #[C.1 y hy,by show ps.length<=6;omega],by rw[Ef,h7.2,FT,b6];rfl],by rw[jj wh];exact g0,B8.eq (jj (Eg h4)),?_]
  refine ar.upd_own (λb o n e=>?_) n5
  exact s8 _ _ (k7 _ _ n (s6 _ _ (k5 _ _ n (k4 _ _ n e))))
 intro σ H4 l
 refine aR λGq u=>?_
 obtain⟨o6,o7,o8,hs,hv,rfl,a',h6,c6,⟨h7,d8⟩,b1,B4,k4⟩:=l
 refine u ?_
 clear u
 refine m5 _ _ ?_
 refine ff λE6 m6=>?_
 refine#[_,Z,_,Z,_,Z,p,7,Z,B4,IL,IL,λD H5 f9 f' B5 e5=>?_]
 have k5:ar p H4 H5:=ar.of_eq e5
 have h8:=k5 _ _ wp b1
 have b2:=k5 _ _ h4 a'
 have b3:=h6.mono (k5.tm B4)
 refine#[_,_,Z,Z,_,Z,W,_,Z,aC.of h8,λsm n3=>?_]
 refine m6 _ _ ?_
 refine ff λE7 m7=>?_
 obtain⟨z1,z2⟩:=n8 (ys:=ys) (k:=14+D) c4 IM IM
 have m6:af H5 sm (.lst (aK (ys.map V.str) (some 8) (some (14+D)))) sm=some (.lst ((aX ys (some 8) (some (14+D))).map V.str)):=by rw[jc,zu]
 have k6:ar p H (af H5 sm (.lst (aK (ys.map V.str) (some 8) (some (14+D))))):=(k4.trans k5).upd_new n3
 have h':=ap (o:=.lst (aK (ys.map V.str) (some 8) (some (14+D)))) b2 n3
 have d9:=b3.mono (ae.tm (je (o:=.lst (aK (ys.map V.str) (some 8) (some (14+D)))) n3))
 have B6:=B5.upd_new (o:=.lst (aK (ys.map V.str) (some 8) (some (14+D)))) n3
 generalize af H5 sm (.lst (aK (ys.map V.str) (some 8) (some (14+D))))=H6 at m6 k6 h' d9 B6
 generalize aX ys (some 8) (some (14+D))=zs at m6 z1 z2
 have s':=zo B6 m6
 refine#[nO,λl2 b7=>?_]
 refine#[_,Z,p,4,Z,B6.upd_new b7,IL,IL,λd7 H7 d0 d4 B7 e7=>?_]
 have k7:ar p H6 H7:=((ar.refl).upd_new b7).trans (ar.of_eq e7)
 have l3:=B6.ne b7
 have g2:H7 l2=some (.lst [.int 3,.int 3,.int 3,.int 5]):=by rw[e7 l2 l3];exact jc
 refine aR λGq u=>?_
 obtain⟨dp,g4,g5,p2,p3⟩:=sI d0 d4
 refine u ?_
 clear u
 refine#[l2,_,_,_,Z,Z,aC.of g2,g4,?_]
 refine m7 _ _ ?_
 refine ff λE8 m8=>?_
 have m7:=k7 _ _ s' m6
 have b8:=k7 _ _ h4 h'
 have g6:=d9.mono (k7.tm B6)
 have k9:=k6.trans k7
 refine#[DX _,λdl N=>?_]
 refine m8 _ _ ?_
 refine ff λE9 m9=>?_
 have d3:=B7.ne N
 have n7:H dl=none:=by
  cases z:H dl with
  |none=>rfl
  |some o=>have:=k9 _ _ d3 z;rw[N]at this;cases this
 have d':hl≠dl:=λe=>by rw[<- e,b8]at N;cases N
 have s5:sm≠dl:=λe=>by rw[<- e,m7]at N;cases N
 have p4:=h6.len
 refine dJ λJ j=>#[_,Z,hl,Z,#[_,aC.of (ap b8 N)],j _ _ ?_]
 clear j
 refine qq (K:=K) (a:=hl) (xs:=hv) (AK p W hl sm dl T Y m dp zs hs hv H)
  #[_,_,_,_,_,_,_,[],[],Z,jc,Z,Z,#[(λc hc=>nomatch hc),Z],ap b8 N,g6.mono (ae.tm (je N)),ap m7 N,B7.upd_new N,k9.upd_own n7,#[Z,(λi d n h=>nomatch h)]] ?_ ?_ ?_
 ·intro i σ R _ l
  refine aR λGq u=>?_
  obtain⟨o6,o7,o8,o1,o2,o3,o4,ds,dv,rfl,h5,hD,a0,x,hh,hd,b',B8,k8,p0⟩:=l
  refine u ?_
  clear u
  exact aC.of hh
 ·intro D' _ i v σ R hx f0 Gq u l
  obtain⟨o6,o7,o8,o1,o2,o3,o4,ds,dv,rfl,h5,hD,a0,x,hh,hd,b',B8,k8,p0⟩:=l
  have p5:i < hv.length:=(List.getElem?_eq_some_iff.mp hx).1
  obtain⟨c,hc,q0,t0,rfl,w1,w2⟩:=hd.at i v hx
  refine u ?_
  clear u m9
  have g7:=D5 hc
  have e0:=h7 c g7
  refine Dx λF6 f6=>#[q0,_,Z,aA.of w1,Z,_,_,Z,_,_,Z,Z,f6 _ _ ?_]
  clear f6
  show fQ (dZ _ _) _ D' _ _
  refine ff λF1 f1=>?_
  refine#[_,Z,lg,λM n2=>?_]
  refine f1 _ _ ?_
  show fQ (dZ _ _) _ D' _ _
  refine ff λF2 f2=>?_
  refine#[le,λb0 n4=>?_]
  refine f2 _ _ ?_
  show fQ (yM _ _ _) _ D' _ _
  refine ff λF3 f3=>?_
  have s9:ae R (af (af R M (.lst [.int Y])) b0 (.tup [])):=(je n2).trans (je n4)
  have s4:bQ (af (af R M (.lst [.int Y])) b0 (.tup [])) M:=#[Y,ap jc n4]
  have b9:af (af R M (.lst [.int Y])) b0 (.tup []) b0=some (.tup []):=jc
  have B9:am (af (af R M (.lst [.int Y])) b0 (.tup [])) p:=(B8.upd_new n2).upd_new n4
  have e9:cc (af (af R M (.lst [.int Y])) b0 (.tup [])) M=Y:=zK (ap jc n4)
  generalize af (af R M (.lst [.int Y])) b0 (.tup [])=H9 at s9 s4 b9 B9 e9
  have e4:H M=none:=by
   cases z:H M with
   |none=>rfl
   |some o=>have:=k8 _ _ (B8.ne n2) z;rw[n2]at this;cases this
  have g8:dl≠M:=λe=>by rw[<- e,h5]at n2;cases n2
  have G9:lu H9 p sm hl M zs hs:=#[B9,s9 _ _ b',z1,z2,#[hv,s9 _ _ hh,hd.mono (ae.tm s9)],IM,IM,λc hc=>(h7 c hc).2,s4]
  refine dJ λJ j=>#[_,Z,IL,IL,j _ _ ?_]
  clear j
  refine zC (lo:=0) (AL hs zs p W hl sm dl t0 M T Y m dp o7 o8 c H9)
   #[_,b0,.nil,[],Z,b9,Z,(by rw[e9];exact#[by show((0:Nat):Int)+_<=_;omega,e']),YG,B9,s4,aB.refl] ?_ ?_
  ·intro p6 _ j σ G hj fin2 Gq u l
   obtain⟨o9,bb,Bb,bs,rfl,c0,a1,a2,I,B',U,L⟩:=l
   refine u ?_
   clear u f1 f2 f3
   have G0:=G9.but2 B' U L
   refine#[_,Z,_,Z,_,Z,_,Z,_,Z,_,Z,p,sm,hl,M,dp,zs,hs,Z,G0,g5,a2.2,λr b p8 H0 X a4 i0 c1 c2 a3 S k'=>?_]
   have tm:=k'.tm B' U
   have lb:=a1.len
   have p9:=a4.len
   obtain⟨i1,i2⟩:=a2
   refine#[bb,r,_,_,Z,Z,tm _ _ c0,X,IM,λr2 H' e6 s0=>?_]
   have i3:am H' p:=by
    refine aR λGq u=>?_
    obtain⟨a,b,h1,h2,h3,h⟩:=a3.ob
    refine u ?_
    clear u
    exact#[a,b,h1,h2,h3,s0 _ _ h]
   have s7:bQ H' M:=by
    obtain⟨z,hz⟩:=S
    exact#[z,s0 _ _ hz]
   refine fin2 _ _ #[_,r2,Bb.app b,_,Z,e6,(a4.mono (ae.tm s0)).app ((a1.mono tm).mono (ae.tm s0)),?_,YH I c2,i3,s7,L.trans (k'.trans (aB.of_same s0))]
   rw[jT,jU S s0]
   exact#[IM,c1]
  ·intro σ G l
   refine aR λGq u=>?_
   obtain⟨o9,bb,Bb,bs,rfl,c0,a1,a2,I,B',U,L⟩:=l
   refine u ?_
   clear u
   refine f3 _ _ ?_
   have O:G dl=some (.lst dv):=L _ _ d3 g8 (s9 _ _ h5)
   have G0:=G9.but2 B' U L
   have t3:ai R G:=λb xs e=>L.tm B9 s4 _ _ (s9 _ _ e)
   refine#[_,Z,.inl #[Z,_,aC.of O],_,Z,_,Z,_,Z,dU,λr nr=>?_]
   have S:ae G (af G r (.tup [.str c.1,.ref t0,.ref bb])):=je nr
   have i4:=hD.len
   have e8:Bb.size<=40:=by obtain⟨i1,i2⟩:=a2;omega
   refine#[dl,_,_,Z,Z,S _ _ O,IM,?_]
   have X:af G r (.tup [.str c.1,.ref t0,.ref bb]) r=some (.tup [.str c.1,.ref t0,.ref bb]):=jc
   have a3:=B'.upd_new (o:=.tup [.str c.1,.ref t0,.ref bb]) nr
   generalize af G r (.tup [.str c.1,.ref t0,.ref bb])=H0 at S X a3
   have tm:ai H0 (af H0 dl (.lst (dv++[.ref r]))):=λb xs e=>by rw[jj (jG e (S _ _ O) (by intro z;cases z))];exact e
   have t2:ai G (af H0 dl (.lst (dv++[.ref r]))):=λb xs e=>tm _ _ (S _ _ e)
   have t1:ai R (af H0 dl (.lst (dv++[.ref r]))):=λb xs e=>t2 _ _ (t3 _ _ e)
   refine f0 _ _ #[_,_,_,_,_,_,_,ds++[#[c.1,r,t0,bb,Bb]],_,Z,jc,(hD.mono t1).snoc #[bs,Z,tm _ _ X,t2 _ _ c0,a1.mono t2],by rw[DM,a0];rfl,#[qY x.1 #[#[#[zs,z2,I.1.1],Fe I.2 IM,DV e8 IL],I.1.2],by rw[Ef,x.2,FT,D4,hc];rfl],?_,hd.mono t1,?_,a3.eq (jj (Eg d3)),?_,(by rw[FT,D4,hc];exact(p0.mono t1).snoc (d:=#[c.1,r,t0,bb,Bb]) (t1 _ _ w2) (DV e0.2 IL))]
   ·obtain⟨p',e1,e2⟩:=G0.h
    rw[jj d']
    exact S _ _ (L _ _ G9.hsp.2 G9.hsp.1 (s9 _ _ hh))
   ·rw[jj s5]
    exact S _ _ G0.g
   ·refine ar.upd_own (λb o n e=>?_) n7
    exact S _ _ (L _ _ n (ji e e4) (s9 _ _ (k8 _ _ n e)))
 ·intro σ R l
  refine aR λGq u=>?_
  obtain⟨o6,o7,o8,o1,o2,o3,o4,ds,dv,rfl,h5,hD,a0,x,hh,hd,b',B8,k8,p0⟩:=l
  refine u ?_
  clear u
  refine m9 _ _ ?_
  refine#[_,Z,dl,dv,Z,.inl #[aC.of h5,λt nt=>?_]]
  have nn:(ds.map Df.f).Nodup:=by
   rw[x.2,d8]
   refine List.Nodup.sublist (FD _ _) ?_
   have e:∀m,m<=8->ys.take m=(ys.take 8).take m:=λm hm=>by rw[List.take_take,Gc hm]
   rw[e _ IM]
   exact C.2.sublist (FD _ _)
  exact q t ds dv _ jc (hD.mono (ae.tm (je nt))) IM (hs.map λc=>c.2.length) #[λd hd=>#[(x.1 d hd).1,by have e:=x.2;rw[Fk (by rw[DK];omega)]at e;rw[e];have z:=(x.1 d hd).2;rw[show(hs.map λc=>(c.1,c.2.length))=(hs.map (·.1)).zip (hs.map λc=>c.2.length) by rw[List.zip_map']]at z;exact z],nn,λy hy=>by rw[x.2,d8]at hy;exact C.1 y (EC (EC hy))] (by have z:=p0.mono (ae.tm (je (o:=.tup dv) nt));rw[Fk (by rw[DK];omega)]at z;exact z) (B8.upd_new nt) (k8.upd_new nt)
theorem le:0<=sizeLine:=by decide
theorem lg:1<=sizeLine:=by decide
theorem bn:2<=sizeLine:=by decide
theorem dU:3<=sizeLine:=by decide
theorem nO:4<=sizeLine:=by decide
theorem ai.trans(a:ai H h)(b:ai h d):ai H d:=λc x e=>b c x (a c x e)
theorem ai.refl:ai H H:=λ_ _ e=>e
def fq(H:Hp)(y:List Str)(k:Nat)(a:Addr):Prop:=∃T,aW H T a/\T.Good y/\T.depth<=k
theorem fq.mono(h:fq H y k a)(m:ai H b):fq b y k a:=let #[T,c,d]:=h;#[T,c.mono m,d]
theorem fq.ok(h:fq H y k a)(m:k < 6):∃T,aW H T a/\cR y T:=let #[T,b,c,d]:=h;#[T,b,c,Fe d m]
section
variable {Cf:gG}{H:Hp}{ys:List Str}
theorem yQ(h:H a=some (.tup [.str "num",.int n]))(b:0<=n)(c:n < 1000000000000000000):fq H ys 0 a:=#[.num n,h,#[b,c],DX _]
theorem Z2(h:H a=some (.tup [.str "var",.str x]))(b:x∈ys):fq H ys 0 a:=#[.var x,h,b,DX _]
def Sg(s:Str):Prop:=∃i,i < 6/\s=CH i
theorem wc(h:H a=some (.tup [.str "op",.str s,.ref b,.ref c]))(d:Sg s)(e:fq H ys j b)(f:fq H ys k c)(q:j < n)(r:k < n):fq H ys n a:=by
 obtain⟨i,g,rfl⟩:=d
 obtain⟨B,l,m,t⟩:=e
 obtain⟨C,o,p,u⟩:=f
 exact#[.op i B C,#[b,c,h,l,o],#[g,m,p],by show max B.depth C.depth+1<=n;omega]
theorem zg:Sg "+":=#[0,IL,IP]
theorem Xd:Sg "-":=#[1,IL,IP]
theorem Xe:Sg "*":=#[2,IL,IP]
theorem uO:Sg "/":=#[3,IL,IP]
theorem QJ:Sg "<":=#[4,IL,IP]
theorem A7:Sg "=":=#[5,IL,IP]
theorem ug(h:0<=d)(a:d < 4):∃s,du [V.str "+",.str "+",.str "*",.str "-"] d=some (.str s)/\Sg s:=by
 rcases(by omega:d=0∨d=1∨d=2∨d=3) with rfl |rfl |rfl |rfl
 ·exact#[_,Z,zg]
 ·exact#[_,Z,zg]
 ·exact#[_,Z,Xe]
 ·exact#[_,Z,Xd]
theorem uf(h:0<=d)(a:d < 3):∃c,du (Str.cps "<=*").toList d=some c/\Sg #[(List.toArray [c])]:=by
 rcases(by omega:d=0∨d=1∨d=2) with rfl |rfl |rfl
 ·exact#[_,Z,QJ]
 ·exact#[_,Z,A7]
 ·exact#[_,Z,Xe]
theorem AU{P:Addr->Prop}(e:0<=d)(f:d < 2)(h:P a)(c:P b):∃x,du [V.ref a,.ref b] d=some (.ref x)/\P x:=by
 rcases(by omega:d=0∨d=1) with rfl |rfl
 ·exact#[_,Z,h]
 ·exact#[_,Z,c]
theorem AV{P:Addr->Prop}(g:0<=d)(i:d < 3)(h:P a)(e:P b)(f:P c):∃x,du [V.ref a,.ref b,.ref c] d=some (.ref x)/\P x:=by
 rcases(by omega:d=0∨d=1∨d=2) with rfl |rfl |rfl
 ·exact#[_,Z,h]
 ·exact#[_,Z,e]
 ·exact#[_,Z,f]
theorem AW{P:Addr->Prop}(h:P a)(d:P b)(c:Bool):∃x,du [V.ref a,.ref b] (if c then 1 else 0)=some (.ref x)/\P x:=by
 cases c
 ·exact#[_,Z,h]
 ·exact#[_,Z,d]
def bY(Cf:gG)(H:Hp)(ys:List Str)(d:Nat)(v:V):Prop:=∃s,gp H v s/\(s.Ok ys/\s.Cs Cf)/\s.dep<=d/\s.size<=1+20*d
def fX(Cf:gG)(H:Hp)(ys:List Str)(d:Nat)(x:List V):Prop:=∃b,dj H b x/\(b.Ok ys/\b.Cs Cf)/\b.dep<=d/\b.size<=(1+20*d)*x.length
theorem bY.mono(h:bY Cf H ys d v)(m:ai H a):bY Cf a ys d v:=let #[s,b,c]:=h;#[s,b.mono m,c]
theorem fX.mono(h:fX Cf H ys d x)(m:ai H a):fX Cf a ys d x:=let #[s,b,c]:=h;#[s,b.mono m,c]
theorem bY.up(h:bY Cf H ys 0 v):bY Cf H ys d v:=let #[s,a,b,c,e]:=h;#[s,a,b,IM,IM]
theorem Ke:fX Cf H ys d []:=#[.nil,Z,#[Eh,Eh],DX _,DX _]
theorem Jn{xs:List V}(h:fX Cf H ys d xs)(g:fX Cf H ys d z):fX Cf H ys d (xs++z):=by
 obtain⟨a,c,A,f,i⟩:=h
 obtain⟨b,e,B,j,k⟩:=g
 refine#[a.app b,e.app c,#[Kc A.1 B.1,Kb A.2 B.2],by rw[zf];omega,?_]
 rw[jT,DM,Nat.mul_add]
 omega
theorem zp(h:bY Cf H ys d v):fX Cf H ys d [v]:=by
 obtain⟨s,a,b,c,e⟩:=h
 exact#[s,a.bd,b,c,by show s.size<=(1+20*d)*1;omega]
theorem jS(h:bY Cf H ys d v)(g:fX Cf H ys d xs):fX Cf H ys d (v::xs):=Jn (xs:=[v]) (zp h) g
theorem QY{l:Lf}(h:H p=some (.tup v))(a:si H l v)(b:l.Ok ys)(c:l.Cs Cf):bY Cf H ys 0 (.ref p):=#[.lf p l .nil,.lf p l v h a,#[#[b,Eh],c,Eh],DN 0,DN 1]
theorem Bi(h:H p=some (.tup [.str "read",.str x,.ref t]))(a:x∈ys)(b:fq H ys k t)(c:k < 6:=by decide):bY Cf H ys 0 (.ref p):=by
 obtain⟨T,d,e⟩:=b.ok c
 exact QY (l:=.rd x t T) h #[Z,d] #[a,e] Eh
theorem Bj(h:H p=some (.tup [.str "set",.str x,.ref t]))(a:x∈ys)(b:fq H ys k t)(c:k < 6:=by decide):bY Cf H ys 0 (.ref p):=by
 obtain⟨T,d,e⟩:=b.ok c
 exact QY (l:=.st x t T) h #[Z,d] #[a,e] Eh
theorem Bg(h:H p=some (.tup [.str "give",.ref t]))(a:fq H ys k t)(b:k < 6:=by decide):bY Cf H ys 0 (.ref p):=by
 obtain⟨T,c,d⟩:=a.ok b
 exact QY (l:=.gv t T) h #[Z,c] d Eh
theorem Bk(h:H p=some (.tup [.str "write",.ref t,.ref u]))(a:fq H ys k t)(b:fq H ys j u)(c:k < 6:=by decide)(d:j < 6:=by decide):bY Cf H ys 0 (.ref p):=by
 obtain⟨T,e,f⟩:=a.ok c
 obtain⟨U,g,i⟩:=b.ok d
 exact QY (l:=.wr t u T U) h #[Z,e,g] #[f,i] Eh
theorem Bf{f:Str}(h:H p=some (.tup [.str "call",.str x,.str f,.ref q]))(b:x∈ys)(a:(f,2)∈Cf)(d:H q=some (.tup [.ref t,.ref u]))(e:fq H ys k t)(g:fq H ys j u)(i:k < 6:=by decide)(m:j < 6:=by decide):bY Cf H ys 0 (.ref p):=by
 obtain⟨T,n,o⟩:=e.ok i
 obtain⟨U,r,s⟩:=g.ok m
 refine QY (l:=.cl x f q [(t,T),(u,U)]) h #[Z,d,λc hc=>?_] #[b,(by show 2<=6;decide),λc hc=>?_] a
 ·rcases List.mem_cons.mp hc with rfl |hc
  ·exact n
  ·rw[List.mem_singleton.mp hc];exact r
 ·rcases List.mem_cons.mp hc with rfl |hc
  ·exact o
  ·rw[List.mem_singleton.mp hc];exact s
theorem Bh(h:H p=some (.tup [.str "if",.ref t,.ref q,.ref Q]))(e:fq H ys k t)(f:H q=some (.tup A))(g:H Q=some (.tup B))(G:fX Cf H ys 0 A)(i:fX Cf H ys 0 B)(r:A.length+B.length<=20)(j:k < 6:=by decide):bY Cf H ys 1 (.ref p):=by
 obtain⟨T,l,m⟩:=e.ok j
 obtain⟨a,n,c,s,u⟩:=G
 obtain⟨b,o,d,v,x⟩:=i
 exact#[.ite p t T a b .nil,.ite p t T a b q Q A B h l f g n o,#[#[m,c.1,d.1,Eh],c.2,d.2,Eh],(by show max (max a.dep b.dep+1) 0<=1;omega),(by show a.size+b.size+0+1<=21;omega)]
theorem rE(h:H p=some (.tup [.str "while",.ref t,.ref q]))(c:fq H ys k t)(d:H q=some (.tup A))(g:fX Cf H ys 0 A)(l:A.length<=20)(e:k < 6:=by decide):bY Cf H ys 1 (.ref p):=by
 obtain⟨T,f,i⟩:=c.ok e
 obtain⟨a,j,b,m,n⟩:=g
 exact#[.loop p t T a .nil,.loop p t T a q A h f d j,#[#[i,b.1,Eh],b.2,Eh],(by show max (a.dep+1) 0<=1;omega),(by show a.size+0+1<=21;omega)]
def nP(Cf:gG)(n:Nat)(H:Hp)(r:Addr)(f:Str):Prop:=∃d:Df,vf H d (.ref r)/\(lF d/\d.b.Cs Cf)/\∃p:List Str,H d.pa=some (.tup (p.map V.str))/\p.length=n/\d.f=f
theorem nP.mono(h:nP Cf n H r f)(m:ai H a):nP Cf n a r f:=let #[d,b,c,p,e,g]:=h;#[d,b.mono m,c,p,m _ _ e,g]
theorem Ar{f:Str}{p:List Str}(h:H r=some (.tup [.str f,.ref a,.ref b]))(d:H a=some (.tup (p.map V.str)))(e:p.length=n)(i:H b=some (.tup x))(g:fX Cf H ys 1 x)(l:x.length<=100)(j:ys.length<=20):nP Cf n H r f:=by
 obtain⟨c,k,C,m,o⟩:=g
 exact#[#[f,r,a,b,c],#[x,Z,h,i,k],#[#[#[ys,j,C.1],(by show c.dep < 8;omega),(by show c.size<=3000;omega)],C.2],p,d,e,Z]
structure Wd(H0 H:Hp)(p wl:Addr)(ys:List Str):Prop where
 B:am H p
 K:ar p H0 H
 w:H wl=some (.lst (ys.map V.str))
theorem Wd.np(h:Wd b H p a ys):a≠p:=zo h.B h.w
theorem Wd.same(h:Wd a H p b ys)(s:ae H c):Wd a c p b ys:=#[h.B.same s,h.K.trans (ar.of_same s),s _ _ h.w]
theorem Wd.but(h:Wd b H p c ys)(B:am a p)(k:ar p H a):Wd b a p c ys:=#[B,h.K.trans k,k _ _ h.np h.w]
theorem Wd.own{xs:List V}(h:Wd a H p b ys)(n:a l=none)(L:l≠p)(c:l≠b):Wd a (af H l (.lst z)) p b ys:=#[h.B.eq (jj (Eg L)),h.K.upd_own n,by rw[jj (Eg c)];exact h.w]
theorem Qz(h:H l=some (.lst x)):ai H (af H l (.lst a)):=λb u e=>by rw[jj (jG e h (by intro z;cases z))];exact e
end
def md:Sp:=λv H Q _=>∃(p a b:Addr) (y:List Str) (k:Nat),v=[.ref p,.ref a,.ref b]/\am H p/\fq H y k a/\fq H y k b/\∀(r:Addr) (h:Hp),fq h y (k+1) r->am h p->ar p H h->Q (.ref r) h
def de(n:Nat):Sp:=λv H Q _=>∃(p W:Addr) (f g:Str) (y:List Str),v=[.ref p,.str f,.str g,.ref W]/\am H p/\H W=some (.lst (y.map V.str))/\y.length=6/\∀(r:Addr) (h:Hp),nP [(g,2)] n h r f->am h p->ar p H h->Q (.ref r) h
noncomputable abbrev CD:Stmt:=bE 62
noncomputable abbrev lQ:Stmt:=bE 63
noncomputable abbrev gq:Stmt:=bE 64
noncomputable abbrev eZ:Stmt:=bE 65
noncomputable abbrev pf:Stmt:=bE 66
theorem Cp{A:List V}(h:A.length=5):∃a b c d e,A=[a,b,c,d,e]:=by
 cases A with
 |nil=>cases h
 |cons a r=>
  cases r with
  |nil=>cases h
  |cons b R=>
   cases R with
   |nil=>cases h
   |cons c f=>
    cases f with
    |nil=>cases h
    |cons d g=>
     cases g with
     |nil=>cases h
     |cons e i=>
      cases i with
      |nil=>exact#[a,b,c,d,e,Z]
      |cons _ _=>cases h
theorem Dn{n:Nat}:lN (n+1) 0=some 0:=by unfold lN;rw[D0 IL,D0 IM];rfl
theorem Do{n:Nat}:lN (n+2) 1=some 1:=by unfold lN;rw[D0 IL,D0 IM];rfl
theorem nB:du (v::u::y) 1=some u:=jM (j:=1) Z
structure Fw(p:Addr)(H H':Hp):Prop where
 t:ai H H'
 b:ar p H H'
theorem Fw.refl:Fw p H H:=#[ai.refl,ar.refl]
theorem Fw.trans(a:Fw p H h)(b:Fw p h c):Fw p H c:=#[a.t.trans b.t,a.b.trans b.b]
theorem Fw.new{p:Addr}{H:Hp}{o:HO}(n:H r=none):Fw p H (af H r o):=#[ae.tm (je n),ar.of_same (je n)]
theorem Fw.same(s:ae H h):Fw p H h:=#[ae.tm s,ar.of_same s]
theorem Fw.but(B:am H p)(c:ar p H h):Fw p H h:=#[c.tm B,c]
def ms(P:Hp->V->Prop):Prop:=∀H h v,ai H h->P H v->P h v
def Ev(a:Hp)(p W:Addr)(y:List Str)(b:Hp)(c:L2.St)(t:TE)(P:Hp->V->Prop):Prop:=∀(H:Hp) (Q:VK),Fw p b H->Wd a H p W y->(∀v h,P h v->Wd a h p W y->Fw p H h->Q v h)->t c H Q
def PT(y:List Str)(k:Nat)(H:Hp)(v:V):Prop:=∃a,v= .ref a/\fq H y k a
def PB(C:gG)(y:List Str)(d n:Nat)(H:Hp)(v:V):Prop:=∃a x,v= .ref a/\H a=some (.tup x)/\fX C H y d x/\x.length<=n
def PN(y:List Str)(_:Hp)(v:V):Prop:=∃x,v= .str x/\x∈y
def PG(_:Hp)(v:V):Prop:=∃s,v= .str s/\Sg s
def PP(n:Nat)(H:Hp)(v:V):Prop:=∃(a:Addr) (x:List Str),v= .ref a/\H a=some (.tup (x.map V.str))/\x.length=n
def sj(y:Str)(_:Hp)(v:V):Prop:=v= .str y
def PD(C:gG)(n:Nat)(f:Str)(H:Hp)(v:V):Prop:=∃a,v= .ref a/\nP C n H a f
section
variable {Cf:gG}{ys:List Str}{H0 Hb:Hp}{p wl:Addr}{σ:L2.St}
theorem aq:ms (PT ys k):=λ_ _ _ m #[a,e,h]=>#[a,e,h.mono m]
theorem dA:ms (PB Cf ys d n):=λ_ _ _ m #[a,x,e,h,H,b]=>#[a,x,e,m _ _ h,H.mono m,b]
theorem dH:ms λH v=>bY Cf H ys d v:=λ_ _ _ m h=>h.mono m
theorem io:ms (PD Cf n f):=λ_ _ _ m #[a,e,h]=>#[a,e,h.mono m]
theorem Ev.up{P R:Hp->V->Prop}(h:Ev H0 p wl ys Hb σ t P)(k:∀H v,P H v->R H v):Ev H0 p wl ys Hb σ t R:=λH Q m W q=>h H Q m W λv a x=>q v a (k _ _ x)
theorem jD{P:Hp->V->Prop}(e:σ[i]?=some (some v))(M:ms P)(h:P Hb v):Ev H0 p wl ys Hb σ (aS i) P:=λH Q m W q=>#[v,e,q v H (M _ _ _ m.t h) W .refl]
theorem qe(h:Sg s):Ev H0 p wl ys Hb σ (tC (.str s)) PG:=λH Q m W q=>q _ H #[s,Z,h] W .refl
theorem kG{K:Frag}(e:σ[j]?=some (some (.ref wl)))(a:0<=i)(b:i < (ys.length:Int)):Ev H0 p wl ys Hb σ (dG (iq K) (aS j) (tC (.int i))) (PN ys):=λH Q m W q=>by
 obtain⟨y,c,h⟩:=Jk (ys:=ys) a b
 exact#[_,e,wl,_,_,_,Z,Z,aC.of W.w,h,q _ H #[y,Z,c] W .refl]
theorem km{Q:VK}{P:Hp->V->Prop}(W:Wd H0 H p wl ys)(q:∀v h,P h v->Wd H0 h p wl ys->Fw p H h->Q v h)(n:H r=none)(x:ai H (af H r o)->af H r o r=some o->P (af H r o) (.ref r)):Q (.ref r) (af H r o):=
 q _ _ (x (ae.tm (je n)) jc) (W.same (je n)) (.new n)
abbrev rX(n:Int):TE:=dD aN [] E0 (al (aS 0) (al (tC (.int n)) aI))
def PK(n:Int)(_:Hp)(v:V):Prop:=∃d:Int,v= .int d/\0<=d/\d < n
theorem kM(e:σ[0]?=some (some (.ref p)))(h:1<=n)(c:n<=1000):Ev H0 p wl ys Hb σ (rX n) (PK n):=λH Q m W q=>
 #[_,e,p,n,Z,W.B,IM,IM,λd f D a b E=>q _ _ #[d,Z,D,a] (W.but b (ar.of_eq E)) (.but W.B (ar.of_eq E))]
theorem kn(h:Ev H0 p wl ys Hb σ t (PK n))(g:n<=1000000000000000000):Ev H0 p wl ys Hb σ (bK (al (tC (.str "num")) (al t aI))) (PT ys 0):=λH Q m W q=>
 h H _ m W λv i #[d,e,D,j] a b=>#[bn,λr N=>km (P:=PT ys 0) a (λV c x f k=>q V c x f (b.trans k)) N λ_ z=>#[r,Z,yQ (by rw[z,e]) D IM]]
theorem Qu(h:0<=n)(a:n < m):Ev H0 p wl ys Hb σ (tC (.int n)) (PK m):=λH Q _ W q=>q _ H #[n,Z,h,a] W .refl
theorem QA(h:Ev H0 p wl ys Hb σ t (PK n))(c:0<=m):Ev H0 p wl ys Hb σ (dG (um λi j=>V.int (i+j)) (tC (.int m)) t) (PK (m+n)):=λH Q M W q=>
 h H _ M W λv a #[d,e,D,f] b k=>#[m,d,Z,e,q _ a #[m+d,Z,IM,IM] b k]
theorem J3(h:Ev H0 p wl ys Hb σ t (PN ys)):Ev H0 p wl ys Hb σ (bK (al (tC (.str "var")) (al t aI))) (PT ys 0):=λH Q m W q=>
 h H _ m W λv i #[d,e,a] b c=>#[bn,λr n=>km (P:=PT ys 0) b (λV f x g k=>q V f x g (c.trans k)) n λ_ z=>#[r,Z,Z2 (by rw[z,e]) a]]
theorem qc{n:Nat}(h:Ev H0 p wl ys Hb σ T PG)(f:Ev H0 p wl ys Hb σ g (PT ys j))(i:Ev H0 p wl ys Hb σ l (PT ys k))(o:j < n)(u:k < n):Ev H0 p wl ys Hb σ (bK (al (tC (.str "op")) (al T (al g (al l aI))))) (PT ys n):=λH Q m W q=>
 h H _ m W λM v #[s,E,X] y c=>f v _ (m.trans c) y λO A #[a,B,C] D d=>i A _ ((m.trans c).trans d) D λR S #[b,F,G] I e=>#[nO,λr N=>km (P:=PT ys n) I (λV J x L k=>q V J x L (((c.trans d).trans e).trans k)) N λt z=>
  #[r,Z,wc (by rw[z,E,B,F]) X ((C.mono e.t).mono t) (G.mono t) o u]]
theorem Ax(e:σ[0]?=some (some (.ref p))):Ev H0 p wl ys Hb σ (dG yk (tC (.str "<=*")) (rX 3)) PG:=λH Q m W q=>
 kM e IL IL H _ m W λv h #[d,E,D,a] b k=>by
  obtain⟨g,i,x⟩:=uf D a
  exact#["<=*",d,g,Z,E,IP,i,q _ h #[_,Z,x] b k]
theorem Ym{K:Frag}(e:σ[0]?=some (some (.ref p)))(r:Ev H0 p wl ys Hb σ T (PT ys k))(s:Ev H0 p wl ys Hb σ u (PT ys k)):Ev H0 p wl ys Hb σ (dG (iq K) (lr (al T (al u aI))) (rX 2)) (PT ys k):=λH Q m W q=>
 r H _ m W λV y #[a,E,X] z c=>s y _ (m.trans c) z λA C #[b,D,F] h f=>#[bn,λl n=>kM e IL IL _ _ (((m.trans c).trans f).trans (.new n)) (h.same (je n)) λv G #[d,I,J,L] M j=>by
  obtain⟨g,i,x⟩:=AU (P:=fq C ys k) J L (X.mono f.t) F
  rw[<- E,<- D]at i
  have t:=(Fw.new (p:=p) (o:=HO.lst [V,A]) n).trans j
  exact#[l,_,d,_,Z,I,aC.of (j.b _ _ (h.B.ne n) jc),i,q _ G #[g,Z,x.mono t.t] M ((c.trans f).trans t)]]
theorem vv{K:Frag}(e:σ[0]?=some (some (.ref p)))(u:Ev H0 p wl ys Hb σ T (PT ys k))(y:Ev H0 p wl ys Hb σ z (PT ys k))(A:Ev H0 p wl ys Hb σ C (PT ys k)):Ev H0 p wl ys Hb σ (dG (iq K) (lr (al T (al z (al C aI)))) (rX 3)) (PT ys k):=λH Q m W q=>
 u H _ m W λV D #[a,E,X] F f=>y D _ (m.trans f) F λG I #[b,J,L] M h=>A I _ ((m.trans f).trans h) M λN O #[c,R,S] r j=>#[dU,λl n=>kM e IL IL _ _ ((((m.trans f).trans h).trans j).trans (.new n)) (r.same (je n)) λv U #[d,Y,d0,d1] W4 s=>by
  obtain⟨g,i,x⟩:=AV (P:=fq O ys k) d0 d1 (X.mono (h.trans j).t) (L.mono j.t) S
  rw[<- E,<- J,<- R]at i
  have t:=(Fw.new (p:=p) (o:=HO.lst [V,G,N]) n).trans s
  exact#[l,_,d,_,Z,Y,aC.of (s.b _ _ (r.B.ne n) jc),i,q _ U #[g,Z,x.mono t.t] W4 (((f.trans h).trans j).trans t)]]
theorem Av{K:Frag}(e:σ[0]?=some (some (.ref p)))(r:1<=n)(s:n<=1000)(u:Ev H0 p wl ys Hb σ T (PT ys k))(y:Ev H0 p wl ys Hb σ z (PT ys k)):Ev H0 p wl ys Hb σ (dG (iq K) (lr (al T (al z aI))) (BK (λX H Q=>(∃i,X=[V.int i]/\Q (V.int i) H)∨∃k,X=[V.bl k]/\Q (V.int (if k=true then 1 else 0)) H) (al (dG AY (rX n) (tC (.int 0))) aI))) (PT ys k):=λH Q m W q=>
 u H _ m W λA C #[a,E,D] F c=>y C _ (m.trans c) F λG I #[b,J,L] h f=>#[bn,λl N=>kM e r s _ _ (((m.trans c).trans f).trans (.new N)) (h.same (je N)) λv M #[d,O,S,U] R j=>by
  subst O
  refine#[Z,.inr #[_,Z,?_]]
  obtain⟨g,i,x⟩:=AW (P:=fq I ys k) (D.mono f.t) L _
  rw[<- E,<- J]at i
  have t:=(Fw.new (p:=p) (o:=HO.lst [A,G]) N).trans j
  exact#[l,_,_,_,Z,Z,aC.of (j.b _ _ (h.B.ne N) jc),i,q _ M #[g,Z,x.mono t.t] R ((c.trans f).trans t)]]
theorem J4(e:σ[0]?=some (some (.ref p)))(h:Ev H0 p wl ys Hb σ T (PT ys k))(g:Ev H0 p wl ys Hb σ i (PT ys k)):Ev H0 p wl ys Hb σ (dD md [] E0 (al (aS 0) (al T (al i aI)))) (PT ys (k+1)):=λH Q m W q=>
 #[_,e,h H _ m W λv j #[a,E,x] l d=>g j _ (m.trans d) l λV y #[b,n,X] c f=>#[p,a,b,ys,k,by rw[E,n];rfl,c.B,x.mono f.t,X,λr o s u C=>q _ o #[r,Z,s] (c.but u C) ((d.trans f).trans (.but c.B C))]]
theorem sJ{w:Str}{T a:TE}{A B R:Hp->V->Prop}(M:ms A)(d:ms B)(e:Ev H0 p wl ys Hb σ T A)(f:Ev H0 p wl ys Hb σ a B)(h:∀H r u v,H r=some (.tup [.str w,u,v])->A H u->B H v->R H (.ref r)):Ev H0 p wl ys Hb σ (bK (al (tC (.str w)) (al T (al a aI)))) R:=λH Q m W q=>
 e H _ m W λC g X i b=>f g _ (m.trans b) i λD E j l c=>#[dU,λr n=>km (P:=R) l (λo s x y k=>q o s x y ((b.trans c).trans k)) n λt z=>h _ _ _ _ z (M _ _ _ t (M _ _ _ c.t X)) (d _ _ _ t j)]
theorem Cj{w:Str}{T:TE}{A R:Hp->V->Prop}(M:ms A)(a:Ev H0 p wl ys Hb σ T A)(h:∀H r u,H r=some (.tup [.str w,u])->A H u->R H (.ref r)):Ev H0 p wl ys Hb σ (bK (al (tC (.str w)) (al T aI))) R:=λH Q m W q=>
 a H _ m W λf g X b c=>#[bn,λr n=>km (P:=R) b (λv d x e k=>q v d x e (c.trans k)) n λt z=>h _ _ _ z (M _ _ _ t X)]
theorem As{w:Str}{T d e:TE}{A B C R:Hp->V->Prop}(M:ms A)(f:ms B)(g:ms C)(i:Ev H0 p wl ys Hb σ T A)(j:Ev H0 p wl ys Hb σ d B)(l:Ev H0 p wl ys Hb σ e C)(h:∀H r u v x,H r=some (.tup [.str w,u,v,x])->A H u->B H v->C H x->R H (.ref r)):Ev H0 p wl ys Hb σ (bK (al (tC (.str w)) (al T (al d (al e aI))))) R:=λH Q m W q=>
 i H _ m W λL n X o a=>j n _ (m.trans a) o λO s y D b=>l s _ ((m.trans a).trans b) D λS U E F c=>#[nO,λr N=>km (P:=R) F (λG I x J k=>q G I x J (((a.trans b).trans c).trans k)) N λt z=>h _ _ _ _ _ z (M _ _ _ t (M _ _ _ (b.trans c).t X)) (f _ _ _ t (f _ _ _ c.t y)) (g _ _ _ t E)]
theorem wX:ms (PN ys):=λ_ _ _ _ h=>h
theorem J5{t T:TE}{k:Nat}(h:Ev H0 p wl ys Hb σ t (PN ys))(b:Ev H0 p wl ys Hb σ T (PT ys k))(c:k < 6):Ev H0 p wl ys Hb σ (bK (al (tC (.str "read")) (al t (al T aI)))) (λH v=>bY Cf H ys 0 v):=sJ wX aq h b λH r u v z #[x,e,d] #[a,E,f]=>Bi (by rw[z,e,E]) d f c
theorem Jw{t T:TE}{k:Nat}(h:Ev H0 p wl ys Hb σ t (PN ys))(b:Ev H0 p wl ys Hb σ T (PT ys k))(c:k < 6):Ev H0 p wl ys Hb σ (bK (al (tC (.str "set")) (al t (al T aI)))) (λH v=>bY Cf H ys 0 v):=sJ wX aq h b λH r u v z #[x,e,d] #[a,E,f]=>Bj (by rw[z,e,E]) d f c
theorem J6{t T:TE}{j k:Nat}(h:Ev H0 p wl ys Hb σ t (PT ys j))(b:Ev H0 p wl ys Hb σ T (PT ys k))(c:j < 6)(d:k < 6):Ev H0 p wl ys Hb σ (bK (al (tC (.str "write")) (al t (al T aI)))) (λH v=>bY Cf H ys 0 v):=sJ aq aq h b λH r u v z #[x,e,f] #[a,E,g]=>Bk (by rw[z,e,E]) f g c d
theorem QZ{t:TE}{k:Nat}(h:Ev H0 p wl ys Hb σ t (PT ys k))(b:k < 6):Ev H0 p wl ys Hb σ (bK (al (tC (.str "give")) (al t aI))) (λH v=>bY Cf H ys 0 v):=Cj aq h λH r v z #[a,e,c]=>Bg (by rw[z,e]) c b
theorem ZH{n o T c:TE}{j k:Nat}(C:Ev H0 p wl ys Hb σ n (PN ys)){f:Str}(D:Ev H0 p wl ys Hb σ o (sj f))(d:(f,2)∈Cf)(F:Ev H0 p wl ys Hb σ T (PT ys j))(G:Ev H0 p wl ys Hb σ c (PT ys k))(I:j < 6)(J:k < 6):Ev H0 p wl ys Hb σ (bK (al (tC (.str "call")) (al n (al o (al (bK (al T (al c aI))) aI))))) (λH v=>bY Cf H ys 0 v):=by
 let R:Hp->V->Prop:=λH v=>∃q a b,v= .ref q/\H q=some (.tup [.ref a,.ref b])/\fq H ys j a/\fq H ys k b
 have M:ms R:=λ_ _ _ m #[q,a,b,e,g,L,i]=>#[q,a,b,e,m _ _ g,L.mono m,i.mono m]
 have N:Ev H0 p wl ys Hb σ (bK (al T (al c aI))) R:=λH Q m W q=>
  F H _ m W λv2 O #[a,E,X] S s=>G O _ (m.trans s) S λv3 H3 #[b,l,U] Y A=>#[bn,λr nr=>km (P:=R) Y (λv' H' x W' k=>q v' H' x W' ((s.trans A).trans k)) nr λt z=>#[r,a,b,Z,by rw[z,E,l],(X.mono A.t).mono t,U.mono t]]
 exact As wX (B:=sj f) (λ_ _ _ _ h=>h) M C D N λH r u v x z #[y,e1,g] (E:v= .str f) #[q,a,b,l,i,h4,h5]=>Bf (f:=f) (by rw[z,e1,E,l]) g d i h4 h5 I J
theorem vt{t T b:TE}{k n m:Nat}(h:Ev H0 p wl ys Hb σ t (PT ys k))(c:Ev H0 p wl ys Hb σ T (PB Cf ys 0 n))(d:Ev H0 p wl ys Hb σ b (PB Cf ys 0 m))(e:k < 6)(s:n+m<=20):Ev H0 p wl ys Hb σ (bK (al (tC (.str "if")) (al t (al T (al b aI))))) (λH v=>bY Cf H ys 1 v):=
 As aq dA dA h c d λH r u v x z #[a,E,f] #[Q,X,g,i,j,y] #[A,B,l,o,q,C]=>Bh (by rw[z,E,g,l]) f i o j q IM e
theorem vC{t T:TE}{k n:Nat}(h:Ev H0 p wl ys Hb σ t (PT ys k))(b:Ev H0 p wl ys Hb σ T (PB Cf ys 0 n))(c:k < 6)(i:n<=20):Ev H0 p wl ys Hb σ (bK (al (tC (.str "while")) (al t (al T aI)))) (λH v=>bY Cf H ys 1 v):=
 sJ aq dA h b λH r u v z #[a,e,d] #[q,x,E,f,g,j]=>rE (by rw[z,e,E]) d f g IM c
theorem vq{d:Nat}:Ev H0 p wl ys Hb σ (bK aI) (PB Cf ys d 0):=λH Q m W q=>#[le,λr n=>km (P:=PB Cf ys d 0) W q n λt z=>#[r,[],Z,z,Ke,DN 0]]
theorem J7(h:Ev H0 p wl ys Hb σ T (λH v=>bY Cf H ys d v)):Ev H0 p wl ys Hb σ (bK (al T aI)) (PB Cf ys d 1):=λH Q m W q=>
 h H _ m W λf g X a b=>#[lg,λr n=>km (P:=PB Cf ys d 1) a (λV c x e k=>q V c x e (b.trans k)) n λt z=>#[r,_,Z,z,zp (X.mono t),DN 1]]
theorem Yn(h:Ev H0 p wl ys Hb σ T (λH v=>bY Cf H ys d v))(c:Ev H0 p wl ys Hb σ e (λH v=>bY Cf H ys d v)):Ev H0 p wl ys Hb σ (bK (al T (al e aI))) (PB Cf ys d 2):=λH Q m W q=>
 h H _ m W λs f X g a=>c f _ (m.trans a) g λu y i j b=>#[bn,λr n=>km (P:=PB Cf ys d 2) j (λV l x o k=>q V l x o ((a.trans b).trans k)) n λt z=>#[r,_,Z,z,jS ((X.mono b.t).mono t) (zp (i.mono t)),DN 2]]
theorem At(h:Ev H0 p wl ys Hb σ T (λH v=>bY Cf H ys d v))(e:Ev H0 p wl ys Hb σ f (λH v=>bY Cf H ys d v))(g:Ev H0 p wl ys Hb σ i (λH v=>bY Cf H ys d v)):Ev H0 p wl ys Hb σ (bK (al T (al f (al i aI)))) (PB Cf ys d 3):=λH Q m W q=>
 h H _ m W λC j X l a=>e j _ (m.trans a) l λD n o s b=>g n _ ((m.trans a).trans b) s λE F u y c=>#[dU,λr N=>km (P:=PB Cf ys d 3) y (λV A x B k=>q V A x B (((a.trans b).trans c).trans k)) N λt z=>#[r,_,Z,z,jS ((X.mono (b.trans c).t).mono t) (jS ((o.mono c.t).mono t) (zp (u.mono t))),DN 3]]
theorem qG(h:Ev H0 p wl ys Hb σ T (PB Cf ys d n))(e:Ev H0 p wl ys Hb σ f (PB Cf ys d m))(B:n+m<=100):Ev H0 p wl ys Hb σ (dG vM T f) (PB Cf ys d (n+m)):=λH Q M W q=>
 h H _ M W λV g #[a,x,E,i,X,L] j c=>e g _ (M.trans c) j λC D #[b,z,l,o,u,F] v k=>#[a,b,x,z,E,l,k.t _ _ i,o,DV (show x.length+z.length<=100 by omega) IL,λr y A s=>q _ y #[r,_,Z,A,Jn ((X.mono k.t).mono (ae.tm s)) (u.mono (ae.tm s)),by rw[DM];omega] (v.same s) ((c.trans k).trans (.same s))]
theorem K2(e:σ[i]?=some (some (.str x))):Ev H0 p wl ys Hb σ (aS i) (sj x):=jD e (λ_ _ _ _ h=>h) Z
theorem Yo(h:Ev H0 p wl ys Hb σ T (sj f))(g:Ev H0 p wl ys Hb σ i (PP m))(j:Ev H0 p wl ys Hb σ l (PB Cf ys 1 n))(O:n<=100)(o:ys.length<=20):Ev H0 p wl ys Hb σ (bK (al T (al i (al l aI)))) (PD Cf m f):=λH Q M W q=>
 h H _ M W λv s (E:v= .str f) u c=>g s _ (M.trans c) u λR y #[a,S,A,B,L] C d=>j y _ ((M.trans c).trans d) C λU Y #[b,xs,D,F,X,l4] G e=>#[dU,λr N=>km (P:=PD Cf m f) G (λV I x J k=>q V I x J (((c.trans d).trans e).trans k)) N λt z=>
  #[r,Z,Ar (f:=f) (by rw[z,E,A,D]) (t _ _ (e.t _ _ B)) L (t _ _ F) (X.mono t) IM o]]
theorem vw(h:Ev H0 p wl ys Hb σ T (PN ys)):Ev H0 p wl ys Hb σ (bK (al T aI)) (PP 1):=λH Q m W q=>
 h H _ m W λV f #[X,e,_] a b=>#[lg,λr n=>km (P:=PP 1) a (λv c x d k=>q v c x d (b.trans k)) n λt z=>#[r,[X],Z,by rw[z,e];rfl,Z]]
theorem vA(h:Ev H0 p wl ys Hb σ T (PN ys))(b:Ev H0 p wl ys Hb σ c (PN ys)):Ev H0 p wl ys Hb σ (bK (al T (al c aI))) (PP 2):=λH Q m W q=>
 h H _ m W λV d #[X,e,_] f a=>b d _ (m.trans a) f λs u #[g,E,_] i j=>#[bn,λr n=>km (P:=PP 2) i (λv l x o k=>q v l x o ((a.trans j).trans k)) n λt z=>#[r,[X,g],Z,by rw[z,e,E];rfl,Z]]
theorem bY.lift(h:bY Cf H ys 0 v):bY Cf H ys 1 v:=h.up
theorem PB.lift(h:PB Cf ys 0 n H v):PB Cf ys 1 n H v:=let #[a,x,e,c,#[b,B,d,g,i],f]:=h;#[a,x,e,c,#[b,B,d,IM,IM],f]
theorem PB.more(h:PB Cf ys d n H v)(k:n<=m):PB Cf ys d m H v:=let #[a,x,e,b,c,f]:=h;#[a,x,e,b,c,DV f k]
theorem qM{a b:TS}(W:Wd H0 H p wl ys)(e:σ[0]?=some (some (.ref p)))(g:1<=n)(i:n<=1000)(j:∀h,Wd H0 h p wl ys->Fw p H h->a D σ h)(l:∀h,Wd H0 h p wl ys->Fw p H h->b D σ h):iS (il (dG AY (rX n) (tC (.int 0)))) a b D σ H:=
 kM (Hb:=H) e g i H _ .refl W λv c #[d,E,m,o] f k=>by
  subst E
  exact#[Z,_,Z,bu (λ_=>j c f k) (λ_=>l c f k)]
theorem jP{D:a9}{P:Hp->V->Prop}(W:Wd H0 H p wl ys)(h:Ev H0 p wl ys H σ t P)(q:∀v a,P a v->Wd H0 a p wl ys->Fw p H a->D.nx (σ.set i (some v)) a):dZ t (bg i) D σ H:=h H _ .refl W q
theorem QB{D:a9}{P:Hp->V->Prop}(W:Wd H0 H p wl ys)(h:Ev H0 p wl ys H σ t P)(q:∀v a,P a v->Wd H0 a p wl ys->D.rt v a):eh t D σ H:=h H _ .refl W λv a x b _=>q v a x b
theorem uM{K:Frag}{D:a9}(W:Wd H0 H p wl ys)(d:Ev H0 p wl ys H σ T (PT ys 0))(e:Ev H0 p wl ys H σ f (PT ys 0))(g:Ev H0 p wl ys H σ l (PT ys 0))
  (q:∀u v w h,PT ys 0 h u->PT ys 0 h v->PT ys 0 h w->Wd H0 h p wl ys->Fw p H h->D.nx (((σ.set k (some w)).set j (some v)).set i (some u)) h):vZ K (bK (al T (al f (al l aI)))) i j k D σ H:=
 d H _ .refl W λV m x o a=>e m _ a o λs y X z b=>g y _ (a.trans b) z λA E B C c=>#[dU,λr n=>#[r,_,_,_,Z,aA.of jc,q V s A _ (aq _ _ _ (ae.tm (je n)) (aq _ _ _ (b.trans c).t x)) (aq _ _ _ (ae.tm (je n)) (aq _ _ _ c.t X)) (aq _ _ _ (ae.tm (je n)) B) (C.same (je n)) (((a.trans b).trans c).trans (.new n))]]
structure Ow(H0 H:Hp)(p wl l:Addr)(xs:List V):Prop where
 hl:H l=some (.lst xs)
 np:l≠p
 lw:l≠wl
 l0:H0 l=none
theorem Ow.fw(o:Ow H0 H p wl l x)(k:Fw p H h):Ow H0 h p wl l x:=#[k.b _ _ o.np o.hl,o.np,o.lw,o.l0]
theorem Ow.new(W:Wd H0 H p wl ys)(n:H l=none):Ow H0 (af H l (.lst x)) p wl l x:=#[jc,W.B.ne n,(λe=>by have z:=W.w;rw[<- e,n]at z;cases z),W.K.none W.B n]
theorem AS{D:a9}(W:Wd H0 H p wl ys)(b:Ev H0 p wl ys H σ t (λH v=>bY Cf H ys 0 v))(q:∀l v h,Ow H0 h p wl l [v]->bY Cf h ys 0 v->Wd H0 h p wl ys->Fw p H h->D.nx (σ.set i (some (.ref l))) h):dZ (lr (al t aI)) (bg i) D σ H:=
 b H _ .refl W λV c x a k=>#[lg,λl n=>q l V _ (.new a n) (x.mono (ae.tm (je n))) (a.same (je n)) (k.trans (.new n))]
theorem AT{D:a9}(W:Wd H0 H p wl ys)(c:Ev H0 p wl ys H σ T (λH v=>bY Cf H ys 0 v))(d:Ev H0 p wl ys H σ e (λH v=>bY Cf H ys 0 v))(q:∀l u v h,Ow H0 h p wl l [u,v]->bY Cf h ys 0 u->bY Cf h ys 0 v->Wd H0 h p wl ys->Fw p H h->D.nx (σ.set i (some (.ref l))) h):dZ (lr (al T (al e aI))) (bg i) D σ H:=
 c H _ .refl W λV f x g k=>d f _ k g λj m X a b=>#[bn,λl n=>q l V j _ (.new a n) ((x.mono b.t).mono (ae.tm (je n))) (X.mono (ae.tm (je n))) (a.same (je n)) ((k.trans b).trans (.new n))]
theorem Jo{K:Frag}{D:a9}(W:Wd H0 H p wl ys)(a:σ[i]?=some (some (.ref l)))(o:Ow H0 H p wl l xs)(b:xs.length<=100)(c:Ev H0 p wl ys H σ T (λH v=>bY Cf H ys 0 v))
  (q:∀v h,bY Cf h ys 0 v->Ow H0 h p wl l (xs++[v])->Wd H0 h p wl ys->ai H h->D.nx σ h):ni (CO K "list" mz (aS i) (al T aI)) D σ H:=
 #[_,a,.inl #[Z,_,aC.of o.hl],c H _ .refl W λv e x d k=>#[l,xs,v,Z,Z,(o.fw k).hl,Fe b IL,q v _ (x.mono (Qz (o.fw k).hl)) #[jc,o.np,o.lw,o.l0] (d.own (xs:=xs) o.l0 o.np o.lw) (k.t.trans (Qz (o.fw k).hl))]]
theorem uT{K:Frag}{D:a9}(W:Wd H0 H p wl ys)(h:σ[i]?=some (some (.ref l)))(o:Ow H0 H p wl l (u::v::z))
  (q:∀a,Ow H0 a p wl l (v::u::z)->Wd H0 a p wl ys->ai H a->D.nx σ a):dZ (bK (al (dG (iq K) (aS i) (tC (.int 1))) (al (dG (iq K) (aS i) (tC (.int 0))) aI))) (sO K 2 (dO (wK (aS i) (tC (.int 0)) oZ) (dO (wK (aS i) (tC (.int 1)) oZ) sN))) D σ H:=
 #[_,h,l,_,_,_,Z,Z,aC.of o.hl,nB,_,h,l,_,_,_,Z,Z,aC.of o.hl,h9,bn,λt N=>#[t,_,Z,aA.of jc,Z,_,_,Z,_,h,l,_,0,0,Z,Z,ap o.hl N,Dn (n:=z.length+1),_,_,Z,_,h,l,_,1,1,Z,Z,jc,Do (n:=z.length),Z,
  q _ #[jc,o.np,o.lw,o.l0] (((W.same (je N)).own (xs:=u::v::z) o.l0 o.np o.lw).own (xs:=u::v::z) o.l0 o.np o.lw) (((ae.tm (je N)).trans (Qz (ap o.hl N))).trans (Qz jc))]]
theorem vB{K:Frag}{n:Nat}(e:σ[i]?=some (some (.ref l)))(o:Ow H0 Hb p wl l x)(h:fX Cf Hb ys 0 x)(a:x.length<=n):Ev H0 p wl ys Hb σ (BK (λx H Q=>∃p ys,x=[V.ref p]/\((aC K H p ys/\∀(l:Addr),H l=none->Q (V.ref l) (af H l (HO.tup ys)))∨aA K H p ys/\Q (V.ref p) H)) (al (aS i) aI)) (PB Cf ys 0 n):=λH Q m W q=>
 #[_,e,l,x,Z,.inl #[aC.of (o.fw m).hl,λr N=>km (P:=PB Cf ys 0 n) W q N λt z=>#[r,x,Z,z,(h.mono m.t).mono t,a]]]
theorem wA{D:a9}(W:Wd H0 H p wl ys)(u:σ[i]?=some (some (.ref l)))(y:σ[j]?=some (some (.ref m)))(o:Ow H0 H p wl l x)(O:Ow H0 H p wl m z)(C:x.length+z.length<=100)(E:fX Cf H ys 0 x)(F:fX Cf H ys 0 z)
  (G:Ev H0 p wl ys H σ T (λH v=>bY Cf H ys 0 v)) (I:Ev H0 p wl ys H σ J (λH v=>bY Cf H ys 0 v)) (q:∀r U h,Ow H0 h p wl r U->fX Cf h ys 0 U->U.length<=x.length+z.length+2->Wd H0 h p wl ys->Fw p H h->D.nx (σ.set i (some (.ref r))) h):
  dZ (dG yj (dG yj (aS i) (aS j)) (lr (al T (al J aI)))) (bg i) D σ H:=
 #[_,u,_,y,l,m,_,_,Z,Z,o.hl,O.hl,DV C IL,λc n=>G _ _ (.new n) (W.same (je n)) λV L X M k=>I L _ ((Fw.new n).trans k) M λe R Q A s=>#[bn,λd N=>#[c,d,_,_,Z,Z,ap ((k.trans s).b _ _ (W.B.ne n) jc) N,jc,by
  have:=aE
  show(x++z).length+2<=sizeLine
  rw[DM]
  omega,λr a=>q r _ _ (.new (A.same (je N)) a) (by
   have f:=(((Fw.new n).trans k).trans s).trans ((Fw.new (p:=p) (o:=HO.lst [V,e]) N).trans (Fw.new (o:=HO.lst ((x++z)++[V,e])) a))
   have g:=(Fw.new (p:=p) (o:=HO.lst [V,e]) N).trans (Fw.new (o:=HO.lst ((x++z)++[V,e])) a)
   exact Jn (Jn (E.mono f.t) (F.mono f.t)) (jS ((X.mono s.t).mono g.t) (zp (Q.mono g.t)))) (by rw[DM,DM];exact DN _) ((A.same (je N)).same (je a)) ((((Fw.new n).trans k).trans s).trans ((Fw.new N).trans (Fw.new a)))]]]
theorem YJ{K:Frag}{D:a9}(W:Wd H0 H p wl ys)(k:σ[3]?=some (some (.ref wl)))(l:ys.length=6)
  (q:∀a b c d e g,PT ys 0 g a->PT ys 0 g b->PT ys 0 g c->PT ys 0 g d->PT ys 0 g e->Wd H0 g p wl ys->D.nx (((((σ.set 4 (some a)).set 5 (some b)).set 6 (some c)).set 7 (some d)).set 8 (some e)) g):
  dZ (rF (vF K (BL (yl K) (aS 3) iT (ls (tC (V.int 5))))) 1 [] (bg 0) lh (bK (al (tC (V.str "var")) (al (aS 0) aI)))) (Dg K 5 (dO (bg 4) (dO (bg 5) (dO (bg 6) (dO (bg 7) (dO (bg 8) sN)))))) D σ H:=by
 have B:=aE
 refine#[_,k,_,Z,wl,_,Z,aC.of W.w,λs n=>?_]
 have E:aK (ys.map V.str) none (some 5)=(ys.take 5).map V.str:=by rw[show(5:Int)=((5:Nat):Int) from Z,Am (by rw[DK];omega),GU]
 have t:af H s (.lst (aK (ys.map V.str) none (some 5))) s=some (.lst ((ys.take 5).map V.str)):=by rw[E];exact jc
 have S:=je (o:=HO.lst (aK (ys.map V.str) none (some 5))) n
 generalize af H s (.lst (aK (ys.map V.str) none (some 5)))=A at t S
 refine#[s,Z,#[_,aC.of t],?_]
 refine Zm (K:=K) (a:=s) (xs:=(ys.take 5).map V.str) (by rw[DK,Ec];omega) (λi j g=>j.length=i/\(∀v∈j,PT ys 0 g v)/\ae A g) #[Z,(λ_ h=>absurd h Eb),ae.refl _] (λi j g h=>#[aC.of (h.2.2 _ _ t),Hh h.1]) (λi x j g C h=>?_) (λj F h L N=>?_)
 ·obtain⟨y,l,rfl⟩:=List.mem_map.mp (D5 C)
  exact#[_,Z,bn,λr u=>#[by rw[DM,h.1];rfl,qY (λa z=>aq _ _ _ (ae.tm (je u)) (h.2.1 a z)) #[r,Z,Z2 jc (EC l)],h.2.2.trans (je u)]]
 ·have e:=h.1
  rw[DK,Ec]at e
  obtain⟨a,b,c,d,f,rfl⟩:=Cp (show j.length=5 by omega)
  have m:=ae.tm (je (o:=HO.lst [a,b,c,d,f]) N)
  exact#[L,_,Z,aC.of jc,Z,_,_,Z,_,_,Z,_,_,Z,_,_,Z,_,_,Z,Z,q a b c d f _ (aq _ _ _ m (h.2.1 a IN)) (aq _ _ _ m (h.2.1 b IN)) (aq _ _ _ m (h.2.1 c IN)) (aq _ _ _ m (h.2.1 d IN)) (aq _ _ _ m (h.2.1 f IN)) (((W.same S).same h.2.2).same (je N))]
end
theorem CF:ak ["_law_box_here","_law_a","_law_b"] ["_law_box_here","_law_a","_law_b"] (aa CD):=bq
theorem AN(F:aJ K "_law_op" "_law_op" CD f t)(C:Cl P w K mg base 1 T u ["_law_box_here","_law_wide"] aN "_law_take"):aj P w K mg base ay 2 f t ["_law_box_here","_law_a","_law_b"] md:=by
 refine F.ok CF ?_ λv A O s H V Q E x h=>?_
 ·rintro _ _ _ _ ⟨p,a,b,y,k,rfl,_⟩
  rfl
 refine aR λR i=>?_
 obtain⟨p,a,b,y,k,rfl,B,z,D,q⟩:=h
 refine i ?_
 clear i
 refine#[_,(jg (jl (jh (ja jk (ja (jr jo (jC (ja jk (ja jk (ja jk (ja jk jb))))) (C.e x.m (ja (pv 0) (ja jf jb))) (λ_ _=>Z)) (ja (pv 1) (ja (pv 2) jb))))))),?_]
 refine#[nO,λl n=>#[_,Z,p,4,Z,B.upd_new n,IL,IL,λd G I J L j=>?_]]
 obtain⟨s,c,M⟩:=ug I J
 have g:ar p H G:=((ar.refl).upd_new n).trans (ar.of_eq j)
 refine#[l,_,_,_,Z,Z,aC.of (by rw[j l (B.ne n)];exact jc),c,_,Z,_,Z,nO,λr N=>?_]
 have S:=je (o:=HO.tup [.str "op",.str s,.ref a,.ref b]) N
 exact q r _ (wc jc M ((z.mono (g.tm B)).mono (ae.tm S)) ((D.mono (g.tm B)).mono (ae.tm S)) (ET _) (ET _)) (L.upd_new N) (g.trans (ar.of_same S))
theorem bH:ak ["_law_box_here","_law_f","_law_g","_law_w","_law_x","_law_i","_law_y","_law_spot_here","_law_body_here","_law_deeper","_law_test","_law_early","_law_last"] ["_law_box_here","_law_f","_law_g","_law_w"] (aa lQ):=bq
theorem oJ(F:aJ K "_law_inner" "_law_inner" lQ f fd)(I:Cl P w K mg base 1 fT b9 ["_law_box_here","_law_wide"] aN "_law_take")(cO:Cl P w K mg base 2 fO b' ["_law_box_here","_law_a","_law_b"] md "_law_op"):aj P w K mg base ay 3 f fd ["_law_box_here","_law_f","_law_g","_law_w"] (de 2):=by
 refine F.ok bH ?_ λc0 A o1 s H vs Q E l h=>?_
 ·rintro _ _ _ _ ⟨p,T,f0,g,Y,rfl,_⟩
  rfl
 refine aR λGq kq=>?_
 obtain⟨p,T,f0,g,Y,rfl,B,hw,h2,q⟩:=h
 refine kq ?_
 clear kq
 refine#[_,(jd (@uh _ _ _ _ _ _ _ _ (4) (5) (6) Z bH.nd Z Z Z (Or.inl Z) (Or.inl Z) (Or.inl Z) (jh (ja (jh (ja jk (ja (jr jo (pv 3) jf (λ_ _=>Z)) jb))) (ja (jh (ja jk (ja (jr jo (pv 3) jf (λ_ _=>Z)) jb))) (ja (jh (ja jk (ja (jr jo (pv 3) jf (λ_ _=>Z)) jb))) jb)))) (by first |exact .inl Z |exact .inr Z) (by first |exact .inl Z |exact .inr Z) (by first |exact .inl Z |exact .inr Z) IQ IQ) (jd (jx 7 bH.nd (jh (ja jk (ja jk (ja (jr jo (jC (ja (pv 4) (ja (pv 5) jb))) (I.e l.m (ja (pv 0) (ja jf jb))) (λ_ _=>Z)) (ja (jh (ja jk (ja (I.e l.m (ja (pv 0) (ja jf jb))) jb))) jb)))))) (jd (jx 8 bH.nd (jh (ja (jh (ja jk (ja (jr jo (pv 3) jf (λ_ _=>Z)) (ja (pv 7) jb)))) jb))) (jd (jW (jv (kL (I.e l.m (ja (pv 0) (ja jf jb)))) (jd (jx 7 bH.nd (jh (ja jk (ja jk (ja (pv 5) (ja (jh (ja jk (ja (ju jV jf (I.e l.m (ja (pv 0) (ja jf jb)))) jb))) jb)))))) (jg (jx 8 bH.nd (ju kh (pv 8) (jh (ja (jh (ja jk (ja (pv 7) (ja (cO.e l.m (ja (pv 0) (ja (pv 4) (ja (pv 6) jb)))) jb)))) jb)))))) jm)) (jd (jW (jv (kL (I.e l.m (ja (pv 0) (ja jf jb)))) (jd (jx 9 bH.nd (jh (ja jk (ja (jr jo (pv 3) jf (λ_ _=>Z)) (ja (pv 2) (ja (jh (ja (jh (ja jk (ja jk (ja (pv 5) (ja (jh (ja jk (ja jf jb))) jb))))) (ja (pv 6) jb))) jb)))))) (jg (jx 8 bH.nd (ju kh (pv 8) (jh (ja (jh (ja jk (ja (pv 5) (ja (jh (ja (pv 9) jb)) (ja (jh jb) jb))))) jb)))))) jm)) (jd (jx 10 bH.nd (jh (ja jk (ja (jr J9 jk (I.e l.m (ja (pv 0) (ja jf jb))) (λ_ _=>Z)) (ja (pv 6) (ja (jh (ja jk (ja (I.e l.m (ja (pv 0) (ja jf jb))) jb))) jb)))))) (jd (jx 11 bH.nd (jh (ja jk (ja (cO.e l.m (ja (pv 0) (ja (pv 4) (ja (pv 6) jb)))) jb)))) (jd (jx 12 bH.nd (jh (ja jk (ja (cO.e l.m (ja (pv 0) (ja (pv 6) (ja (pv 5) jb)))) jb)))) (jd (jx 8 bH.nd (ju kh (pv 8) (jh (ja (jh (ja jk (ja (pv 10) (ja (jh (ja (pv 11) jb)) (ja (jh jb) jb))))) (ja (pv 12) jb))))) (jg (jl (jh (ja (pv 1) (ja (jh (ja (jr jo (pv 3) jf (λ_ _=>Z)) (ja (jr jo (pv 3) jf (λ_ _=>Z)) jb))) (ja (pv 8) jb))))))))))))))),?_]
 have W0:Wd H H p T Y:=#[B,ar.refl,hw]
 refine ah λF1 f1=>uM W0 (J3 (kG Z IL IM)) (J3 (kG Z IL IM)) (J3 (kG Z IL IM)) λvx vi vy J xx X U W1 k1=>f1 _ _ ?_
 refine ah λF2 f2=>jP W1 (qc (n:=1) (qe zg) (Ym Z (jD Z aq xx) (jD Z aq X)) (kn (kM Z IL IL) IL) IL IL) λv2 H2 x2 W2 k2=>f2 _ _ ?_
 refine ah λF3 f3=>jP W2 (J7 (J5 (Cf:=[(g,2)]) (kG Z IL IM) (jD Z aq x2) IL)) λv3 H3 x3 W3 k3=>f3 _ _ ?_
 refine ah λF4 f4=>dq (λL u=>∃(o:Option V) (b:V),L=[some (V.ref p),some (V.str f0),some (V.str g),some (V.ref T),some (vx),some (vi),some (vy),o,some b,none,none,none,none]/\PB [(g,2)] Y 1 2 u b/\Wd H u p T Y/\ai H3 u) (λE4 _ f5=>qM W3 Z IL IL (λH6 W6 k6=>?_) (λH6 W6 k6=>?_)) λσ0 H5 h0=>?_
 ·clear f4
  have C:ai J H6:=((k2.t.trans k3.t).trans k6.t)
  refine ah λF7 f7=>jP W6 (qc (n:=1) (qe zg) (jD Z aq (aq _ _ _ C X)) (kn (QA (kM Z IL IL) IL) IL) IL IL) λv7 H7 x7 W7 k7=>f7 _ _ ?_
  have D:ai H3 H7:=(k6.t.trans k7.t)
  have G:ai J H7:=(C.trans k7.t)
  refine jP W7 (qG (jD Z dA (dA _ _ _ D x3)) (J7 (J6 (Cf:=[(g,2)]) (jD Z aq x7) (J4 Z (jD Z aq (aq _ _ _ G xx)) (jD Z aq (aq _ _ _ G U))) IL IL)) IL) λv8 H8 x8 W8 k8=>f5 _ _ ?_
  have m0:ai H3 H8:=(D.trans k8.t)
  exact#[_,_,Z,(PB.lift x8),W8,m0]
 ·clear f4
  exact f5 _ _ #[_,_,Z,(PB.more (PB.lift (dA _ _ _ k6.t x3)) IL),W6,k6.t]
 obtain⟨o5,b5,rfl,x5,W5,k5⟩:=h0
 refine f4 _ _ ?_
 clear f4
 refine ah λF9 f9=>dq (λL u=>∃(o:Option V) (b:V),L=[some (V.ref p),some (V.str f0),some (V.str g),some (V.ref T),some (vx),some (vi),some (vy),o5,some b,o,none,none,none]/\PB [(g,2)] Y 1 3 u b/\Wd H u p T Y/\ai H5 u) (λE9 _ f6=>qM W5 Z IL IL (λH0 W k=>?_) (λH0 W k=>?_)) λσ1 H4 h1=>?_
 ·clear f9
  have M:ai J H0:=(((k2.t.trans k3.t).trans k5).trans k.t)
  refine ah λF0 f'=>jP W (ZH (Cf:=[(g,2)]) (kG Z IL IM) (K2 Z) D3 (qc (n:=1) (qe Xd) (jD Z aq (aq _ _ _ M X)) (kn (Qu IL (by decide:(1:Int) < 2)) IL) IL IL) (jD Z aq (aq _ _ _ M U)) IL IL) λv1 H9 x0 W4 k0=>f' _ _ ?_
  have c:ai H5 H9:=(k.t.trans k0.t)
  have N:ai J H9:=(M.trans k0.t)
  refine jP W4 (qG (jD Z dA (dA _ _ _ c x5)) (J7 (vt (jD Z aq (aq _ _ _ N X)) (J7 (jD Z dH x0)) (vq (Cf:=[(g,2)]) (d:=0)) IL IL)) IL) λv4 a2 x1 W9 k9=>f6 _ _ ?_
  have O:ai H5 a2:=(c.trans k9.t)
  exact#[_,_,Z,x1,W9,O]
 ·clear f9
  exact f6 _ _ #[_,_,Z,(PB.more (dA _ _ _ k.t x5) IL),W,k.t]
 obtain⟨o2,c1,rfl,x4,a3,k'⟩:=h1
 refine f9 _ _ ?_
 clear f9
 have i:ai J H4:=(((k2.t.trans k3.t).trans k5).trans k')
 refine ah λF5 a4=>jP a3 (qc (n:=1) (Ax Z) (jD Z aq (aq _ _ _ i U)) (kn (kM Z IL IL) IL) IL IL) λv5 a0 x9 a5 k4=>a4 _ _ ?_
 have a:ai J a0:=(i.trans k4.t)
 refine ah λF6 a'=>jP a5 (QZ (Cf:=[(g,2)]) (J4 Z (jD Z aq (aq _ _ _ a xx)) (jD Z aq (aq _ _ _ a U))) IL) λv9 b0 x' b1 R=>a' _ _ ?_
 have j:ai J b0:=(a.trans R.t)
 refine ah λc2 b2=>jP b1 (QZ (Cf:=[(g,2)]) (J4 Z (jD Z aq (aq _ _ _ j U)) (jD Z aq (aq _ _ _ j X))) IL) λv' a1 b3 b4 S=>b2 _ _ ?_
 have y:ai H4 a1:=((k4.t.trans R.t).trans S.t)
 have z:ai a0 a1:=(R.t.trans S.t)
 refine ah λc3 b6=>jP b4 (qG (jD Z dA (dA _ _ _ y x4)) (Yn (vt (jD Z aq (aq _ _ _ z x9)) (J7 (jD Z dH (dH _ _ _ S.t x'))) (vq (Cf:=[(g,2)]) (d:=0)) IL IL) (Ev.up (jD Z dH b3) λ_ _=>bY.lift)) IL) λc4 c5 b7 b8 c6=>b6 _ _ ?_
 refine QB b8 (Yo (K2 Z) (vA (kG Z IL IM) (kG Z IL IM)) (jD Z dA b7) IL IM) λv u x W'=>?_
 obtain⟨r,rfl,x⟩:=x
 exact q r u x W'.B W'.K
theorem a7:ak ["_law_box_here","_law_f","_law_inner_here","_law_w","_law_n","_law_i","_law_s","_law_x","_law_y","_law_body_here","_law_spot_here","_law_start","_law_loop"] ["_law_box_here","_law_f","_law_inner_here","_law_w"] (aa gq):=bq
noncomputable def KU:Scope:=#[.function,[(".0",.local),("_law_one",.local)],false,false,[]]
theorem Yf:(["_law_one"]:List Str).Nodup:=by decide+kernel
theorem Yg:a8 ["_law_box_here","_law_f","_law_inner_here","_law_w","_law_n","_law_i","_law_s","_law_x","_law_y","_law_body_here","_law_spot_here","_law_start","_law_loop"] (aa gq) KU ["_law_one"] 1 []:=nR
theorem Zq(F:aJ K "_law_looped" "_law_looped" gq f fd)(C:Cl P w K mg base 1 fT d3 ["_law_box_here","_law_wide"] aN "_law_take")(cO:Cl P w K mg base 2 fO d4 ["_law_box_here","_law_a","_law_b"] md "_law_op")(mi:mg "int"=none)(m6:mg "tuple"=none):aj P w K mg base ay 3 f fd ["_law_box_here","_law_f","_law_inner_here","_law_w"] (de 1):=by
 refine F.ok a7 ?_ λd5 A b1 s H vs Q E l h=>?_
 ·rintro _ _ _ _ ⟨p,W,f0,g,Y,rfl,_⟩
  rfl
 refine aR λGq kq=>?_
 obtain⟨p,W,f0,g,Y,rfl,B,hw,h2,q⟩:=h
 refine kq ?_
 clear kq
 refine#[_,(jd (kN (@za _ _ _ _ _ _ _ (["_law_one"]) (1) ([]) _ _ _ _ Z (zT (jH kf (pv 3) ke (jE jf))) Yg (λ_ _ _ _ _=>(js (i:=0) Yf Z (Or.inl Z))) (λ_ _ _ _ _=>(@zn _)) (λ_ _ _ _ _=>(jh (ja jk (ja (pv 0) jb)))) (by intro _;rfl)) (@Yz _ _ _ _ (5) _ Z (jy (js (i:=4) a7.nd Z (Or.inl Z)) (jy (js (i:=5) a7.nd Z (Or.inl Z)) (jy (js (i:=6) a7.nd Z (Or.inl Z)) (jy (js (i:=7) a7.nd Z (Or.inl Z)) (jy (js (i:=8) a7.nd Z (Or.inl Z)) kc))))) IQ IQ)) (jd (jx 9 a7.nd (jC (ja (jh (ja jk (ja (jr jo (pv 3) jf (λ_ _=>Z)) (ja (jh (ja jk (ja jk (ja (pv 5) (ja (jh (ja jk (ja (C.e l.m (ja (pv 0) (ja jf jb))) jb))) jb))))) jb)))) jb))) (jd (jL (kK D2 Ee Ed jN (pv 9) (ja (jh (ja jk (ja (jr jo (pv 3) jf (λ_ _=>Z)) (ja (pv 2) (ja (jh (ja (pv 7) (ja (jr jo (jC (ja (pv 5) (ja (pv 6) jb))) (jz Jp Z mi boot_int (ja (qP qK (C.e l.m (ja (pv 0) (ja jf jb))) jf (aD _)) jb)) (λ_ _=>Z)) jb))) jb))))) jb))) (jd (jW (jv (kL (C.e l.m (ja (pv 0) (ja jf jb)))) (jd (jx 10 a7.nd (jh (ja jk (ja jk (ja (pv 5) (ja (jh (ja jk (ja (ju jV jf (C.e l.m (ja (pv 0) (ja jf jb)))) jb))) jb)))))) (jg (jL (kK D2 Ee Ed jN (pv 9) (ja (jh (ja jk (ja (pv 10) (ja (jr jo (jC (ja (pv 6) (ja (pv 8) (ja (pv 7) jb)))) (C.e l.m (ja (pv 0) (ja jf jb))) (λ_ _=>Z)) jb)))) jb))))) jm)) (jd (jL (kK D2 Ee Ed jN (pv 9) (ja (jh (ja jk (ja (jr jo (pv 3) jf (λ_ _=>Z)) (ja (cO.e l.m (ja (pv 0) (ja (jr jo (jC (ja (pv 6) (ja (pv 6) (ja (pv 7) jb)))) (C.e l.m (ja (pv 0) (ja jf jb))) (λ_ _=>Z)) (ja (pv 8) jb)))) jb)))) jb))) (jd (jW (jv (kL (C.e l.m (ja (pv 0) (ja jf jb)))) (jg (kN (jh (ja (jr jo (pv 9) jf (λ_ _=>Z)) (ja (jr jo (pv 9) jf (λ_ _=>Z)) jb))) (zi (n:=2) Z (jy (zS (pv 9) jf kU) (jy (zS (pv 9) jf kU) kc))))) jm)) (jd (jL (kK D2 Ee Ed jN (pv 9) (ja (jh (ja jk (ja (jr jo (pv 3) jf (λ_ _=>Z)) (ja (jh (ja jk (ja jk (ja (pv 5) (ja (jh (ja jk (ja jf jb))) jb))))) jb)))) jb))) (jd (jx 11 a7.nd (jh (ja (jh (ja jk (ja (jr jo (pv 3) jf (λ_ _=>Z)) (ja (jh (ja jk (ja (C.e l.m (ja (pv 0) (ja jf jb))) jb))) jb)))) (ja (jh (ja jk (ja (jr jo (pv 3) jf (λ_ _=>Z)) (ja (jh (ja jk (ja (C.e l.m (ja (pv 0) (ja jf jb))) jb))) jb)))) jb)))) (jd (jW (jv (kL (C.e l.m (ja (pv 0) (ja jf jb)))) (jd (jx 11 a7.nd (ju kh (pv 11) (jh (ja (jh (ja jk (ja (jr jo (pv 3) jf (λ_ _=>Z)) (ja (jh (ja jk (ja (ju jV jf (C.e l.m (ja (pv 0) (ja jf jb)))) jb))) jb)))) jb)))) (jg (jx 11 a7.nd (ju kh (pv 11) (jh (ja (jh (ja jk (ja (jr jo (pv 3) jf (λ_ _=>Z)) (ja (jh (ja jk (ja jk (ja (pv 4) (ja (jh (ja jk (ja jf jb))) jb))))) jb)))) jb)))))) jm)) (jd (jx 12 a7.nd (jh (ja jk (ja (jh (ja jk (ja jk (ja (pv 5) (ja (pv 4) jb))))) (ja (jz jB Z m6 EZ (ja (pv 9) jb)) jb))))) (jg (jl (jh (ja (pv 1) (ja (jh (ja (jr jo (pv 3) jf (λ_ _=>Z)) jb)) (ja (ju kh (pv 11) (jh (ja (pv 12) (ja (jh (ja jk (ja (jh (ja jk (ja jf jb))) (ja (pv 6) jb)))) (ja (jh (ja jk (ja (pv 6) jb))) jb))))) jb)))))))))))))))),?_]
 have W0:Wd H H p W Y:=#[B,ar.refl,hw]
 refine ah λF1 f1=>YJ W0 Z h2 λvn vi vs vx vy U xn xi xs xx xy W1=>f1 _ _ ?_
 refine ah λF2 f2=>AS W1 (J5 (Cf:=[(g,2)]) (kG Z IL IM) (qc (n:=1) (qe zg) (jD Z aq xi) (kn (kM Z IL IL) IL) IL IL) IL) λlb u2 H2 o2 x2 W2 k2=>f2 _ _ ?_
 refine ah λF3 f3=>Jo W2 Z o2 (show 1<=100 by decide) (ZH (Cf:=[(g,2)]) (kG Z IL IM) (K2 Z) D3 (jD Z aq (aq _ _ _ k2.t xx)) (Av Z IL IL (jD Z aq (aq _ _ _ k2.t xi)) (jD Z aq (aq _ _ _ k2.t xs))) IL IL) λu3 H3 x3 o3 W3 k3=>f3 _ _ ?_
 refine ah λF4 f4=>dq (λu c=>∃(o:Option V) (G:List V),u=[some (V.ref p),some (V.str f0),some (V.str g),some (V.ref W),some (vn),some (vi),some (vs),some (vx),some (vy),some (V.ref lb),o,none,none]/\Ow H c p W lb (u2::u3::G)/\fX [(g,2)] c Y 0 G/\G.length<=1/\Wd H c p W Y/\ai H3 c) (λE4 _ f5=>qM W3 Z IL IL (λH6 W6 k6=>?_) (λH6 W6 k6=>?_)) λσ2 H5 h3=>?_
 ·clear f4
  have o6:=o3.fw k6
  have R:ai U H6:=((k2.t.trans k3).trans k6.t)
  refine ah λF7 f7=>jP W6 (qc (n:=1) (qe zg) (jD Z aq (aq _ _ _ R xi)) (kn (QA (kM Z IL IL) IL) IL) IL IL) λv7 H7 x7 W7 k7=>f7 _ _ ?_
  have o7:=o6.fw k7
  have y:ai U H7:=(R.trans k7.t)
  refine Jo W7 Z o7 (show 2<=100 by decide) (J6 (Cf:=[(g,2)]) (jD Z aq x7) (vv Z (jD Z aq (aq _ _ _ y xs)) (jD Z aq (aq _ _ _ y xy)) (jD Z aq (aq _ _ _ y xx))) IL IL) λu8 H8 x8 o8 W8 k8=>f5 _ _ ?_
  have m5:ai H3 H8:=((k6.t.trans k7.t).trans k8)
  exact#[_,[u8],Z,o8,zp x8,DN 1,W8,m5]
 ·clear f4
  have o6:=o3.fw k6
  exact f5 _ _ #[_,[],Z,o6,Ke,IL,W6,k6.t]
 obtain⟨w5,G,rfl,o5,zx,zl,W5,k5⟩:=h3
 refine f4 _ _ ?_
 clear f4
 have M:ai U H5:=((k2.t.trans k3).trans k5)
 refine ah λF9 f9=>Jo W5 Z o5 (show G.length+1+1<=100 by omega) (Jw (Cf:=[(g,2)]) (kG Z IL IM) (J4 Z (vv Z (jD Z aq (aq _ _ _ M xs)) (jD Z aq (aq _ _ _ M xs)) (jD Z aq (aq _ _ _ M xx))) (jD Z aq (aq _ _ _ M xy))) IL) λu9 H9 x9 o9 W9 k9=>f9 _ _ ?_
 have zy:fX [(g,2)] H9 Y 0 (G++[u9]):=Jn (zx.mono k9) (zp x9)
 have zm:(G++[u9]).length<=2:=by rw[DM];exact Fd zl
 refine ah λF0 I=>dq (λu c=>∃(X:List V),u=[some (V.ref p),some (V.str f0),some (V.str g),some (V.ref W),some (vn),some (vi),some (vs),some (vx),some (vy),some (V.ref lb),w5,none,none]/\Ow H c p W lb X/\fX [(g,2)] c Y 0 X/\X.length<=4/\Wd H c p W Y/\ai H9 c) (λE1 _ S=>qM W9 Z IL IL (λH0 W4 k=>?_) (λH0 W4 k=>?_)) λσ0 b2 h0=>?_
 ·clear I
  have o1:=o9.fw k
  refine uT W4 Z o1 λH4 b3 b4 k0=>S _ _ ?_
  have m0:ai H3 H4:=(((k5.trans k9).trans k.t).trans k0)
  have m1:ai H2 H4:=((((k3.trans k5).trans k9).trans k.t).trans k0)
  have z:ai H9 H4:=(k.t.trans k0)
  exact#[_,Z,b3,jS ((dH _ _ _ m0 x3)) (jS ((dH _ _ _ m1 x2)) (zy.mono z)),(show(G++[u9]).length+1+1<=4 by omega),b4,z]
 ·clear I
  have o1:=o9.fw k
  have m2:ai H2 H0:=(((k3.trans k5).trans k9).trans k.t)
  have m3:ai H3 H0:=((k5.trans k9).trans k.t)
  exact S _ _ #[_,Z,o1,jS ((dH _ _ _ m2 x2)) (jS ((dH _ _ _ m3 x3)) (zy.mono k.t)),(show(G++[u9]).length+1+1<=4 by omega),W4,k.t]
 obtain⟨X,rfl,b5,ux,ul,b6,b7⟩:=h0
 refine I _ _ ?_
 clear I
 have d:ai U b2:=((M.trans k9).trans b7)
 refine ah λF5 f6=>Jo b6 Z b5 IM (Jw (Cf:=[(g,2)]) (kG Z IL IM) (qc (n:=1) (qe zg) (jD Z aq (aq _ _ _ d xi)) (kn (Qu IL (by decide:(1:Int) < 2)) IL) IL IL) IL) λu0 a1 x1 b8 b9 k1=>f6 _ _ ?_
 have b0:fX [(g,2)] a1 Y 0 (X++[u0]):=Jn (ux.mono k1) (zp x1)
 have bl:(X++[u0]).length<=5:=by rw[DM];exact Fd ul
 refine ah λF6 f'=>jP b9 (Yn (Jw (Cf:=[(g,2)]) (kG Z IL IM) (kn (kM Z IL IL) IL) IL) (Jw (Cf:=[(g,2)]) (kG Z IL IM) (kn (kM Z IL IL) IL) IL)) λv1 a2 x0 b' J=>f' _ _ ?_
 have o':=b8.fw J
 refine ah λd6 L=>dq (λu c=>∃(b:V),u=[some (V.ref p),some (V.str f0),some (V.str g),some (V.ref W),some (vn),some (vi),some (vs),some (vx),some (vy),some (V.ref lb),w5,some b,none]/\Ow H c p W lb (X++[u0])/\PB [(g,2)] Y 0 4 c b/\Wd H c p W Y/\ai a2 c) (λE2 _ T=>qM b' Z IL IL (λc0 a0 a=>?_) (λc0 a0 a=>?_)) λσ1 a3 h1=>?_
 ·clear L
  have o4:=o'.fw a
  refine ah λd7 c1=>jP a0 (qG (jD Z dA (dA _ _ _ a.t x0)) (J7 (J5 (Cf:=[(g,2)]) (kG Z IL IM) (kn (QA (kM Z IL IL) IL) IL) IL)) IL) λv2 c2 x4 c3 k4=>c1 _ _ ?_
  have c4:=o4.fw k4
  have m4:ai U c2:=((((d.trans k1).trans J.t).trans a.t).trans k4.t)
  refine jP c3 (qG (jD Z dA x4) (J7 (Jw (Cf:=[(g,2)]) (kG Z IL IM) (qc (n:=1) (qe uO) (jD Z aq (aq _ _ _ m4 xn)) (kn (Qu IL (by decide:(2:Int) < 3)) IL) IL IL) IL)) IL) λv3 c5 x5 c6 a4=>T _ _ ?_
  have c7:=c4.fw a4
  have N:ai a2 c5:=((a.t.trans k4.t).trans a4.t)
  exact#[_,Z,c7,x5,c6,N]
 ·clear L
  have o4:=o'.fw a
  exact T _ _ #[_,Z,o4,(PB.more (dA _ _ _ a.t x0) IL),a0,a.t]
 obtain⟨d8,rfl,a5,x',c9,a'⟩:=h1
 refine L _ _ ?_
 clear L
 have j:ai U a3:=(((d.trans k1).trans J.t).trans a')
 have O:ai a1 a3:=(J.t.trans a')
 refine ah λd9 c'=>jP c9 (vC (qc (n:=1) (qe QJ) (jD Z aq (aq _ _ _ j xi)) (jD Z aq (aq _ _ _ j xn)) IL IL) (vB (n:=5) Z a5 (b0.mono O) bl) IL IL) λv4 d0 d1 d2 k'=>c' _ _ ?_
 have d':=a5.fw k'
 have D:ai U d0:=(j.trans k'.t)
 refine QB d2 (Yo (K2 Z) (vw (kG Z IL IM)) (qG (Ev.up (jD Z dA (dA _ _ _ k'.t x')) λ_ _=>PB.lift) (At (jD Z dH d1) (Ev.up (J6 (Cf:=[(g,2)]) (kn (Qu IL (by decide:(30:Int) < 31)) IL) (jD Z aq (aq _ _ _ D xs)) IL IL) λ_ _=>bY.lift) (Ev.up (QZ (Cf:=[(g,2)]) (jD Z aq (aq _ _ _ D xs)) IL) λ_ _=>bY.lift)) IL) IL IM) λv c x W'=>?_
 obtain⟨r,rfl,x⟩:=x
 exact q r c x W'.B W'.K
theorem Cc(b:0<=d)(c:d < 2)(h:bY C H y 0 u)(a:bY C H y 0 v):fX C H y 0 (aK [u,v] none (some (1+d)))/\(aK [u,v] none (some (1+d))).length<=2:=by
 rcases(by omega:d=0∨d=1) with rfl |rfl
 ·exact#[zp h,by show 1<=2;decide]
 ·exact#[jS h (zp a),by show 2<=2;decide]
def P2(C:gG)(y:List Str)(H:Hp)(w:V):Prop:=∃a u v,w= .ref a/\H a=some (.tup [u,v])/\bY C H y 0 u/\bY C H y 0 v
theorem vI:ms (P2 C y):=λ_ _ _ m #[a,u,v,e,h,H,b]=>#[a,u,v,e,m _ _ h,H.mono m,b.mono m]
section
variable {Cf:gG}{ys:List Str}{H0 Hb:Hp}{p wl:Addr}{σ:L2.St}
theorem wH(h:Ev H0 p wl ys Hb σ T (λH v=>bY Cf H ys 0 v))(c:Ev H0 p wl ys Hb σ d (λH v=>bY Cf H ys 0 v)):Ev H0 p wl ys Hb σ (bK (al T (al d aI))) (P2 Cf ys):=λH Q m W q=>
 h H _ m W λo e X f a=>c e _ (m.trans a) f λs u g i b=>#[bn,λr n=>km (P:=P2 Cf ys) i (λV j x l k=>q V j x l ((a.trans b).trans k)) n λt z=>#[r,_,_,Z,z,(X.mono b.t).mono t,g.mono t]]
theorem wG(e:σ[i]?=some (some v))(E:σ[0]?=some (some (.ref p)))(h:P2 Cf ys Hb v):Ev H0 p wl ys Hb σ (BL AZ (aS i) iT (ls (dG (um λi j=>V.int (i+j)) (tC (.int 1)) (rX 2)))) (PB Cf ys 0 2):=λH Q m W q=>
 #[v,e,kM E IL IL H _ m W λw y #[d,b,D,c] f k=>#[1,d,Z,b,_,Z,by
  obtain⟨a,u,A,rfl,g,l,n⟩:=vI _ _ _ (m.trans k).t h
  have z:=Cc D c l n
  exact#[a,_,Z,g,λr o x s=>q _ o #[r,_,Z,x,z.1.mono (ae.tm s),z.2] (f.same s) (k.trans (.same s))]]]
end
theorem aM:ak ["_law_box_here","_law_f","_law_inner_here","_law_w","_law_n","_law_i","_law_s","_law_x","_law_y","_law_spot_here","_law_body_here","_law_kept","_law_some","_law_start","_law_loop"] ["_law_box_here","_law_f","_law_inner_here","_law_w"] (aa eZ):=bq
noncomputable def KG:Scope:=#[.function,[(".0",.local),("_law_one",.local)],false,false,[]]
theorem Xx:(["_law_one"]:List Str).Nodup:=by decide+kernel
theorem Xy:a8 ["_law_box_here","_law_f","_law_inner_here","_law_w","_law_n","_law_i","_law_s","_law_x","_law_y","_law_spot_here","_law_body_here","_law_kept","_law_some","_law_start","_law_loop"] (aa eZ) KG ["_law_one"] 1 []:=nR
theorem Yh(F:aJ K "_law_ticking" "_law_ticking" eZ f fd)(C:Cl P w K mg base 1 fT b5 ["_law_box_here","_law_wide"] aN "_law_take")(cO:Cl P w K mg base 2 fO b6 ["_law_box_here","_law_a","_law_b"] md "_law_op")(mi:mg "int"=none)(m1:mg "tuple"=none):aj P w K mg base ay 3 f fd ["_law_box_here","_law_f","_law_inner_here","_law_w"] (de 1):=by
 refine F.ok aM ?_ λc0 A o5 s H vs Q E c h=>?_
 ·rintro _ _ _ _ ⟨p,W,f0,g,ys,rfl,_⟩
  rfl
 refine aR λGq kq=>?_
 obtain⟨p,W,f0,g,ys,rfl,B,hw,h1,q⟩:=h
 refine kq ?_
 clear kq
 refine#[_,(jd (kN (@za _ _ _ _ _ _ _ (["_law_one"]) (1) ([]) _ _ _ _ Z (zT (jH kf (pv 3) ke (jE jf))) Xy (λ_ _ _ _ _=>(js (i:=0) Xx Z (Or.inl Z))) (λ_ _ _ _ _=>(@zn _)) (λ_ _ _ _ _=>(jh (ja jk (ja (pv 0) jb)))) (by intro _;rfl)) (@Yz _ _ _ _ (5) _ Z (jy (js (i:=4) aM.nd Z (Or.inl Z)) (jy (js (i:=5) aM.nd Z (Or.inl Z)) (jy (js (i:=6) aM.nd Z (Or.inl Z)) (jy (js (i:=7) aM.nd Z (Or.inl Z)) (jy (js (i:=8) aM.nd Z (Or.inl Z)) kc))))) IQ IQ)) (jd (jx 9 aM.nd (jh (ja jk (ja (ju jV jf (C.e c.m (ja (pv 0) (ja jf jb)))) jb)))) (jd (jx 10 aM.nd (jC (ja (jh (ja jk (ja (jr jo (pv 3) jf (λ_ _=>Z)) (ja (pv 9) jb)))) (ja (jh (ja jk (ja (jr jo (pv 3) jf (λ_ _=>Z)) (ja (jr jo (jC (ja (pv 5) (ja (jh (ja jk (ja (C.e c.m (ja (pv 0) (ja jf jb))) jb))) jb))) (C.e c.m (ja (pv 0) (ja jf jb))) (λ_ _=>Z)) jb)))) jb)))) (jd (jL (kK D2 Ee Ed jN (pv 10) (ja (jh (ja jk (ja (jr jo (pv 3) jf (λ_ _=>Z)) (ja (pv 2) (ja (jh (ja (jr jo (jC (ja (pv 7) (ja (jh (ja jk (ja jf jb))) jb))) (C.e c.m (ja (pv 0) (ja jf jb))) (λ_ _=>Z)) (ja (jr jo (jC (ja (pv 5) (ja (jh (ja jk (ja jf jb))) jb))) (C.e c.m (ja (pv 0) (ja jf jb))) (λ_ _=>Z)) jb))) jb))))) jb))) (jd (jW (jv (kL (C.e c.m (ja (pv 0) (ja jf jb)))) (jg (jL (kK D2 Ee Ed jN (pv 10) (ja (jh (ja jk (ja (jh (ja jk (ja jk (ja (pv 5) (ja (jh (ja jk (ja (C.e c.m (ja (pv 0) (ja jf jb))) jb))) jb))))) (ja (pv 8) jb)))) jb)))) jm)) (jd (jx 11 aM.nd (jh (ja jk (ja jf jb)))) (jd (jx 12 aM.nd (jC (ja (jh (ja jk (ja (jr jo (pv 3) jf (λ_ _=>Z)) (ja (pv 11) jb)))) (ja (jh (ja jk (ja (pv 11) (ja (cO.e c.m (ja (pv 0) (ja (pv 6) (ja (pv 8) jb)))) jb)))) jb)))) (jd (jW (jv (kL (C.e c.m (ja (pv 0) (ja jf jb)))) (jg (jx 12 aM.nd (jC (ja (jh (ja jk (ja (jr jo (pv 3) jf (λ_ _=>Z)) (ja (cO.e c.m (ja (pv 0) (ja (pv 6) (ja (pv 8) jb)))) jb)))) jb)))) jm)) (jd (jx 10 aM.nd (ju qg (ju qg (pv 10) (pv 12)) (jC (ja (jh (ja jk (ja (pv 9) (ja (jh (ja jk (ja jk (ja (pv 5) (ja (jh (ja jk (ja jf jb))) jb))))) jb)))) (ja (jh (ja jk (ja (jr jo (pv 3) jf (λ_ _=>Z)) (ja (jh (ja jk (ja jk (ja (pv 5) (ja (pv 4) jb))))) jb)))) jb))))) (jd (jx 13 aM.nd (jh (ja (jh (ja jk (ja (jr jo (pv 3) jf (λ_ _=>Z)) (ja (jh (ja jk (ja jf jb))) jb)))) (ja (jh (ja jk (ja (pv 9) (ja (jh (ja jk (ja (C.e c.m (ja (pv 0) (ja jf jb))) jb))) jb)))) jb)))) (jd (jx 14 aM.nd (jh (ja jk (ja (jh (ja jk (ja (jr jo (pv 3) jf (λ_ _=>Z)) jb))) (ja (jz jB Z m1 EZ (ja (pv 10) jb)) jb))))) (jg (jl (jh (ja (pv 1) (ja (jh (ja (jr jo (pv 3) jf (λ_ _=>Z)) jb)) (ja (ju kh (jH zU (pv 13) ke (jE (ju jV jf (C.e c.m (ja (pv 0) (ja jf jb)))))) (jh (ja (pv 14) (ja (jh (ja jk (ja (pv 6) jb))) jb)))) jb))))))))))))))))),?_]
 have W0:Wd H H p W ys:=#[B,ar.refl,hw]
 refine ah λF1 f1=>YJ W0 Z h1 λvn vi vs vx vy H1 xn xi xs xx xy W1=>f1 _ _ ?_
 refine ah λF2 f2=>jP W1 (kn (QA (kM Z IL IL) IL) IL) λv2 H2 x2 W2 k2=>f2 _ _ ?_
 refine ah λF3 f3=>AT W2 (J5 (Cf:=[(g,2)]) (kG Z IL IM) (jD Z aq x2) IL) (J5 (Cf:=[(g,2)]) (kG Z IL IM) (Ym Z (jD Z aq (aq _ _ _ k2.t xi)) (kn (kM Z IL IL) IL)) IL) λlb u3 w3 H3 o3 x3 y3 W3 k3=>f3 _ _ ?_
 have a:ai H1 H3:=(k2.t.trans k3.t)
 refine ah λF4 f4=>Jo W3 Z o3 (show 2<=100 by decide) (ZH (Cf:=[(g,2)]) (kG Z IL IM) (K2 Z) D3 (Ym Z (jD Z aq (aq _ _ _ a xx)) (kn (Qu IL (by decide:(3:Int) < 4)) IL)) (Ym Z (jD Z aq (aq _ _ _ a xi)) (kn (Qu IL (by decide:(2:Int) < 3)) IL)) IL IL) λu4 H4 x4 o4 W4 k4=>f4 _ _ ?_
 refine ah λF5 f5=>dq (λN d=>∃(us:List V),N=[some (V.ref p),some (V.str f0),some (V.str g),some (V.ref W),some (vn),some (vi),some (vs),some (vx),some (vy),some (v2),some (V.ref lb),none,none,none,none]/\Ow H d p W lb us/\fX [(g,2)] d ys 0 us/\us.length<=4/\Wd H d p W ys/\ai H4 d) (λE5 _ f6=>qM W4 Z IL IL (λH7 W7 u=>?_) (λH7 W7 u=>?_)) λσ1 H6 h2=>?_
 ·clear f5
  have o7:=o4.fw u
  have D:ai H1 H7:=((a.trans k4).trans u.t)
  refine Jo W7 Z o7 (show 3<=100 by decide) (J6 (Cf:=[(g,2)]) (qc (n:=1) (qe zg) (jD Z aq (aq _ _ _ D xi)) (kn (kM Z IL IL) IL) IL IL) (jD Z aq (aq _ _ _ D xy)) IL IL) λu8 H8 x8 o8 W8 k8=>f6 _ _ ?_
  have G:ai H4 H8:=(u.t.trans k8)
  have I:ai H3 H8:=((k4.trans u.t).trans k8)
  exact#[_,Z,o8,(jS ((dH _ _ _ I x3)) (jS ((dH _ _ _ I y3)) (jS ((dH _ _ _ G x4)) (jS (x8) Ke)))),(show 4<=4 by decide),W8,G]
 ·clear f5
  have o7:=o4.fw u
  have J:ai H3 H7:=(k4.trans u.t)
  exact f6 _ _ #[_,Z,o7,(jS ((dH _ _ _ J x3)) (jS ((dH _ _ _ J y3)) (jS ((dH _ _ _ u.t x4)) Ke))),(show 3<=4 by decide),W7,u.t]
 obtain⟨us,rfl,o6,ux,ul,W6,k6⟩:=h2
 refine f5 _ _ ?_
 clear f5
 refine ah λF9 f9=>jP W6 (kn (Qu IL (by decide:(30:Int) < 31)) IL) λv9 H9 x9 W9 k9=>f9 _ _ ?_
 have o9:=o6.fw k9
 have b:ai H1 H9:=(((a.trans k4).trans k6).trans k9.t)
 refine ah λF0 f7=>AT W9 (J5 (Cf:=[(g,2)]) (kG Z IL IM) (jD Z aq x9) IL) (J6 (Cf:=[(g,2)]) (jD Z aq x9) (J4 Z (jD Z aq (aq _ _ _ b xs)) (jD Z aq (aq _ _ _ b xy))) IL IL) λlm u0 w0 H0 z0 x0 y0 W5 j=>f7 _ _ ?_
 have o1:=o9.fw j
 refine ah λF6 y=>dq (λN d=>∃(m:Addr) (zs:List V),N=[some (V.ref p),some (V.str f0),some (V.str g),some (V.ref W),some (vn),some (vi),some (vs),some (vx),some (vy),some (v2),some (V.ref lb),some (v9),some (.ref m),none,none]/\Ow H d p W lb us/\Ow H d p W m zs/\fX [(g,2)] d ys 0 zs/\zs.length<=2/\Wd H d p W ys/\ai H0 d) (λE1 _ L=>qM W5 Z IL IL (λH5 O k=>?_) (λH5 O k=>?_)) λσ0 R h0=>?_
 ·clear y
  have S:=o1.fw k
  have z1:=z0.fw k
  have l:ai H1 H5:=((b.trans j.t).trans k.t)
  refine AS O (Jw (Cf:=[(g,2)]) (kG Z IL IM) (J4 Z (jD Z aq (aq _ _ _ l xs)) (jD Z aq (aq _ _ _ l xy))) IL) λlq u1 a0 z2 x1 a1 k1=>L _ _ ?_
  have o':=S.fw k1
  have z:ai H0 a0:=(k.t.trans k1.t)
  exact#[_,_,Z,o',z2,zp x1,(show 1<=2 by decide),a1,z]
 ·clear y
  have S:=o1.fw k
  have z1:=z0.fw k
  exact L _ _ #[_,_,Z,S,z1,(jS ((dH _ _ _ k.t x0)) (jS ((dH _ _ _ k.t y0)) Ke)),(show 2<=2 by decide),O,k.t]
 obtain⟨lm,zs,rfl,a2,z3,zx,zl,a3,T⟩:=h0
 refine y _ _ ?_
 clear y
 have o:ai H2 R:=(((((k3.t.trans k4).trans k6).trans k9.t).trans j.t).trans T)
 have M:ai H1 R:=((b.trans j.t).trans T)
 have U:ai H6 R:=((k9.t.trans j.t).trans T)
 refine ah λF7 f'=>wA a3 Z Z a2 z3 IM (ux.mono U) zx (J6 (Cf:=[(g,2)]) (jD Z aq (aq _ _ _ o x2)) (qc (n:=1) (qe zg) (jD Z aq (aq _ _ _ M xi)) (kn (Qu IL (by decide:(1:Int) < 2)) IL) IL IL) IL IL) (Jw (Cf:=[(g,2)]) (kG Z IL IM) (qc (n:=1) (qe QJ) (jD Z aq (aq _ _ _ M xi)) (jD Z aq (aq _ _ _ M xn)) IL IL) IL) λlc cs a4 a5 cx cl a' k5=>f' _ _ ?_
 have cm:cs.length<=8:=by omega
 have X:ai H2 a4:=(o.trans k5.t)
 refine ah λb7 b0=>jP a' (wH (Jw (Cf:=[(g,2)]) (kG Z IL IM) (kn (Qu IL (by decide:(1:Int) < 2)) IL) IL) (J6 (Cf:=[(g,2)]) (jD Z aq (aq _ _ _ X x2)) (kn (kM Z IL IL) IL) IL IL)) λv1 b8 x5 b1 Y=>b0 _ _ ?_
 have o2:=a5.fw Y
 refine ah λb9 b2=>jP b1 (vC (J3 (kG Z IL IM)) (vB (n:=8) Z o2 (cx.mono Y.t) cm) IL IL) λv3 b3 x7 b4 k0=>b2 _ _ ?_
 have b':=o2.fw k0
 have m0:ai H1 b3:=(((M.trans k5.t).trans Y.t).trans k0.t)
 refine QB b4 (Yo (K2 Z) (vw (kG Z IL IM)) (qG (Ev.up (wG Z Z (vI _ _ _ k0.t x5)) λ_ _=>PB.lift) (Yn (jD Z dH x7) (Ev.up (QZ (Cf:=[(g,2)]) (jD Z aq (aq _ _ _ m0 xs)) IL) λ_ _=>bY.lift)) IL) IL IM) λv d x W'=>?_
 obtain⟨r,rfl,x⟩:=x
 exact q r d x W'.B W'.K
theorem Cd{y:List Str}{lo:Nat}(h:y.length=14)(H:lo<=8):(aX y (some (lo:Int)) (some ((lo+6:Nat):Int))).length=6:=by
 unfold aX
 rw[HT.sIx_nat,HT.sIx_nat,Ec,Fp,h,Gc (DV H IL),Gc (Nat.add_le_add_right H 6),Nat.add_sub_cancel_left]
 exact Gc (Nat.le_sub_of_add_le (DV (Nat.add_le_add_left H 6) IL))
theorem Dp{k:Nat}(h:k < n):lN n (k:Int)=some k:=by unfold lN;rw[D0 IM,D0 IM,EA]
theorem nP.more(h:nP C n H r f)(k:∀y∈C,y∈D):nP D n H r f:=let #[d,b,a,c]:=h;#[d,b,#[a.1,kj k a.2],c]
theorem Ci(r:nP [(l,N),(m,j),(o,k)] N H a l)(s:nP [(l,N),(m,j),(o,k)] j H b m)(t:nP [(l,N),(m,j),(o,k)] k H c o)(p:N<=100/\j<=100/\k<=100):∃D,cf H D [.ref a,.ref b,.ref c]/\D.length=3/\((∀d∈D,lF d/\d.b.Cs [(l,N),(m,j),(o,k)])/\D.map Df.f=[l,m,o])/\lv H D [N,j,k]:=by
 obtain⟨d,u,v,O,y,z,E⟩:=r
 obtain⟨e,A,B,Q,C,F,G⟩:=s
 obtain⟨f,I,J,R,g3,L,M⟩:=t
 refine#[[d,e,f],#[_,_,Z,u,_,_,Z,A,_,_,Z,I,Z],Z,#[λx q=>?_,by rw[<- E,<- G,<- M];rfl],Z,λi x n h g=>?_]
 ·simp only[Fn,Eb,Gz]at q
  rcases q with rfl |rfl |rfl
  ·exact v
  ·exact B
  ·exact J
 ·match i,h,g with
  |0,h,g=>cases h;cases g;exact#[_,y,z,p.1]
  |1,h,g=>cases h;cases g;exact#[_,C,F,p.2.1]
  |2,h,g=>cases h;cases g;exact#[_,g3,L,p.2.2]
def l7:Sp:=λv H Q _=>∃(p:Addr),v=[.ref p]/\am H p/\∀(r:Addr) (d:List Df) (x:List V) (h:Hp),h r=some (.tup x)->cf h d x->d.length=3->∀n,sd d n->lv h d n->(∃r,n=1::r)->am h p->ar p H h->Q (.ref r) h
def Ad(L:List Str)(_:Hp)(v:V):Prop:=∃x,v= .str x/\x∈L
section
variable {ys:List Str}{H0 Hb:Hp}{p wl:Addr}{σ:L2.St}
theorem Aw{K:Frag}(e:σ[0]?=some (some (.ref p)))(r:Ev H0 p wl ys Hb σ t (sj a))(s:Ev H0 p wl ys Hb σ T (sj b))(u:Ev H0 p wl ys Hb σ x (sj c)):Ev H0 p wl ys Hb σ (dG (iq K) (lr (al t (al T (al x aI)))) (rX 3)) (Ad [a,b,c]):=λH Q m W q=>
 r H _ m W λy z (E:y= .str a) A k=>s z _ (m.trans k) A λC D (F:C= .str b) G f=>u D _ ((m.trans k).trans f) G λI R (J:I= .str c) h j=>#[dU,λl n=>kM e IL IL _ _ ((((m.trans k).trans f).trans j).trans (.new n)) (h.same (je n)) λv L #[d,M,S,U] N o=>by
  obtain⟨g,i,O⟩:∃g,du [V.str a,.str b,.str c] d=some (.str g)/\g∈[a,b,c]:=by
   rcases(by omega:d=0∨d=1∨d=2) with rfl |rfl |rfl
   ·exact#[a,Z,IN]
   ·exact#[b,Z,IN]
   ·exact#[c,Z,IN]
  rw[<- E,<- F,<- J]at i
  exact#[l,_,d,_,Z,M,aC.of (o.b _ _ (h.B.ne n) jc),i,q _ L #[g,Z,O] N (((k.trans f).trans j).trans ((Fw.new n).trans o))]]
theorem ZI{K:Frag}{lo:Nat}(e:σ[0]?=some (some (.ref p)))(E:σ[1]?=some (some (.ref wl)))(d:Ev H0 p wl ys Hb σ t (sj f))(l:Ev H0 p wl ys Hb σ T (Ad L))(h:ys.length=14)(o:lo<=8)(s:i=(lo:Int))(u:j=((lo+6:Nat):Int)):
  Ev H0 p wl ys Hb σ (dD (de n) [] E0 (al (aS 0) (al t (al T (al (BL (yl K) (aS 1) (ls (tC (.int i))) (ls (tC (.int j)))) aI))))) (PD (L.map λy=>(y,2)) n f):=λH Q m W q=>
 #[_,e,d H _ m W λv x (z:v= .str f) A k=>l x _ (m.trans k) A λV M #[g,D,c] b F=>#[_,E,_,Z,_,Z,wl,_,Z,aC.of b.w,λr N=>#[p,r,f,g,aX ys (some i) (some j),by rw[z,D];rfl,b.B.upd_new N,by rw[jc,zu],by rw[s,u];exact Cd h o,λa G X I C=>
  q _ G #[a,Z,X.more λy J=>by rw[List.mem_singleton.mp J];exact List.mem_map.mpr #[g,c,Z]] ((b.same (je N)).but I C) ((k.trans F).trans ((Fw.new N).trans (.but (b.B.upd_new N) C)))]]]
theorem qN{K:Frag}{k:Nat}(e:σ[j]?=some (some (.ref wl)))(a:i=(k:Int))(h:ys[k]?=some y):Ev H0 p wl ys Hb σ (dG (iq K) (aS j) (tC (.int i))) (sj y):=λH Q m W q=>
 #[_,e,wl,_,_,_,Z,Z,aC.of W.w,(by rw[a];exact jM (by rw[D4,h];rfl)),q _ H Z W .refl]
theorem Au{n1 n2 n3:Nat}(s:n1<=100/\n2<=100/\n3<=100)(u:Ev H0 p wl ys Hb σ T (PD [(e,n1),(h,n2),(i,n3)] n1 e))(y:Ev H0 p wl ys Hb σ z (PD [(e,n1),(h,n2),(i,n3)] n2 h))(A:Ev H0 p wl ys Hb σ B (PD [(e,n1),(h,n2),(i,n3)] n3 i)):Ev H0 p wl ys Hb σ (bK (al T (al z (al B aI)))) (λH v=>∃r D x,v= .ref r/\H r=some (.tup x)/\cf H D x/\D.length=3/\((∀d∈D,lF d/\d.b.Cs [(e,n1),(h,n2),(i,n3)])/\D.map Df.f=[e,h,i])/\lv H D [n1,n2,n3]):=λH Q m W q=>
 u H _ m W λV C X E k=>y C _ (m.trans k) E λF G I J j=>A G _ ((m.trans k).trans j) J λL H4 M N l=>#[dU,λr n=>q _ _ (by
  have t:=ae.tm (je (o:=HO.tup [V,F,L]) n)
  obtain⟨a,O,R⟩:=io _ _ _ t (io _ _ _ (j.trans l).t X)
  obtain⟨b,S,U⟩:=io _ _ _ t (io _ _ _ l.t I)
  obtain⟨c,Y,h3⟩:=io _ _ _ t M
  obtain⟨D,g⟩:=Ci R U h3 s
  exact#[r,D,_,Z,by rw[jc,O,S,Y],g]) (N.same (je n)) (((k.trans j).trans l).trans (.new n))]
end
theorem eJ:ak ["_law_box_here","_law_w","_law_body_here","_law_deeper","_law_further","_law_first"] ["_law_box_here"] (aa pf):=bq
theorem tw(F:aJ K "_law_busy" "_law_busy" pf f fd)(T:Cl P w K mg base 1 fT f0 ["_law_box_here","_law_wide"] aN "_law_take")(cO:Cl P w K mg base 2 fO f1 ["_law_box_here","_law_a","_law_b"] md "_law_op")(cA:Cl P w K mg base 2 fA f7 ["_law_box_here","_law_total"] fi "_law_names")(cL:Cl P w K mg base 3 fL f9 ["_law_box_here","_law_f","_law_inner_here","_law_w"] (de 1) "_law_looped")(cK:Cl P w K mg base 3 fK f' ["_law_box_here","_law_f","_law_inner_here","_law_w"] (de 1) "_law_ticking")(cI:Cl P w K mg base 3 fI a0 ["_law_box_here","_law_f","_law_g","_law_w"] (de 2) "_law_inner"):aj P w K mg base ay 4 f fd ["_law_box_here"] l7:=by
 refine F.ok eJ ?_ λc0 A U s H vs Q E i h=>?_
 ·rintro _ _ _ _ ⟨p,rfl,_⟩
  rfl
 refine aR λGq kq=>?_
 obtain⟨p,rfl,B,q⟩:=h
 refine kq ?_
 clear kq
 refine#[_,(jd (jx 1 eJ.nd (cA.e i.m (ja (pv 0) (ja jf jb)))) (jd (jW (jv (kL (T.e i.m (ja (pv 0) (ja jf jb)))) (jg (kN (jr jo (pv 1) jf (λ_ _=>Z)) (zS (pv 1) jf kU))) jm)) (jd (jx 2 eJ.nd (jh (ja (jh (ja jk (ja (jr jo (pv 1) jf (λ_ _=>Z)) (ja (jh (ja jk (ja (jr jo (pv 1) jf (λ_ _=>Z)) jb))) jb)))) (ja (jh (ja jk (ja (cO.e i.m (ja (pv 0) (ja (jh (ja jk (ja (jr jo (pv 1) jf (λ_ _=>Z)) jb))) (ja (jh (ja jk (ja (jr jo (pv 1) jf (λ_ _=>Z)) jb))) jb)))) jb))) jb)))) (jd (jx 3 eJ.nd (jh (ja (jr jo (pv 1) jf (λ_ _=>Z)) (ja (jh (ja (jr jo (pv 1) jf (λ_ _=>Z)) (ja (jr jo (pv 1) jf (λ_ _=>Z)) jb))) (ja (pv 2) jb))))) (jd (jx 4 eJ.nd (jr jo (jC (ja (jr jo (pv 1) jf (λ_ _=>Z)) (ja (jr jo (pv 1) jf (λ_ _=>Z)) (ja (jr jo (pv 1) jf (λ_ _=>Z)) jb)))) (T.e i.m (ja (pv 0) (ja jf jb))) (λ_ _=>Z))) (jd (jx 5 eJ.nd (cL.e i.m (ja (pv 0) (ja (jr jo (pv 1) jf (λ_ _=>Z)) (ja (jr jo (pv 1) jf (λ_ _=>Z)) (ja (jH kf (pv 1) (jE jf) (jE jf)) jb)))))) (jd (jW (jv (kL (T.e i.m (ja (pv 0) (ja jf jb)))) (jg (jx 5 eJ.nd (cK.e i.m (ja (pv 0) (ja (jr jo (pv 1) jf (λ_ _=>Z)) (ja (jr jo (pv 1) jf (λ_ _=>Z)) (ja (jH kf (pv 1) (jE jf) (jE jf)) jb))))))) jm)) (jg (jl (jh (ja (pv 5) (ja (cI.e i.m (ja (pv 0) (ja (jr jo (pv 1) jf (λ_ _=>Z)) (ja (pv 4) (ja (jH kf (pv 1) (jE jf) (jE jf)) jb))))) (ja (pv 3) jb))))))))))))),?_]
 refine ah λFa o=>#[_,Z,p,14,Z,B,IL,IL,λj ys Ha X u c d Ba ka=>o _ _ ?_]
 clear o
 have wp:j≠p:=zo Ba u
 refine ah λFa o=>dq (λn g=>∃Y:List Str,n=[some (V.ref p),some (V.ref j),none,none,none,none]/\g j=some (.lst (Y.map V.str))/\(Y.length=14/\(Y.take 3).Nodup/\∀y∈Y.take 3,y.length<=20)/\am g p/\ar p H g) (λE0 _ fm=>qM (W:=#[Ba,ka,u]) Z IL IL (λHb l kb=>?_) (λHb l kb=>fm _ _ #[_,Z,l.w,#[IM,d.2.sublist (FD _ _),λy hy=>d.1 y (EC hy)],l.B,l.K])) λσ1 H0 h3=>?_
 ·clear o
  obtain⟨v1,h6,z⟩:=Jk (ys:=ys) (k:=1) IL IM
  refine#[_,Z,j,_,_,_,Z,Z,aC.of l.w,z,_,Z,j,_,8,8,Z,Z,l.w,Dp (k:=8) (by rw[DK];omega),fm _ _ #[ys.set 8 v1,Z,?_,#[by rw[Hr];omega,by rw[List.take_set_of_le IL];exact#[d.2.sublist (FD _ _),λy hy=>d.1 y (EC hy)]],l.B.eq (jj (Eg wp)),l.K.upd_own X]]
  rw[jc,List.map_set]
 obtain⟨ys,rfl,h4,⟨c,C,D⟩,B1,k1⟩:=h3
 obtain⟨y0,h0⟩:∃y,ys[0]?=some y:=#[_,DJ (by omega:0 < ys.length)]
 obtain⟨G,I⟩:∃y,ys[1]?=some y:=#[_,DJ (by omega:1 < ys.length)]
 obtain⟨y2,N⟩:∃y,ys[2]?=some y:=#[_,DJ (by omega:2 < ys.length)]
 have e3:ys.take 3=[y0,G,y2]:=by rw[FT,FT,FT,h0,I,N];rfl
 rw[e3]at C D
 refine o _ _ ?_
 clear o
 have W1:Wd H H0 p j ys:=#[B1,k1,h4]
 generalize H0=H1 at W1
 refine ah λF2 f2=>jP W1 (Yn (J5 (Cf:=[]) (kG Z IL IM) (J3 (kG Z IL IM)) IL) (QZ (Cf:=[]) (J4 Z (J3 (kG Z IL IM)) (J3 (kG Z IL IM))) IL)) λv2 H2 x2 W2 k2=>f2 _ _ ?_
 refine ah λF3 f3=>jP W2 (Yo (Cf:=[]) (qN (k:=2) Z Z N) (vA (kG Z IL IM) (kG Z IL IM)) (Ev.up (jD Z dA x2) λ_ _=>PB.lift) IL IM) λv3 H3 x3 W3 k3=>f3 _ _ ?_
 refine ah λF4 f4=>jP W3 (Aw Z (qN (k:=1) Z Z I) (qN (k:=2) Z Z N) (qN (k:=2) Z Z N)) λv4 H4 x4 W4 k4=>f4 _ _ ?_
 refine ah λF5 f5=>jP W4 (ZI (lo:=6) Z Z (qN (k:=0) Z Z h0) (Ev.up (R:=Ad [G]) (qN (k:=1) Z Z I) λ_ _ e=>#[_,e,D3]) c IL Z Z) λv5 H5 x5 W5 k5=>f5 _ _ ?_
 refine ah λF6 O=>dq (λn g=>∃(b:V),n=[some (V.ref p),some (V.ref j),some (v2),some (v3),some (v4),some b]/\PD [(G,2)] 1 y0 g b/\Wd H g p j ys/\ai H5 g) (λE6 _ J=>qM W5 Z IL IL (λH8 W8 S=>?_) (λH8 W8 S=>?_)) λσ2 H7 h5=>?_
 ·clear O
  refine jP W8 (ZI (lo:=6) Z Z (qN (k:=0) Z Z h0) (Ev.up (R:=Ad [G]) (qN (k:=1) Z Z I) λ_ _ e=>#[_,e,D3]) c IL Z Z) λv9 H9 x9 W9 k9=>J _ _ ?_
  have M:ai H5 H9:=(S.t.trans k9.t)
  exact#[_,Z,x9,W9,M]
 ·clear O
  exact J _ _ #[_,Z,(io _ _ _ S.t x5),W8,S.t]
 obtain⟨b7,rfl,x7,W7,k7⟩:=h5
 refine O _ _ ?_
 clear O
 have L:ai H3 H7:=((k4.t.trans k5.t).trans k7)
 refine QB W7 (Au (n1:=1) (n2:=2) (n3:=2) #[IL,IL,IL] (Ev.up (jD Z io x7) (λ_ _ #[a,e,h]=>#[a,e,h.more IN])) (Ev.up (ZI (lo:=7) Z Z (qN (k:=1) Z Z I) (jD (P:=Ad [G,y2,y2]) Z (λ_ _ _ _ h=>h) x4) c IL Z Z) (λ_ _ #[a,e,h]=>#[a,e,h.more IN])) (Ev.up (jD Z io (io _ _ _ L x3)) (λ_ _ #[a,e,h]=>#[a,e,h.more IN]))) λv g x W'=>?_
 obtain⟨r,ds,xs,rfl,g0,g1,g2,g3,g4⟩:=x
 exact q r ds xs g g0 g1 g2 [1,2,2] #[by rw[g3.2];exact g3.1,by rw[g3.2];exact#[C,D]] g4 #[_,Z] W'.B W'.K
noncomputable abbrev mG:Stmt:=bE 67
theorem yN(h:0<=d)(H:d < 4):∃m:Int,du [V.int 3,.int 3,.int 3,.int 8] d=some (.int m)/\3<=m/\m<=8:=by
 rcases(by omega:d=0∨d=1∨d=2∨d=3) with rfl |rfl |rfl |rfl
 ·exact#[3,Z,IL,IL]
 ·exact#[3,Z,IL,IL]
 ·exact#[3,Z,IL,IL]
 ·exact#[8,Z,IL,IL]
theorem wF(h:cf H D v)(f:0<=k)(g:k < (v.length:Int)):∃d,du v k=some (.ref d.p)/\d∈D/\vf H d (.ref d.p):=by
 have a:k.toNat < v.length:=by omega
 have E:k=((k.toNat:Nat):Int):=by omega
 obtain⟨d,c,b⟩:=h.at k.toNat _ (DJ a)
 have e:v[k.toNat]= .ref d.p:=b.elim λ_ z=>z.1
 refine#[d,?_,D5 c,by rw[<- e];exact b]
 rw[E]
 exact jM (by rw[<- e];exact DJ a)
def y7(H:Hp)(D:List Df)(v a:V):Prop:=∃(d:Df) (p:List Str) (t:Addr) (I:List Int),d∈D/\v= .str d.f/\H d.pa=some (.tup (p.map V.str))/\a= .ref t/\H t=some (.tup (I.map V.int))/\I.length=p.length/\I.length<=100/\∀i∈I,0<=i/\i < 1000000000000000000
def l8:Sp:=λb H Q _=>∃(p:Addr),b=[.ref p]/\am H p/\∀(t r:Addr) (v a:V) (d:List Df) (x:List V) (h:Hp),h t=some (.tup [.ref r,v,a])->h r=some (.tup x)->cf h d x->1<=d.length->d.length<=8->∀n,sd d n->lv h d n->y7 h d v a->am h p->ar p H h->Q (.ref t) h
theorem eK:ak ["_law_box_here","_law_program","_law_total","_law_f","_law_params","_law_body_here"] ["_law_box_here"] (aa mG):=bq
noncomputable def Xz:Scope:=#[.function,[(".0",.local),("_law_one",.local),("_law_number",.globalImplicit),("_law_box_here",.free)],false,false,[]]
theorem oB:(["_law_one","_law_box_here"]:List Str).Nodup:=by decide+kernel
theorem nY:a8 ["_law_box_here","_law_program","_law_total","_law_f","_law_params","_law_body_here"] (aa mG) Xz ["_law_one","_law_box_here"] 1 [0]:=nR
theorem tE(F:aJ K "_law_case" "_law_case" mG f fd)(M:Cl P w K mg base 1 fT f0 ["_law_box_here","_law_wide"] aN "_law_take")(cN:Cl P w K mg base 2 fN f3 ["_law_box_here"] fj "_law_number")(cY:Cl P w K mg base 4 fY f4 ["_law_box_here"] l7 "_law_busy")(cZ:Cl P w K mg base 22 fZ f5 ["_law_box_here","_law_total","_law_room"] rf "_law_any")(ml:mg "len"=none)(m0:mg "tuple"=none):aj P w K mg base ay 23 f fd ["_law_box_here"] l8:=by
 refine F.ok eK ?_ λc0 A o1 s H vs Q E y h=>?_
 ·rintro _ _ _ _ ⟨p,rfl,_⟩
  rfl
 refine aR λGq kq=>?_
 obtain⟨p,rfl,B,q⟩:=h
 refine kq ?_
 clear kq
 refine#[_,(jd (jv (jA qL (M.e y.m (ja (pv 0) (ja jf jb))) jf (aD _)) (jd (jx 1 eK.nd (cY.e y.m (ja (pv 0) jb))) (jg (jl (jh (ja (pv 1) (ja (jw (jr kI (pv 1) jf (λ_ _=>Z))) (ja (jh (ja (M.e y.m (ja (pv 0) (ja jf jb))) jb)) jb))))))) jm) (jd (jx 2 eK.nd (jr jo (jC (ja jf (ja jf (ja jf (ja jf jb))))) (M.e y.m (ja (pv 0) (ja jf jb))) (λ_ _=>Z))) (jd (jx 1 eK.nd (cZ.e y.m (ja (pv 0) (ja (ju jV jf (M.e y.m (ja (pv 0) (ja (pv 2) jb)))) (ja jf jb))))) (jd (kN (jr kI (pv 1) (M.e y.m (ja (pv 0) (ja (jO jK Z ml EX (ja (pv 1) jb)) jb))) (λ_ _=>Z)) (zi (n:=3) Z (jy (js (i:=3) eK.nd Z (Or.inl Z)) (jy (js (i:=4) eK.nd Z (Or.inl Z)) (jy (js (i:=5) eK.nd Z (Or.inl Z)) kc))))) (jg (jl (jh (ja (pv 1) (ja (pv 3) (ja (jz jB Z m0 EZ (ja (@za _ _ _ _ _ _ _ (["_law_one","_law_box_here"]) (1) ([0]) _ _ _ _ Z (zI (pv 4)) nY (λ_ _ _ _ _=>(js (i:=0) oB Z (Or.inl Z))) (λ_ _ _ _ _=>(@zn _)) (λ_ _ _ _ _=>(cN.e y.m (ja (pv 1) jb))) (by intro _;rfl)) jb)) jb)))))))))),?_]
 have b0:=aE
 refine ah λF1 a=>mv λG1 g1=>#[_,Z,p,3,Z,B,IL,IL,λd1 H1 d' a0 B1 e1=>#[_,_,Z,Z,_,Z,g1 _ _ ?_]]
 clear g1
 have k1:ar p H H1:=ar.of_eq e1
 refine bu (λc=>?_) (λc=>a _ _ ?_)
 ·clear a
  refine ah λF2 f2=>#[_,Z,p,Z,B1,λr ds xs H2 N C hl ns D b O B2 k2=>f2 _ _ ?_]
  clear f2
  have ln:=C.len
  obtain⟨nr,rfl⟩:=O
  cases ds with
  |nil=>cases hl
  |cons d r0=>
  obtain⟨p0,R,S,_⟩:=b.2 0 d 1 Z Z
  have h0:=C
  obtain⟨u0,rr,rfl,⟨bs,rfl,hp,_⟩,_⟩:=h0
  have g:du (V.ref d.p::rr) 0=some (.ref d.p):=h9
  refine#[_,Z,jp N g #[d.p,_,_,_,Z,Z,aA.of hp,h9,_,Z,p,6,Z,B2,IL,IL,λd3 H3 d0 d4 B3 e3=>?_]]
  have c3:ar p H2 H3:=ar.of_eq e3
  refine#[lg,λu nu=>#[dU,λt U=>?_]]
  have s4:ae H3 (af (af H3 u (.tup [.int d3])) t (.tup [.ref r,.str d.f,.ref u])):=(je nu).trans (je U)
  have T:=(c3.tm B2).trans (ae.tm s4)
  exact q t r _ _ _ _ _ jc (T _ _ N) (C.mono T) IM IM _ D (b.mono T) #[d,p0,u,[d3],D3,Z,T _ _ R,Z,ap jc U,by rw[S];rfl,(by show 1<=100;decide),λi hi=>by rw[List.mem_singleton.mp hi];omega] (B3.same s4) ((k1.trans k2).trans (c3.trans (ar.of_same s4)))
 clear a
 refine ah λF1 a=>#[nO,λl W=>#[_,Z,p,4,Z,B1.upd_new W,IL,IL,λd2 H2 d6 d7 B2 e2=>?_]]
 have k2:ar p H1 H2:=((ar.refl).upd_new W).trans (ar.of_eq e2)
 obtain⟨m,g,m3,m8⟩:=yN d6 d7
 refine#[l,_,_,_,Z,Z,aC.of (by rw[e2 l (B1.ne W)];exact jc),g,a _ _ ?_]
 clear a
 refine ah λF1 a=>#[_,Z,_,Z,_,Z,p,m,Z,B2,IM,IM,λd3 H3 d0 d4 B3 e3=>#[_,_,Z,Z,p,1+d3,12,Z,B3,IM,IM,IL,IL,λr ds xs H4 G C hl ns D b B4 k4=>a _ _ ?_]]
 clear a
 have ln:=C.len
 have K4:ar p H H4:=(k1.trans k2).trans ((ar.of_eq e3).trans k4)
 refine ah λF1 a=>#[_,Z,_,Z,_,Z,r,_,Z,.inr (aA.of G),p,_,Z,B4,IM,IM,λd5 H5 d8 d9 B5 e5=>?_]
 have c5:ar p H4 H5:=ar.of_eq e5
 have o:=c5.tm B4
 obtain⟨d,g,hd,bs,e,hp,_⟩:=wF (C.mono o) d8 d9
 refine#[r,_,_,_,Z,Z,aA.of (o _ _ G),g,d.p,_,Z,aA.of hp,Z,_,_,Z,_,_,Z,_,_,Z,Z,a _ _ ?_]
 clear a
 obtain⟨pv,X,h4⟩:=b.v d hd
 have z:=o _ _ X
 refine#[_,Z,_,Z,_,Z,d.pa,Z,#[_,aA.of z],?_]
 refine qr (K:=K) (xs:=pv.map V.str) (by rw[DK];omega) (λi L J=>(∃I:List Int,L=I.map V.int/\I.length=i/\∀j∈I,0<=j/\j < 1000000000000000000)/\am J p/\ar p H5 J) #[#[[],Z,Z,(λ_ h=>nomatch h)],B5,ar.refl] (λi L J k=>?_) (λi x L J hx k=>?_) (λL J k l W=>?_)
 ·exact#[aA.of (k.2.2.tm B5 _ _ z),let #[I,e,l,_]:=k.1;by rw[e,DK,l];exact DN _]
 ·exact#[_,Z,p,Z,k.2.1,λe H7 e0 e1 B7 e7=>#[let #[I,h1,l,h2]:=k.1;#[I++[e],by rw[h1,Ef];rfl,by rw[DM,l];rfl,qY h2 #[e0,e1]],B7,k.2.2.trans (ar.of_eq e7)]]
 ·refine#[l,_,Z,.inl #[aC.of jc,λl2 n0=>#[dU,λt U=>?_]]]
  have s7:ae J (af (af (af J l (.lst L)) l2 (.tup L)) t (.tup [.ref r,.str d.f,.ref l2])):=((je W).trans (je n0)).trans (je U)
  have T:=o.trans ((k.2.2.tm B5).trans (ae.tm s7))
  obtain⟨I,hz,Y,h3⟩:=k.1
  rw[DK]at Y
  exact q t r _ _ ds xs _ jc (T _ _ G) (C.mono T) IM IM ns D (b.mono T) #[d,pv,l2,I,hd,Z,T _ _ X,Z,by rw[<- hz];exact ap jc U,Y,IM,h3] (k.2.1.same s7) (K4.trans (c5.trans (k.2.2.trans (ar.of_same s7))))
noncomputable abbrev iA:Stmt:=bE 12
noncomputable abbrev iH:Stmt:=bE 13
abbrev ba:=List (aV×V)
def f8(x:Int):Prop:=0<=x/\x < 1000000000000000000
def GT(k:ba):Prop:=∀p∈k,∃i,p.2= .int i/\f8 i
theorem GT.nil:GT []:=λ_ h=>absurd h Eb
theorem GT.put(h:GT a)(k:aV)(H:f8 i):GT (aH a k (.int i)):=by
 intro p hp
 unfold aH at hp
 split at hp
 ·obtain⟨q,b,rfl⟩:=List.mem_map.mp hp
  by_cases e:q.1=k
  ·rw[D0 e];exact#[i,Z,H]
  ·rw[D1 e];exact h q b
 ·rcases List.mem_append.mp hp with hp |hp
  ·exact h p hp
  ·rw[List.mem_singleton.mp hp];exact#[i,Z,H]
theorem GT.val(h:GT a)(e:be a k=some v):∃i,v= .int i/\f8 i:=by
 unfold be at e
 obtain⟨p,H,rfl⟩:=Option.map_eq_some_iff.mp e
 exact h p (Iy H)
noncomputable def look(a:ba)(k:aV)(z:Int):Int:=match be a k with
 |some (.int i)=>i
 |_=>z
theorem Kk(h:GT a)(k:aV)(z:Int):(be a k).getD (.int z)= .int (look a k z):=by
 unfold look
 cases e:be a k with
 |none=>rfl
 |some v=>obtain⟨i,rfl,_⟩:=h.val e;rfl
theorem Zr(h:GT a)(e:be a k=some v)(z:Int):v= .int (look a k z):=by
 unfold look
 obtain⟨i,rfl,_⟩:=h.val e
 rw[e]
theorem Qs(e:be a k=none)(z:Int):look a k z=z:=by
 unfold look
 rw[e]
theorem JR(h:GT a)(H:f8 z):f8 (look a k z):=by
 unfold look
 cases e:be a k with
 |none=>exact H
 |some v=>obtain⟨i,rfl,b⟩:=h.val e;exact b
theorem JS:f8 0:=#[IL,IL]
noncomputable def jn(i:Nat)(x y:Int):Int:=match i with
 |0=>(x+y) % 1000000000000000000
 |1=>(x - y) % 1000000000000000000
 |2=>x*y % 1000000000000000000
 |3=>if y=0 then 0 else x / y
 |4=>if x < y then 1 else 0
 |_=>if x=y then 1 else 0
noncomputable def Tm.ev(k:ba):Tm->Int
 | .num n=>n
 | .var x=>look k (.inr x) 0
 | .op i a b=>jn i (a.ev k) (b.ev k)
theorem Az(H:f8 x)(c:f8 y):f8 (jn i x y):=by
 have a:(1000000000000000000:Int)≠0:=by decide
 have b:(0:Int) < 1000000000000000000:=by decide
 match i with
 |0=>exact#[ED _ a,Es _ b]
 |1=>exact#[ED _ a,Es _ b]
 |2=>exact#[ED _ a,Es _ b]
 |3=>
  show f8 (if y=0 then 0 else x / y)
  by_cases h:y=0
  ·rw[D0 h];exact#[IL,IL]
  ·rw[D1 h]
   have e:=c.1
   have d:0 < y:=by omega
   refine#[Int.ediv_nonneg H.1 IM,Int.lt_of_le_of_lt ?_ H.2]
   exact Int.ediv_le_self _ H.1
 |4=>
  show f8 (if x < y then 1 else 0)
  split<;>exact#[IL,IL]
 |n+5=>
  show f8 (if x=y then 1 else 0)
  split<;>exact#[IL,IL]
theorem Jx(g:GT k):∀{t:Tm},t.Good y->f8 (t.ev k)
 | .num _,h=>h
 | .var x,_=>JR g JS
 | .op _ _ _,h=>Az (Jx g h.2.1) (Jx g h.2.2)
def iO:Sp:=λv H Q _=>∃(i:Nat) (x y:Int),v=[.str (CH i),.int x,.int y]/\i < 6/\f8 x/\f8 y/\Q (.int (jn i x y)) H
def C8(K:Frag)(H:Hp)(T:Tm)(a:Addr):Prop:=aW H T a∨(T= .num 0/\aA K H a [.str "num",.int 0])
def cn(K:Frag)(n:Nat):Sp:=λv H Q _=>∃(a d:Addr) (T:Tm) (y:List Str) (k:ba),v=[.ref a,.ref d]/\C8 K H T a/\T.depth < n/\T.Good y/\H d=some (.dK k)/\GT k/\Q (.int (T.ev k)) H
theorem pO:ak ["sign","left","right"] ["sign","left","right"] (aa iA):=bq
theorem Zs(F:aJ K "joined" "joined" iA f b)(m:mg "TOP"=some (.int 1000000000000000000 t)):aj P w K mg base ay 1 f b ["sign","left","right"] iO:=by
 refine F.ok pO (λd H Q E h=>?_) (λe A o s H d Q E r h=>?_)
 ·obtain⟨i,x,y,rfl,_⟩:=h
  rfl
 obtain⟨i,x,y,rfl,u,g,j,q⟩:=h
 refine#[_,(jd (jv (jX (pv 0)) (jg (jl (ju kX (ju jV (pv 1) (pv 2)) (qO (v:=.int 1000000000000000000) Z m #[_,Z])))) jm) (jd (jv (jX (pv 0)) (jg (jl (ju kX (ju kP (pv 1) (pv 2)) (qO (v:=.int 1000000000000000000) Z m #[_,Z])))) jm) (jd (jv (jX (pv 0)) (jg (jl (ju kX (ju zj (pv 1) (pv 2)) (qO (v:=.int 1000000000000000000) Z m #[_,Z])))) jm) (jd (jv (jX (pv 0)) (jg (jl (zb (kL (pv 2)) jf (ju Ki (pv 1) (pv 2))))) jm) (jd (jv (jX (pv 0)) (jg (jl (zb (jA Jv (pv 1) (pv 2) (aD _)) jf jf))) jm) (jg (jl (zb (jA qK (pv 1) (pv 2) (aD _)) jf jf)))))))),?_]
 obtain⟨k,l⟩:=g
 obtain⟨n,p⟩:=j
 rcases(by omega:i=0∨i=1∨i=2∨i=3∨i=4∨i=5) with rfl |rfl |rfl |rfl |rfl |rfl
 ·refine#[_,Z,Z,_,Z,bJ IP ?_]
  exact#[_,Z,_,Z,_,_,Z,Z,_,_,Z,Z,(by show(0:Int) < 1000000000000000000;decide),q]
 ·refine#[_,Z,Z,_,Z,aF IP ?_]
  refine#[_,Z,Z,_,Z,bJ IP ?_]
  exact#[_,Z,_,Z,_,_,Z,Z,_,_,Z,Z,(by show(0:Int) < 1000000000000000000;decide),q]
 ·refine#[_,Z,Z,_,Z,aF IP ?_]
  refine#[_,Z,Z,_,Z,aF IP ?_]
  refine#[_,Z,Z,_,Z,bJ IP ?_]
  exact#[_,Z,_,Z,_,_,Z,Z,.inl #[IM,IM],_,_,Z,Z,(by show(0:Int) < 1000000000000000000;decide),q]
 ·refine#[_,Z,Z,_,Z,aF IP ?_]
  refine#[_,Z,Z,_,Z,aF IP ?_]
  refine#[_,Z,Z,_,Z,aF IP ?_]
  refine#[_,Z,Z,_,Z,bJ IP ?_]
  have a:Q (.int (if y=0 then 0 else x / y)) H:=q
  refine#[_,Z,Z,_,Z,?_]
  refine bu (λc=>?_) (λc=>?_)
  ·have C:V.int y=V.int 0:=EQ c
   injection C with C
   rw[D0 C]at a
   exact a
  ·have C:y≠0:=λz=>c (by rw[z];rfl)
   rw[D1 C]at a
   exact#[_,Z,_,Z,_,_,Z,Z,#[IM,IM],a]
 ·refine#[_,Z,Z,_,Z,aF IP ?_]
  refine#[_,Z,Z,_,Z,aF IP ?_]
  refine#[_,Z,Z,_,Z,aF IP ?_]
  refine#[_,Z,Z,_,Z,aF IP ?_]
  refine#[_,Z,Z,_,Z,bJ IP ?_]
  have a:Q (.int (if x < y then 1 else 0)) H:=q
  refine#[_,Z,_,Z,_,_,Z,Z,_,Z,?_]
  refine bu (λc=>?_) (λc=>?_)
  ·rw[D0 (EQ c)]at a
   exact a
  ·rw[D1 (GJ (Bool.eq_false_iff.mpr c))]at a
   exact a
 ·refine#[_,Z,Z,_,Z,aF IP ?_]
  refine#[_,Z,Z,_,Z,aF IP ?_]
  refine#[_,Z,Z,_,Z,aF IP ?_]
  refine#[_,Z,Z,_,Z,aF IP ?_]
  refine#[_,Z,Z,_,Z,aF IP ?_]
  have a:Q (.int (if x=y then 1 else 0)) H:=q
  refine#[_,Z,_,Z,Z,_,Z,?_]
  refine bu (λc=>?_) (λc=>?_)
  ·have C:V.int x=V.int y:=EQ c
   injection C with C
   rw[D0 C]at a
   exact a
  ·have C:x≠y:=λz=>c (by rw[z];exact Ea Z)
   rw[D1 C]at a
   exact a
theorem uL:ak ["term","held"] ["term","held"] (aa iH):=bq
theorem oO(F:aJ K "worth" "worth" iH f p)(C:Cl P w K mg base (n+1) f p ["term","held"] (cn K n) "worth")(v:Cl P w K mg base 1 R B ["sign","left","right"] iO "joined"):aj P w K mg base ay (n+2) f p ["term","held"] (cn K (n+1)):=by
 refine F.ok uL (λV H Q E h=>?_) (λD A o s H V Q E j h=>?_)
 ·obtain⟨a,d,T,y,c,rfl,_⟩:=h
  rfl
 obtain⟨a,d,T,y,c,rfl,t,I,g,l,G,q⟩:=h
 refine#[_,(jd (jv (jX (jw (pv 0))) (jg (jl (jw (pv 0)))) jm) (jd (jv (jX (jw (pv 0))) (jg (jl (@kW _ _ _ _ _ _ _ _ _ (kl j) (pv 1) (jw (pv 0)) jf #[IQ,IQ,IQ,IQ]))) jm) (jg (jl (v.e j.m (ja (jw (pv 0)) (ja (C.e j (ja (jw (pv 0)) (ja (pv 1) jb))) (ja (C.e j (ja (jw (pv 0)) (ja (pv 1) jb))) jb)))))))),?_]
 cases T with
 |num m=>
  have b:aA K H a [.str "num",.int m]:=t.elim (λh=>aA.of h) λz=>by cases z.1;exact z.2
  refine#[_,Z,a,_,_,_,Z,Z,b,Z,Z,_,Z,bJ IP ?_]
  exact#[_,Z,a,_,_,_,Z,Z,b,Z,q]
 |var x=>
  have b:H a=some (.tup [.str "var",.str x]):=t.resolve_right λz=>by cases z.1
  refine(jp b Z #[Z,_,Z,aF IP ?_])
  refine(jp b Z #[Z,_,Z,bJ IP ?_])
  refine#[_,Z,d,Z,.inl #[c,.inl l],jp b Z #[_,dm.k (k:=Sum.inr x) l,?_]]
  rw[Kk G]
  exact q
 |op i r u=>
  obtain⟨J,L,b,M,N⟩:=t.resolve_right λz=>by cases z.1
  have O:max r.depth u.depth+1 < n+1:=I
  refine(jp b Z #[Z,_,Z,aF IP ?_])
  refine(jp b Z #[Z,_,Z,aF IP ?_])
  refine(jp b Z ?_)
  refine(jp b Z #[_,Z,J,d,r,y,c,Z,.inl M,IM,g.2.1,l,G,?_])
  refine(jp b Z #[_,Z,L,d,u,y,c,Z,.inl N,IM,g.2.2,l,G,?_])
  exact#[i,_,_,Z,g.1,Jx G g.2.1,Jx G g.2.2,q]
theorem oC:aj P w K mg base ay 1 f e ["term","held"] (cn K 0):=by
 have n:∀v H Q E,¬cn K 0 v H Q E:=λv H Q E h=>by
  obtain⟨a,d,T,y,k,_,_,c,_⟩:=h
  exact absurd c (GH _)
 exact#[λv H Q E h=>absurd h (n v H Q E),λA o s H b u v Q E _ _ _ _ h=>absurd h (n v H Q E)]
theorem rQ(F:aJ K "worth" "worth" iH f a)(b:aw K a ["term","held"] [])(m:mg "worth"=some (.ref f))(c:Cl P w K mg base 1 e d ["sign","left","right"] iO "joined"):
  ∀n:Nat,aj P w K mg base ay (n+1) f a ["term","held"] (cn K n)
 |0=>oC
 |n+1=>oO F #[(rQ F b m c n),b,F.kp,m] c
def TV(H:Hp)(y:List Str)(t:Addr)(T:Tm):Prop:=aW H T t/\cR y T
theorem TV.mono(k:ai H a)(h:TV H y t T):TV a y t T:=#[h.1.mono k,h.2]
inductive Gl where
 |give (t:Addr) (T:Tm) |nought |go (n:Nat)
structure WD where
 sets:List (Str×Addr×Tm)
 goal:Gl
noncomputable def Gl.gol(N:Addr):Gl->Bu
 | .give t _=>.give t
 | .nought=>.give N
 | .go n=>.go (n:Int)
noncomputable def WD.wy(n:Addr)(w:WD):Wy:=#[w.sets.map λs=>(s.1,s.2.1),w.goal.gol n]
def y9(H:Hp)(y:List Str)(m:Nat):Gl->Prop
 | .give t T=>TV H y t T
 | .nought=>True
 | .go n=>n < m
structure wo(H:Hp)(ys:List Str)(m N:Nat)(w:WD):Prop where
 sets:∀s∈w.sets,TV H ys s.2.1 s.2.2
 len:w.sets.length<=N
 goal:y9 H ys m w.goal
def iZ(H:Hp)(y:List Str)(n:Addr)(m N:Nat)(w:Wy):Prop:=∃d:WD,d.wy n=w/\wo H y m N d
def C0(F:gG)(H:Hp)(y:List Str):Dd->Prop
 | .st p=>∃(l:Lf) (v:List V),H p=some (.tup v)/\si H l v/\l.Ok y/\l.isCut=true/\l.Cs F
 | .ask t=>∃T,TV H y t T
noncomputable def Dd.ways:Dd->Nat
 | .st _=>1
 | .ask _=>2
structure rZ(F:gG)(H:Hp)(ys:List Str)(nA:Addr)(m N:Nat)(c:Ct):Prop where
 mem:∀x,c.M x->x∈ys
 deed:C0 F H ys c.d
 ways:∀w∈c.ws,iZ H ys nA m N w
 len:c.ws.length=c.d.ways
structure rV(H:Hp)(ys:List Str)(nA:Addr)(m N:Nat)(pc:Pc):Prop where
 mem:∀x,pc.M x->x∈ys
 way:iZ H ys nA m N pc.w
section
variable {F:gG}{H H':Hp}{ys:List Str}{nA:Addr}{m N N':Nat}
theorem y9.mono(k:ai H H')(h:y9 H ys m g):y9 H' ys m g:=by
 cases g with
 |give t T=>exact TV.mono k h
 |nought=>trivial
 |go n=>exact h
theorem wo.mono(k:ai H H'){w:WD}(h:wo H ys m N w):wo H' ys m N w:=#[λs a=>(h.sets s a).mono k,h.len,h.goal.mono k]
theorem iZ.up(a:N<=N'){w:Wy}(h:iZ H ys nA m N w):iZ H ys nA m N' w:=let #[d,e,v]:=h;#[d,e,v.sets,DV v.len a,v.goal]
theorem rZ.up(a:N<=N')(h:rZ F H ys nA m N c):rZ F H ys nA m N' c:=#[h.mem,h.deed,λw b=>(h.ways w b).up a,h.len]
theorem rV.up(a:N<=N')(h:rV H ys nA m N p):rV H ys nA m N' p:=#[h.mem,h.way.up a]
theorem XE{n:Nat}(a:k=(n:Int))(b:n < m):iZ H ys nA m N #[[],.go k]:=#[#[[],.go n],by rw[a];rfl,(λ_ h=>absurd h Eb),DX _,b]
theorem J8:∀(b:Bd) {X:List V} {g:Pc} {fs:List Ct} {N:Nat},dj H b X->b.Ok ys->b.Cs F->rV H ys nA m N g->(∀c∈fs,rZ F H ys nA m N c)->fs.length+b.cuts<=m->
  rV H ys nA m (N+b.size) (pB (m:Int) b g fs).1/\∀c∈(pB (m:Int) b g fs).2,rZ F H ys nA m (N+b.size) c
 | .nil,_,_,_,_,_,_,_,o,y,_=>#[o,y]
 | .lf p l r,X,g,fs,N,C,i,k,o,y,D=>by
  obtain⟨vs,zs,_,h1,I,h3⟩:=C
  have E:fs.length+(l.cut+r.cuts)<=m:=D
  obtain⟨R,A⟩:=J8 r h3 i.2 k.2 o y IM
  have hl:=j7 (m:Int) r g fs
  have S:N+r.size<=N+(r.size+1):=by omega
  have j:=Lf.use_in i.1 R.mem
  have J:l.isCut=true->l.cut=1->rV H ys nA m (N+(r.size+1)) #[l.use (pB (m:Int) r g fs).1.M,#[[],.go ((m:Int) - ((pB (m:Int) r g fs).2.length:Int) - 1)]]/\∀c∈(pB (m:Int) r g fs).2++[#[l.use (pB (m:Int) r g fs).1.M,.st p,[(pB (m:Int) r g fs).1.w]]],rZ F H ys nA m (N+(r.size+1)) c:=λG h0=>
   #[#[j,XE (n:=m - (fs.length+r.cuts) - 1) (by rw[hl];omega) IM],λc L=>by
    rcases List.mem_append.mp L with z |z
    ·exact(A c z).up S
    ·rw[List.mem_singleton.mp z]
     exact#[j,#[l,vs,h1,I,i.1,G,k.1],λw hw=>by rw[List.mem_singleton.mp hw];exact R.way.up S,Z]]
  show rV H ys nA m (N+(r.size+1)) (pL (m:Int) p l (pB (m:Int) r g fs)).1/\∀c∈(pL (m:Int) p l (pB (m:Int) r g fs)).2,rZ F H ys nA m (N+(r.size+1)) c
  cases l with
  |gv t T=>exact#[#[j,#[#[[],.give t T],Z,(λ_ h=>absurd h Eb),DX _,I.2,i.1]],λc G=>(A c G).up S]
  |st x t T=>
   refine#[#[j,?_],λc G=>(A c G).up S]
   show iZ H ys nA m _ (gR x t (pB (m:Int) r g fs).1)
   unfold gR
   split
   ·obtain⟨d,e,v⟩:=R.way
    refine#[#[(x,t,T)::d.sets,d.goal],by rw[<- e];rfl,λs hs=>?_,Fd v.len,v.goal]
    rcases List.mem_cons.mp hs with rfl |hs
    ·exact#[I.2,i.1.2]
    ·exact v.sets s hs
   ·exact R.way.up S
  |rd x t T |wr t u T U |cl x f q ts=>exact J Z Z
 | .ite p t T a c r,X,g,fs,N,C,i,k,o,y,D=>by
  obtain⟨qa,qb,as,bs,zs,_,g1,O,g2,g3,Q,g5,W⟩:=C
  have E:fs.length+(1+a.cuts+c.cuts+r.cuts)<=m:=D
  obtain⟨R,A⟩:=J8 r W i.2.2.2 k.2.2 o y IM
  have B:=j7 (m:Int) r g fs
  obtain⟨c1,c2⟩:=J8 c g5 i.2.2.1 k.2.1 R A IM
  have h4:=j7 (m:Int) c (pB (m:Int) r g fs).1 (pB (m:Int) r g fs).2
  obtain⟨Y,a2⟩:=J8 a Q i.2.1 k.1 (R.up (FH _ _)) c2 IM
  have S:N+r.size+c.size+a.size<=N+(a.size+c.size+r.size+1):=by omega
  have j:∀x,(Bd.ite p t T a c .nil).use (pB (m:Int) r g fs).1.M x->x∈ys:=Bd.use_in #[i.1,i.2.1,i.2.2.1,Eh] R.mem
  have hk:(m:Int) - ((pB (m:Int) r g fs).2.length:Int) - ((Bd.ite p t T a c .nil).cuts:Int)=((m - (fs.length+r.cuts) - (1+a.cuts+c.cuts):Nat):Int):=by
   show(m:Int) - _ - ((1+a.cuts+c.cuts+0:Nat):Int)=_
   rw[B]
   omega
  unfold pB
  dsimp only
  refine#[#[j,XE hk IM],λe he=>?_]
  rcases List.mem_append.mp he with z |z
  ·exact(a2 e z).up S
  ·rw[List.mem_singleton.mp z]
   refine#[j,#[T,O,i.1],λw hw=>?_,Z]
   rcases List.mem_cons.mp hw with rfl |hw
   ·exact Y.way.up S
   ·rw[List.mem_singleton.mp hw]
    exact c1.way.up (by show _<=N+(a.size+c.size+r.size+1);omega)
 | .loop p t T a r,X,g,fs,N,C,i,k,o,y,D=>by
  obtain⟨qa,as,zs,_,g1,O,g2,Q,W⟩:=C
  have E:fs.length+(1+a.cuts+r.cuts)<=m:=D
  obtain⟨R,A⟩:=J8 r W i.2.2 k.2 o y IM
  have B:=j7 (m:Int) r g fs
  have j:∀x,(Bd.loop p t T a .nil).use (pB (m:Int) r g fs).1.M x->x∈ys:=Bd.use_in #[i.1,i.2.1,Eh] R.mem
  have hk:(m:Int) - ((pB (m:Int) r g fs).2.length:Int) - ((Bd.loop p t T a .nil).cuts:Int)=((m - (fs.length+r.cuts) - (1+a.cuts):Nat):Int):=by
   show(m:Int) - _ - ((1+a.cuts+0:Nat):Int)=_
   rw[B]
   omega
  have pl:rV H ys nA m (N+r.size) #[(Bd.loop p t T a .nil).use (pB (m:Int) r g fs).1.M,#[[],.go ((m:Int) - ((pB (m:Int) r g fs).2.length:Int) - ((Bd.loop p t T a .nil).cuts:Int))]]:=#[j,XE hk IM]
  obtain⟨Y,a2⟩:=J8 a Q i.2.1 k.1 pl A IM
  have S:N+r.size+a.size<=N+(a.size+r.size+1):=by omega
  unfold pB
  dsimp only
  refine#[pl.up (by show _<=N+(a.size+r.size+1);omega),λe he=>?_]
  rcases List.mem_append.mp he with z |z
  ·exact(a2 e z).up S
  ·rw[List.mem_singleton.mp z]
   refine#[j,#[T,O,i.1],λw hw=>?_,Z]
   rcases List.mem_cons.mp hw with rfl |hw
   ·exact Y.way.up S
   ·rw[List.mem_singleton.mp hw]
    exact R.way.up (by show _<=N+(a.size+r.size+1);omega)
end
noncomputable def bX(n:Addr)(d:Df):List Ct:=(gI n d).2.reverse
theorem YK(n:Addr)(d:Df):(bX n d).length=d.b.cuts:=by
 unfold bX
 rw[List.length_reverse]
 exact(j7 _ _ _ _).trans (Nat.zero_add _)
theorem vO{nA:Addr}{d:Df}(f:dj H d.b B)(g:d.b.Ok y):rV H y nA d.b.cuts d.b.size (gI nA d).1/\∀c∈bX nA d,rZ d.b.calls H y nA d.b.cuts d.b.size c:=by
 have p:rV H y nA d.b.cuts 0 (Cr nA):=#[λx i=>absurd i Eb,#[[],.nought],Z,(λ_ h=>absurd h Eb),DN _,Eh]
 obtain⟨a,e⟩:=J8 (m:=d.b.cuts) d.b f g (zw d.b) p (fs:=[]) (λ_ h=>absurd h Eb) (by show 0+_<=_;omega)
 rw[Nat.zero_add]at a e
 exact#[a,λc j=>e c (List.mem_reverse.mp j)]
theorem Qt{M:Str->Prop}{y:List Str}(h:∀x,M x->x∈y):(canon M).length<=y.length:=by
 by_cases e:∃s,Nm s M
 ·obtain⟨s,H⟩:=e
  rw[<- H.canon]
  exact H.len h
 ·unfold canon
  rw[dif_neg e]
  exact DX _
noncomputable def eI:List (Str×Addr×Tm)->ba->ba
 | [],k=>k
 |s::r,k=>eI r (aH k (.inr s.1) (.int (s.2.2.ev k)))
noncomputable def eW(N:Addr)(d:Df)(n:Nat):List Str:=match (bX N d)[n]? with
 |some c=>canon c.M
 |none=>[]
noncomputable def ou(N:Nat->List Str)(k:ba):Gl->Tr
 | .give _ T=>bM [cQ "give",c8 (T.ev k)]
 | .nought=>bM [cQ "give",c8 0]
 | .go n=>bM [cQ "go",c8 (n:Int),bM ((N n).map λx=>c8 (look k (.inr x) 0))]
theorem qU{H:Hp}{ys:List Str}:∀{ss:List (Str×Addr×Tm)} {k:ba},(∀s∈ss,TV H ys s.2.1 s.2.2)->GT k->GT (eI ss k)
 | [],_,_,g=>g
 |s::r,k,h,g=>qU (H:=H) (ys:=ys) (ss:=r) (λS a=>h S (D9 _ a)) (g.put _ (Jx g (h s D3).2.1))
theorem Zt{S:List (Str×Addr×Tm)}:∀{i:Nat} {s:Str×Addr×Tm} {k:ba},S[i]?=some s->eI (S.take (i+1)) k=aH (eI (S.take i) k) (.inr s.1) (.int (s.2.2.ev (eI (S.take i) k))):=by
 induction S with
 |nil=>intro i s k h;simp at h
 |cons a r I=>
  intro i s k h
  cases i with
  |zero=>
   cases h
   rfl
  |succ i=>exact I (by simpa using h)
theorem ql{kvs:ba}{k:aV}{v:V}:(aH kvs k v).length<=kvs.length+1:=by
 unfold aH
 split
 ·rw[DK];exact Ff _
 ·rw[DM];exact DN _
theorem Xf:∀{ss:List (Str×Addr×Tm)} {k:ba},(eI ss k).length<=k.length+ss.length
 | [],_=>DN _
 |s::r,k=>by
  have h:=Xf (ss:=r) (k:=aH k (.inr s.1) (.int (s.2.2.ev k)))
  have H:=ql (kvs:=k) (k:=.inr s.1) (v:=.int (s.2.2.ev k))
  show(eI r _).length<=k.length+(r.length+1)
  omega
noncomputable def cq(n:List Str)(i:List Int):ba:=cw [] ((n.map Sum.inr).zip (i.map V.int))
theorem Xg:∀{m:ba} {k:ba},GT k->GT m->GT (cw k m)
 | [],_,g,_=>g
 |p::r,k,g,h=>by
  obtain⟨i,e,H⟩:=h p D3
  have E:aH k p.1 p.2=aH k p.1 (.int i):=by rw[e]
  show GT (cw (aH k p.1 p.2) r)
  rw[E]
  exact Xg (g.put _ H) λq a=>h q (D9 _ a)
theorem Kf(h:∀i∈I,f8 i):GT (cq n I):=by
 refine Xg GT.nil λp H=>?_
 obtain⟨i,a,e⟩:=List.mem_map.mp (Hq H).2
 exact#[i,e.symm,h i a]
theorem YL{ns:List Str}{is:List Int}:(cq ns is).length<=ns.length:=by
 have h:=qv ((ns.map Sum.inr).zip (is.map V.int)) []
 rw[Ik,DK]at h
 show(cw [] _).length<=_
 have H:(cw [] ((ns.map Sum.inr).zip (is.map V.int))).length<=0+min ns.length (is.map V.int).length:=h
 omega
noncomputable abbrev lP:Stmt:=bE 23
noncomputable abbrev iz:Stmt:=bE 24
noncomputable abbrev gK:Stmt:=bE 27
noncomputable abbrev iy:Stmt:=bE 28
noncomputable abbrev gJ:Stmt:=bE 29
noncomputable abbrev iE:Stmt:=bE 30
structure lD(H:Hp)(nA:Addr)(d:Df)(ys:List Str)(v:V):Prop where
 tr:aZ H (eY nA d) v []
 bd:∃bs,dj H d.b bs
 ok:d.b.Ok ys
 y20:ys.length<=20
 sz:d.b.size<=3000
structure y8(H:Hp)(nA:Addr)(d:Df)(ys:List Str)(c:Ct)(ka na wa:Addr)(dv:V)(wvs:List V):Prop where
 at':H ka=some (.tup [.ref na,dv,.ref wa])
 nms:H na=some (.tup ((canon c.M).map V.str))
 deed:aZ H (BF c.d) dv []
 wat:H wa=some (.tup wvs)
 ways:aZ H (aQ (c.ws.map gn)) .non wvs
 v:rZ d.b.calls H ys nA d.b.cuts d.b.size c
theorem YM:∀{S:List Str} {v:List V},aZ H (aQ (S.map cQ)) .non v->v=S.map V.str
 | [],v,h=>h
 |s::S,v,h=>by
  obtain⟨_,_,y,Y,rfl,⟨rfl,_⟩,a⟩:=h
  rw[YM a]
  rfl
section
variable {H H':Hp}{nA:Addr}{d:Df}{ys:List Str}{v:V}
theorem lD.mono(k:ai H H')(h:lD H nA d ys v):lD H' nA d ys v:=#[h.tr.mono k,let #[b,a]:=h.bd;#[b,a.mono k],h.ok,h.y20,h.sz]
theorem lD.parts(h:lD H nA d ys v):∃(a c:Addr) (W:V) (C:List V),v= .ref a/\H a=some (.tup [.str d.f,.ref d.pa,W,.ref c])/\aZ H (gn (gI nA d).1.w) W []/\H c=some (.tup C)/\aZ H (aQ ((bX nA d).map Al)) .non C:=by
 obtain⟨_,a,x,rfl,i,_,_,n,Y,rfl,⟨rfl,_⟩,_,_,o,j,rfl,⟨rfl,_⟩,_,_,W,k,rfl,l,_,_,p,y,rfl,m,e⟩:=h.tr
 have e:y=[]:=e
 subst e
 obtain⟨_,c,C,rfl,b,g⟩:=m
 exact#[a,c,W,C,Z,i,l,b,g]
theorem lD.cut{C:List V}(h:lD H nA d ys v)(a:aZ H (aQ ((bX nA d).map Al)) .non C){n:Nat}{c:Ct}(g:(bX nA d)[n]?=some c):∃k N i D W,C[n]?=some (.ref k)/\y8 H nA d ys c k N i D W:=by
 have L:=zE a
 rw[DK]at L
 have u:n < C.length:=by rw[L];exact(List.getElem?_eq_some_iff.mp g).1
 have j:C[n]?=some C[n]:=DJ u
 obtain⟨T,b,t⟩:=Jm a n _ j
 rw[D4,g]at b
 cases b
 obtain⟨B,y⟩:=h.bd
 have z:=(vO (nA:=nA) y h.ok).2 c (D5 g)
 generalize C[n]=x at j t
 obtain⟨_,k,E,rfl,l,_,_,F,G,rfl,m,_,_,D,I,rfl,o,_,_,J,A,rfl,p,e⟩:=t
 have e:A=[]:=e
 subst e
 obtain⟨_,N,M,rfl,f,q⟩:=m
 obtain⟨_,i,W,rfl,r,s⟩:=p
 rw[YM q]at f
 exact#[k,N,i,D,W,j,l,f,o,r,s,z]
theorem lD.way(h:lD H nA d ys v):iZ H ys nA d.b.cuts d.b.size (gI nA d).1.w:=let #[B,a]:=h.bd;(vO (nA:=nA) a h.ok).1.way
theorem Z3(h:(bX nA d)[n]?=some c):eW nA d n=canon c.M:=by
 unfold eW
 rw[h]
end
structure BZ(H:Hp)(nA:Addr)(w:WD)(wa sa ga:Addr)(ss:List V)(wd:Str)(u:V):Prop where
 at':H wa=some (.tup [.ref sa,.ref ga])
 sat:H sa=some (.tup ss)
 sets:∀(i:Nat) (x:V),ss[i]?=some x->∃(s:Str×Addr×Tm) (p:Addr),w.sets[i]?=some s/\x= .ref p/\H p=some (.tup [.str s.1,.ref s.2.1])
 len:ss.length=w.sets.length
 gat:H ga=some (.tup [.str wd,u])
 goal:match w.goal with
  | .give t _=>wd="give"/\u= .ref t
  | .nought=>wd="give"/\u= .ref nA
  | .go n=>wd="go"/\u= .int (n:Int)
theorem uY{w:WD}(h:aZ H (gn (w.wy N)) v []):∃(l S G:Addr) (A:List V) (W:Str) (u:V),v= .ref l/\BZ H N w l S G A W u:=by
 obtain⟨_,r,X,rfl,C,_,_,y0,D,rfl,⟨_,s,c,rfl,E,m⟩,_,_,Y,y,rfl,b,e⟩:=h
 have e:y=[]:=e
 subst e
 have L:=zE m
 have st:∀(i:Nat) (x:V),c[i]?=some x->∃(s:Str×Addr×Tm) (p:Addr),w.sets[i]?=some s/\x= .ref p/\H p=some (.tup [.str s.1,.ref s.2.1]):=λi x F=>by
  obtain⟨tr,o,I⟩:=Jm m i x F
  rw[D4]at o
  obtain⟨q,J,rfl⟩:=Option.map_eq_some_iff.mp o
  have a:(w.sets.map λs=>(s.1,s.2.1))[i]?=some q:=J
  rw[D4]at a
  obtain⟨z,M,rfl⟩:=Option.map_eq_some_iff.mp a
  obtain⟨_,p,X,rfl,O,_,_,Q,R,rfl,⟨rfl,_⟩,_,_,U,B,rfl,⟨rfl,_⟩,e⟩:=I
  have e:B=[]:=e
  subst e
  exact#[z,p,M,Z,O]
 have ln:c.length=w.sets.length:=by
  rw[L,DK]
  exact DK ..
 have f:∀g:Gl,w.goal=g->aZ H (sQ (g.gol N)) Y []->∃(G:Addr) (W:Str) (u:V),Y= .ref G/\H G=some (.tup [.str W,u])/\match g with
  | .give t _=>W="give"/\u= .ref t
  | .nought=>W="give"/\u= .ref N
  | .go n=>W="go"/\u= .int (n:Int):=λg _ b=>by
  cases g with
  |give t T |nought |go n=>
   obtain⟨_,gl,X,rfl,d,_,_,Q,R,rfl,⟨rfl,_⟩,_,_,U,B,rfl,⟨rfl,_⟩,e⟩:=b
   have e:B=[]:=e
   subst e
   exact#[gl,_,_,Z,d,Z,Z]
 obtain⟨G,W,u,rfl,j,k⟩:=f w.goal Z b
 exact#[r,s,G,c,W,u,Z,C,E,st,ln,j,k]
def ij(N:Addr):Sp:=λa H Q _=>∃(v:V) (n:Nat) (d:Df) (y:List Str) (c:Ct),a=[v,.int (n:Int)]/\lD H N d y v/\(bX N d)[n]?=some c/\∀(k b e:Addr) (D:V) (W:List V),y8 H N d y c k b e D W->Q (.ref k) H
def iN(N:Addr):Sp:=λa H Q _=>∃(v:V) (n:Nat) (h:Addr) (d:Df) (y:List Str) (c:Ct) (i:List Int),a=[v,.int (n:Int),.ref h]/\lD H N d y v/\(bX N d)[n]?=some c/\H h=some (.tup (i.map V.int))/\i.length=(canon c.M).length/\
 ∀D:Addr,H D=none->Q (.ref D) (af H D (.dK (cq (canon c.M) i)))
theorem YN:∀(s:List Str),(s.map (Sum.inr:Str->aV)).map kV=s.map V.str:=λs=>by rw[Gr];rfl
theorem uJ:ak ["part","n"] ["part","n"] (aa lP):=bq
theorem oG{f:Addr}{g:FuncData}{N:Addr}(F:aJ K "cut_at" "cut_at" lP f g):aj P w K mg base ay 1 f g ["part","n"] (ij N):=by
 refine F.ok uJ ?_ λl A o s H V Q E B h=>?_
 ·rintro _ _ _ _ ⟨v,n,d,y,c,rfl,_⟩
  rfl
 refine aR λG k=>?_
 obtain⟨v,n,d,y,c,rfl,i,m,q⟩:=h
 refine k ?_
 clear k
 refine#[_,(jg (jl (jr kI (jw (pv 0)) (pv 1) (λ_ _=>Z)))),?_]
 obtain⟨a,p,I,J,rfl,r,L,b,e⟩:=i.parts
 obtain⟨t,u,x,D,W,z,C⟩:=i.cut e m
 exact#[_,Z,a,_,_,_,Z,Z,aA.of r,jM (j:=3) Z,_,Z,p,_,_,_,Z,Z,aA.of b,jM z,q t u x D W C]
theorem pN:ak ["part","n","held"] ["part","n","held"] (aa iz):=bq
theorem Zu(F:aJ K "held_at" "held_at" iz f g)(i:Cl P w K mg base 1 J j ["part","n"] (ij N) "cut_at")(m:mg "dict"=none)(a:mg "zip"=none):aj P w K mg base ay 2 f g ["part","n","held"] (iN N):=by
 refine F.ok pN ?_ λp A o s H V Q E r h=>?_
 ·rintro _ _ _ _ ⟨v,n,b,d,y,c,I,rfl,_⟩
  rfl
 refine aR λL k=>?_
 obtain⟨v,n,b,d,y,c,I,rfl,t,u,x,z,q⟩:=h
 refine k ?_
 clear k
 refine#[_,(jg (jl (@YB _ _ _ _ _ _ _ _ Z m Z a Z (ja (jr kI (i.e r (ja (pv 0) (ja (pv 1) jb))) jf (λ_ _=>Z)) (ja (pv 2) jb)) IQ IQ IQ IQ))),?_]
 refine#[_,Z,_,Z,v,n,d,y,c,Z,t,u,λB D O R W C=>#[B,_,_,_,Z,Z,aA.of C.at',h9,_,Z,D,b,(canon c.M).map Sum.inr,_,Z,by rw[YN];exact aA.of C.nms,aA.of x,by rw[DK,DK,z],λl G=>q l G]]
inductive Wh where
 |rd (a i:Int) |wr (a b:Int) |ask (b:Int) |cl (f:Str) (is:List Int) (i:Int)
def wq(H:Hp)(u:V):Wh->Prop
 | .rd a i=>∃p,u= .ref p/\H p=some (.tup [.str "read",.int a,.int i])
 | .wr a b=>∃p,u= .ref p/\H p=some (.tup [.str "write",.int a,.int b])
 | .ask b=>∃p,u= .ref p/\H p=some (.tup [.str "ask",.int b])
 | .cl f I i=>∃p c g e,u= .ref p/\H p=some (.tup [.str "call",.ref c])/\H c=some (.tup [.str f,.ref g,e,.int i])/\H g=some (.tup (I.map V.int))
theorem wq.mono{H d:Hp}(k:ai H d){u:V}{w:Wh}(h:wq H u w):wq d u w:=by
 cases w with
 |rd a i |wr a b |ask b=>obtain⟨p,e,h⟩:=h;exact#[p,e,k _ _ h]
 |cl f I i=>obtain⟨p,c,g,e,E,j,l,m⟩:=h;exact#[p,c,g,e,E,k _ _ j,k _ _ l,k _ _ m]
inductive DD where
 |st (p:Addr) (l:Lf) |ask (t:Addr) (T:Tm)
noncomputable def DD.dd:DD->Dd
 | .st p _=>.st p
 | .ask t _=>.ask t
def wf(H:Hp)(y:List Str):DD->Prop
 | .st p l=>∃v,H p=some (.tup v)/\si H l v/\l.Ok y/\l.isCut=true
 | .ask t T=>TV H y t T
theorem wf.mono(k:ai H a)(h:wf H y d):wf a y d:=by
 cases d with
 |st p l=>obtain⟨v,b,c,e⟩:=h;exact#[v,k _ _ b,c.mono k,e]
 |ask t T=>exact TV.mono k h
def DD.Cs(F:gG):DD->Prop
 | .st _ l=>l.Cs F
 | .ask _ _=>True
theorem Ap{F:gG}(h:C0 F H y d):∃e:DD,e.dd=d/\wf H y e/\e.Cs F:=by
 cases d with
 |st p=>obtain⟨l,v,a,b,c,f,g⟩:=h;exact#[.st p l,Z,#[v,a,b,c,f],g]
 |ask t=>obtain⟨T,h⟩:=h;exact#[.ask t T,Z,h,Eh]
def Bt:DD->Wh->Prop
 | .st _ (.rd _ _ _),.rd _ i=>f8 i
 | .st _ (.wr _ _ _ _),.wr _ _=>True
 | .st _ (.cl _ _ _ _),.cl _ _ i=>f8 i
 | .ask _ _,.ask b=>b=0∨b=1
 |_,_=>False
noncomputable def su(d:DD)(w:Wh)(k:ba):ba:=match d,w with
 | .st _ (.rd x _ _),.rd _ i=>aH k (.inr x) (.int i)
 | .st _ (.cl x _ _ _),.cl _ _ i=>aH k (.inr x) (.int i)
 |_,_=>k
noncomputable def Wh.side:Wh->Nat
 | .ask b=>if b=0 then 1 else 0
 |_=>0
def oj(Q:VK)(H:Hp):Wh->Prop
 | .rd _ i=>Q (.int i) H
 | .cl _ _ i=>Q (.int i) H
 |_=>False
def fh:Sp:=λv H Q _=>∃(u:V) (w:Wh),v=[u]/\wq H u w/\oj Q H w
def mY(n:Addr):Sp:=λa H Q _=>∃(v W:V) (D:Addr) (d:Df) (y:List Str) (w:WD) (k:ba),a=[v,W,.ref D]/\lD H n d y v/\aZ H (gn (w.wy n)) W []/\wo H y d.b.cuts d.b.size w/\H D=some (.dK k)/\GT k/\k.length<=200/\
 ∀(u:V) (h:Hp),aZ h (ou (eW n d) (eI w.sets k) w.goal) u []->ar D H h->Q u h
inductive EI(dd:Addr)(σ0:L2.St)(ss:List (Str×Addr×Tm))(k:ba)(H:Hp)(i:Nat)(σ:L2.St)(H':Hp):Prop
 |mk (o3 o4:Option V) (e0:σ=σ0++[o3,o4,none,none]) (e1:H' dd=some (.dK (eI (ss.take i) k))) (e2:ar dd H H'):EI dd σ0 ss k H i σ H'
theorem QK{H:Hp}:∀{is:List Int},aZ H (aQ (is.map c8)) .non (is.map V.int)
 | []=>rfl
 |i::is=>jq Z qF (QK (is:=is))
theorem nM:ak ["what"] ["what"] (aa gK):=bq
theorem oI(F:aJ K "found_in" "found_in" gK f n):aj P w K mg base ay 1 f n ["what"] fh:=by
 refine F.ok nM ?_ λC A o s H v Q E t h=>?_
 ·rintro _ _ _ _ ⟨u,W,rfl,_⟩
  rfl
 refine aR λG k=>?_
 obtain⟨u,W,rfl,d,q⟩:=h
 refine k ?_
 clear k
 refine#[_,(jg (jl (zb (jX (jw (pv 0))) (jw (jr kI (pv 0) jf (λ_ _=>Z))) (jr kI (pv 0) (vL ZL jf) (λ_ _=>Z))))),?_]
 cases W with
 |rd a i=>
  obtain⟨p,rfl,l⟩:=d
  exact(jp l h9 #[Z,_,Z,aF IP #[_,Z,_,Z,p,_,_,_,Z,Z,aA.of l,Z,q]])
 |cl f I i=>
  obtain⟨p,c,g,e,rfl,m,r,_⟩:=d
  exact(jp m h9 #[Z,_,Z,bJ IP (jp m nB #[c,_,_,_,Z,Z,aA.of r,jM (j:=3) Z,q])])
 |wr a b |ask b=>exact q.elim
theorem fc:ak ["part","way","numbers","name","term","goal","held"] ["part","way","numbers"] (aa iy):=bq
noncomputable def Yi:Scope:=#[.function,[(".0",.local),("name",.local),("numbers",.free)],false,false,[]]
theorem sV:(["name","numbers"]:List Str).Nodup:=by decide+kernel
theorem sA:a8 ["part","way","numbers","name","term","goal","held"] (aa iy) Yi ["name","numbers"] 1 [2]:=nR
theorem oH(F:aJ K "end_of" "end_of" iy f fd)(cC:Cl P w K mg base 1 fC f2 ["part","n"] (ij U) "cut_at")(cW:Cl P w K mg base 7 fW f3 ["term","held"] (cn K 6) "worth")(m0:mg "tuple"=none)(no:lI K U):aj P w K mg base ay 8 f fd ["part","way","numbers"] (mY U):=by
 refine F.ok fc ?_ λc0 A o1 s H vs Q E Y h=>?_
 ·rintro _ _ _ _ ⟨v,w1,D,d,ys,O,k,rfl,_⟩
  rfl
 refine aR λGq kq=>?_
 obtain⟨v,w1,D,d,ys,O,k,rfl,hp,hw,wv,hd,gk,hk,q⟩:=h
 refine kq ?_
 clear kq
 refine#[_,(jd (j6 Ej Z (zI (jw (pv 1))) (zi (n:=2) Z (jy (js (i:=3) fc.nd Z (Or.inl Z)) (jy (js (i:=4) fc.nd Z (Or.inl Z)) kc))) (jg (ze (kl Y) (pv 2) (pv 3) (cW.e Y.m (ja (pv 4) (ja (pv 2) jb))) Z))) (jd (jx 5 fc.nd (jw (pv 1))) (jd (jv (jX (jw (pv 5))) (jg (jl (jh (ja jk (ja (cW.e Y.m (ja (jw (pv 5)) (ja (pv 2) jb))) jb))))) jm) (jd (@Yx _ _ _ _ _ _ _ _ _ _ (6) (["name","numbers"]) (1) ([2]) _ _ _ _ fc.nd Z (Or.inl Z) Z (zI (jr kI (cC.e Y.m (ja (pv 0) (ja (jw (pv 5)) jb))) jf (λ_ _=>Z))) sA (λ_ _ _ _ _=>(js (i:=0) sV Z (Or.inl Z))) (λ_ _ _ _ _=>(@zn _)) (λ_ _ _ _ _=>(@kW _ _ _ _ _ _ _ _ _ (kl Y) (pv 1) (pv 0) jf #[IQ,IQ,IQ,IQ])) IQ (by first |exact .inl Z |exact .inr Z) (by intro _;rfl)) (jg (jl (jh (ja jk (ja (jw (pv 5)) (ja (jz jB Z m0 EZ (ja (pv 6) jb)) jb)))))))))),?_]
 have b0:=aE
 obtain⟨wa,sa,ga,ss,wd,u,rfl,W⟩:=uY hw
 have R:∀g,ar D H g->ai H g:=λg k b xs e=>k b _ (jG e hd (by intro z;cases z)) e
 have h2:=hp.sz
 have h3:=wv.len
 refine ah λF1 C=>dJ λJ j=>(jp W.at' h9 #[sa,Z,#[_,aA.of W.sat],j _ _ ?_])
 clear j
 refine qj (K:=K) (xs:=ss) (EI D [some v,some (.ref wa),some (.ref D)] O.sets k H) #[_,_,Z,hd,ar.refl] (λi σ g _ h=>?_) ?_ (λσ g h=>C _ _ ?_)
 ·obtain⟨_,_,_,_,I⟩:=h
  exact aA.of (R _ I _ _ W.sat)
 ·intro E _ i x σ H1 hx f0 Gq kq h
  obtain⟨o3,o4,rfl,L,I⟩:=h
  clear C
  obtain⟨s,p,hs,rfl,h0⟩:=W.sets i x hx
  have S:=R _ I
  have tv:=(wv.sets s (D5 hs)).mono S
  have g1:GT (eI (O.sets.take i) k):=qU (H:=H) (ys:=ys) (λs hs=>wv.sets s (EC hs)) gk
  have l1:=Xf (ss:=O.sets.take i) (k:=k)
  rw[Ec]at l1
  refine kq ?_
  clear kq
  refine#[p,_,Z,aA.of (S _ _ h0),Z,_,_,Z,_,_,Z,Z,?_]
  refine#[_,Z,_,Z,s.2.1,D,s.2.2,ys,_,Z,.inl tv.1,tv.2.2,tv.2.1,L,g1,_,Z,_,Z,D,_,Z,.inl #[_,.inr s.1,L,Z,IM,Z],f0 _ _ #[_,_,Z,?_,λc o X e=>by rw[jj X];exact I c o X e]]
  rw[Zt hs]
  exact jc
 ·obtain⟨o3,o4,rfl,L,I⟩:=h
  rw[W.len,Er]at L
  have S:=R _ I
  have g1:GT (eI O.sets k):=qU (H:=H) (ys:=ys) wv.sets gk
  have B:=wv.goal
  have a:=W.goal
  generalize eI O.sets k=N at L g1 q
  refine ah λF1 C=>(jp (S _ _ W.at') nB (C _ _ ?_))
  clear C
  have G:=S _ _ W.gat
  refine ah λF1 C=>wO λG1 k3 k0=>(jp G h9 #[Z,_,Z,?_])
  have give:∀(t:Addr) (T:Tm),wd="give"->u= .ref t->C8 K g T t->cR ys T->(∀(u':V) (H9:Hp),aZ H9 (bM [cQ "give",c8 (T.ev N)]) u' []->ar D H H9->Q u' H9)->G1 (decide (V.str wd=V.str "give")) g:=by
   intro t T e1 e2 x1 x2 x3
   subst e1
   subst e2
   rw[Ea Z]
   refine k3 _ (jp G nB #[_,Z,t,D,T,ys,N,Z,x1,x2.2,x2.1,L,g1,bn,λr nr=>?_])
   exact x3 _ _ (jJ jc (jq Z kJ (jq Z qF jF))) λc o X e=>je nr _ _ (I c o X e)
  cases hg:O.goal with
  |give t T=>
   rw[hg]at B a q
   exact give t T a.1 a.2 (.inl (B.1.mono S)) B.2 q
  |nought=>
   rw[hg]at a q
   exact give U (.num 0) a.1 a.2 (.inr #[Z,no _]) #[#[IL,IL],IL] q
  |go n=>
   rw[hg]at B a q
   clear give k3
   obtain⟨e1,e2⟩:=a
   subst e1
   subst e2
   have hn:n < (bX U d).length:=by rw[YK];exact B
   obtain⟨c,hc⟩:∃c,(bX U d)[n]?=some c:=#[_,DJ hn]
   have e0:decide (V.str "go"=V.str "give")=false:=by decide+kernel
   rw[e0]
   refine k0 _ (C _ _ ?_)
   clear k0 C
   refine ah λF1 C=>#[_,Z,jp G nB #[v,n,d,ys,c,Z,hp.mono S,hc,λka na w2 dv w3 ca=>#[ka,_,_,_,Z,Z,aA.of ca.at',h9,na,Z,#[_,aA.of ca.nms],?_]]]
   have cl:=DV (Qt ca.v.mem) hp.y20
   have q:∀(u:V) (g:Hp),aZ g (bM [cQ "go",c8 (n:Int),bM ((eW U d n).map λx=>c8 (look N (.inr x) 0))]) u []->ar D H g->Q u g:=q
   rw[Z3 hc]at q
   refine qr (K:=K) (xs:=(canon c.M).map V.str) (by rw[DK];omega) (λi zs Hx=>zs=((canon c.M).take i).map (λx=>V.int (look N (.inr x) 0))/\Hx=g) #[Z,Z] (λi zs Hx h=>?_) (λi x zs Hx hx h=>?_) (λzs Hx h l nl=>C _ _ ?_)
   ·obtain⟨rfl,rfl⟩:=h
    exact#[aA.of ca.nms,by rw[DK,Ec];omega]
   ·obtain⟨rfl,rfl⟩:=h
    rw[D4]at hx
    obtain⟨y,hy,rfl⟩:=Option.map_eq_some_iff.mp hx
    refine#[_,Z,D,Z,.inl #[N,.inl L],_,Z,_,dm.k (k:=Sum.inr y) L,?_,Z]
    rw[Kk g1,Eu,hy,Ef]
    rfl
   ·obtain⟨rfl,rfl⟩:=h
    rw[DK,Er]
    refine(jp (je nl _ _ G) nB #[_,Z,l,_,Z,.inl #[aC.of jc,λtl n0=>#[dU,λr nr=>?_]]])
    refine q _ _ (jJ jc (jq Z kJ (jq Z qF (jq Z (jJ (ap jc nr) ?_) jF)))) λc' o X e=>je nr _ _ (je n0 _ _ (je nl _ _ (I c' o X e)))
    have:=QK (H:=af (af (af Hx l (.lst ((canon c.M).map (λx=>V.int (look N (.inr x) 0))))) tl (.tup ((canon c.M).map (λx=>V.int (look N (.inr x) 0))))) r (.tup [.str "go",.int (n:Int),.ref tl])) (is:=(canon c.M).map λx=>look N (.inr x) 0)
    rw[Gr,Gr]at this
    exact this
structure iY(H:Hp)(nA:Addr)(d:Df)(ys:List Str)(v:V)(sa:Addr)(n:Nat)(hv:Addr)(uw:V)(c:Ct)(is:List Int)(wh:Wh)(e:DD)(wd:WD):Prop where
 prt:lD H nA d ys v
 at':H sa=some (.tup [.int (n:Int),.ref hv,uw])
 cut:(bX nA d)[n]?=some c
 hat:H hv=some (.tup (is.map V.int))
 hl:is.length=(canon c.M).length
 hin:∀i∈is,f8 i
 whv:wq H uw wh
 ed:e.dd=c.d
 dv:wf H ys e
 fit:Bt e wh
 way:c.ws[wh.side]?=some (wd.wy nA)
 wdv:wo H ys d.b.cuts d.b.size wd
theorem iY.mono(k:ai H a)(h:iY H N d y v s n b u c i f e g):iY a N d y v s n b u c i f e g:=
 #[h.prt.mono k,k _ _ h.at',h.cut,k _ _ h.hat,h.hl,h.hin,h.whv.mono k,h.ed,h.dv.mono k,h.fit,h.way,h.wdv.mono k]
noncomputable def Cq(n:Addr)(d:Df)(c:Ct)(i:List Int)(a:Wh)(e:DD)(W:WD):Tr:=ou (eW n d) (eI W.sets (su e a (cq (canon c.M) i))) W.goal
def gw(n:Addr):Sp:=λc H Q _=>∃(v:V) (a:Addr) (d:Df) (y p:List Str) (I:List Int) (w:WD),c=[v,.ref a]/\lD H n d y v/\H d.pa=some (.tup (p.map V.str))/\p.length<=100/\H a=some (.tup (I.map V.int))/\I.length=p.length/\(∀i∈I,f8 i)/\w.wy n=(gI n d).1.w/\wo H y d.b.cuts d.b.size w/\
 ∀(u:V) (h:Hp),aZ h (ou (eW n d) (eI w.sets (cq p I)) w.goal) u []->ae H h->Q u h
def uP(N:Addr):Sp:=λb H Q _=>∃(v U:V) (s f:Addr) (n:Nat) (d:Df) (y:List Str) (c:Ct) (i:List Int) (W:Wh) (e:DD) (a:WD),b=[v,.ref s]/\iY H N d y v s n f U c i W e a/\∀(u:V) (h:Hp),aZ h (Cq N d c i W e a) u []->ae H h->Q u h
theorem Z4(h:Bt e a)(g:GT k):GT (su e a k):=by
 unfold su
 split
 ·exact g.put _ h
 ·exact g.put _ h
 ·exact g
theorem sw{e:DD}{wh:Wh}{k:ba}:(su e wh k).length<=k.length+1:=by
 unfold su
 split
 ·exact ql
 ·exact ql
 ·exact Ff _
theorem nL:ak ["part","args"] ["part","args"] (aa gJ):=bq
theorem Yj(F:aJ K "first_of" "first_of" gJ f I)(J:Cl P w K mg base 8 fE L ["part","way","numbers"] (mY T) "end_of")(M:mg "dict"=none)(b:mg "zip"=none):aj P w K mg base ay 9 f I ["part","args"] (gw T):=by
 refine F.ok nL ?_ λR A O s H vs Q E U h=>?_
 ·rintro _ _ _ _ ⟨v,x,d,y,p,is,z,rfl,_⟩
  rfl
 refine aR λGq B=>?_
 obtain⟨v,x,d,y,p,is,z,rfl,C,g,V,i,n,r,t,W,q⟩:=h
 refine B ?_
 clear B
 refine#[_,(jg (jl (J.e U.m (ja (pv 0) (ja (jw (pv 0)) (ja (@YB _ _ _ _ _ _ _ _ Z M Z b Z (ja (jw (pv 0)) (ja (pv 1) jb)) IQ IQ IQ IQ) jb)))))),?_]
 obtain⟨a,ca,X,cs,rfl,D,G,Y,h0⟩:=C.parts
 rw[<- t]at G
 refine#[_,Z,_,Z,a,_,_,_,Z,Z,aA.of D,jM (j:=2) Z,jp D nB #[_,Z,d.pa,x,p.map Sum.inr,_,Z,by rw[YN];exact aA.of g,aA.of i,by rw[DK,DK,n],λl N=>?_]]
 have S:ae H (af H l (.dK (cq p is))):=je N
 have zl:=YL (ns:=p) (is:=is)
 exact#[.ref a,X,l,d,y,z,cq p is,Z,C.mono (ae.tm S),G.mono (ae.tm S),W.mono (ae.tm S),jc,Kf r,IM,λu H' tu k=>q u H' tu λc o e=>k c o (ji e N) (S _ _ e)]
theorem dS:ak ["part","step","cut","numbers","what","way"] ["part","step"] (aa iE):=bq
theorem Zv{f:Addr}{fd:FuncData}{nA fC fD fF fE:Addr}{f0 f3 f4 f5:FuncData}(F:aJ K "onward" "onward" iE f fd)(cC:Cl P w K mg base 1 fC f0 ["part","n"] (ij nA) "cut_at")(cD:Cl P w K mg base 2 fD f3 ["part","n","held"] (iN nA) "held_at")(cF:Cl P w K mg base 1 fF f4 ["what"] fh "found_in")(cE:Cl P w K mg base 8 fE f5 ["part","way","numbers"] (mY nA) "end_of"):aj P w K mg base ay 9 f fd ["part","step"] (uP nA):=by
 refine F.ok dS ?_ λc0 A o2 s H vs Q E hr h=>?_
 ·rintro _ _ _ _ ⟨v,O,sa,hv,n,d,ys,c,is,wh,e,wd,rfl,_⟩
  rfl
 refine aR λGq kq=>?_
 obtain⟨v,O,sa,hv,n,d,ys,c,is,wh,e,wd,rfl,C,q⟩:=h
 refine kq ?_
 clear kq
 refine#[_,(jd (jx 2 dS.nd (cC.e hr.m (ja (pv 0) (ja (jw (pv 1)) jb)))) (jd (jx 3 dS.nd (cD.e hr.m (ja (pv 0) (ja (jw (pv 1)) (ja (jw (pv 1)) jb))))) (jd (jx 4 dS.nd (jw (pv 1))) (jd (jv (jA zh (jw (pv 4)) (jh (ja jk (ja jk jb))) Z) (jg (ze (kl hr) (pv 3) (jw (jr kI (pv 2) jf (λ_ _=>Z))) (cF.e hr.m (ja (pv 4) jb)) Z)) jm) (jd (jx 5 dS.nd (zb (jA (xW (kl hr)) (pv 4) (jh (ja jk (ja jf jb))) (aD _)) (jw (jr kI (pv 2) jf (λ_ _=>Z))) (jw (jr kI (pv 2) jf (λ_ _=>Z))))) (jg (jl (cE.e hr.m (ja (pv 0) (ja (pv 5) (ja (pv 3) jb))))))))))),?_]
 have b0:=aE
 obtain⟨a,ca,wv,cs,rfl,ha,hw,a0,a1⟩:=C.prt.parts
 have h0:=C.at'
 refine ah λF1 L=>#[_,Z,jp h0 h9 #[_,n,d,ys,c,Z,C.prt,C.cut,λka na wa dv w0 cu=>L _ _ ?_]]
 clear L
 refine ah λF1 L=>#[_,Z,jp h0 h9 (jp h0 nB #[_,n,hv,d,ys,c,is,Z,C.prt,C.cut,C.hat,C.hl,λD n0=>L _ _ ?_])]
 clear L
 have s1:ae H (af H D (.dK (cq (canon c.M) is))):=je n0
 have d1:af H D (.dK (cq (canon c.M) is)) D=some (.dK (cq (canon c.M) is)):=jc
 generalize af H D (.dK (cq (canon c.M) is))=H1 at s1 d1
 have R:=C.mono (ae.tm s1)
 have g0:GT (cq (canon c.M) is):=Kf C.hin
 have z0:=YL (ns:=canon c.M) (is:=is)
 have z1:=Qt cu.v.mem
 have z2:=C.prt.y20
 generalize h7:cq (canon c.M) is=k0 at d1 g0 z0
 refine ah λF1 L=>#[_,Z,sa,_,_,_,Z,Z,aA.of R.at',jM (j:=2) Z,L _ _ ?_]
 clear L
 have o1:Cq nA d c is wh e wd=ou (eW nA d) (eI wd.sets (su e wh k0)) wd.goal:=by unfold Cq;rw[h7]
 rw[o1]at q
 have h1:=zE cu.ways
 rw[DK]at h1
 have I:∃x,w0[wh.side]?=some x/\aZ H (gn (wd.wy nA)) x []:=by
  have hj:wh.side < w0.length:=by rw[h1];exact(List.getElem?_eq_some_iff.mp C.way).1
  obtain⟨tr,ht,tx⟩:=Jm cu.ways wh.side _ (DJ hj)
  rw[D4,C.way]at ht
  cases ht
  exact#[_,DJ hj,tx]
 obtain⟨wx,I,t0⟩:=I
 have h4:=cu.at'
 have h8:=cu.wat
 refine ah λF1 L=>?_
 have r0:∀(H3:Hp),H3 D=some (.dK (su e wh k0))->ar D H1 H3->F1 [some (.ref a),some (.ref sa),some (.ref ka),some (.ref D),some O,none] H3:=by
  intro H3 h3 k3
  refine L _ _ ?_
  clear L
  have s3:ae H H3:=λc o x=>k3 c o (ji x n0) (s1 _ _ x)
  have l3:=sw (e:=e) (wh:=wh) (k:=k0)
  refine ah λF2 f2=>?_
  have f6:∀H4,ae H3 H4->F2 [some (.ref a),some (.ref sa),some (.ref ka),some (.ref D),some O,some wx] H4:=λH4 s4=>f2 _ _ (by
   have S:=s3.trans s4
   exact#[_,Z,_,Z,_,Z,.ref a,wx,D,d,ys,wd,_,Z,C.prt.mono (ae.tm S),t0.mono (ae.tm S),C.wdv.mono (ae.tm S),s4 _ _ h3,Z4 C.fit g0,IM,λu X tu k=>q u X tu λc o x=>k c o (ji x n0) (S _ _ x)])
  clear f2
  have wk:=C.whv.mono (ae.tm s3)
  have G:∀(H4:Hp) (j:Nat),ae H3 H4->w0[j]?=some wx->dG (fu K) (dG (fu K) (aS 2) (tC (.int 2))) (tC (.int (j:Int))) [some (.ref a),some (.ref sa),some (.ref ka),some (.ref D),some O,none] H4 λx H5=>F2 ([some (.ref a),some (.ref sa),some (.ref ka),some (.ref D),some O,none].set 5 (some x)) H5:=λH4 j s4 hj=>
   #[_,Z,ka,_,_,_,Z,Z,aA.of ((s3.trans s4) _ _ h4),jM (j:=2) Z,wa,_,_,_,Z,Z,aA.of ((s3.trans s4) _ _ h8),jM hj,f6 H4 s4]
  cases wh with
  |rd a' i |wr a' b=>
   obtain⟨p,rfl,B⟩:=wk
   exact#[_,Z,bn,λt N=>#[p,t,_,_,Z,Z,aA.of (je N _ _ B),aA.of jc,.inl #[Z,Z,_,Z,aF (by unfold og;exact Iw _) (G _ 0 (je N) I)]]]
  |ask b=>
   obtain⟨p,rfl,B⟩:=wk
   have hb:b=0∨b=1:=by
    have:=C.fit
    cases e with
    |st p l=>cases l<;>exact this.elim
    |ask t T=>exact this
   rcases hb with rfl |rfl
   ·exact#[_,Z,bn,λt N=>#[p,t,_,_,Z,Z,aA.of (je N _ _ B),aA.of jc,.inl #[Z,Z,_,Z,bJ IP (G _ 1 (je N) I)]]]
   ·exact#[_,Z,bn,λt N=>#[p,t,_,_,Z,Z,aA.of (je N _ _ B),aA.of jc,.inl #[Z,Z,_,Z,aF IP (G _ 0 (je N) I)]]]
  |cl f' i0 i=>
   obtain⟨p,c',g,e',rfl,B,h',_⟩:=wk
   exact#[_,Z,bn,λt N=>#[p,t,_,_,Z,Z,aA.of (je N _ _ B),aA.of jc,.inr #[_,c',_,_,_,Z,aA.of (je N _ _ h'),Z,_,Z,aF Z (G _ 0 (je N) I)]]]
 have wk:=R.whv
 have dk:=R.dv
 have fk:=R.fit
 have h5:=s1 _ _ h4
 have d0:=cu.deed
 rw[<- C.ed]at d0
 have skip:∀(p:Addr) (W:Str) (r:List V),O= .ref p->H1 p=some (.tup (.str W::r))->mx (.str W) [.str "read",.str "call"]=false->su e wh k0=k0->iS (il (dG (BJ K false) (dG (fu K) (aS 4) (tC (.int 0))) (bK (al (tC (.str "read")) (al (tC (.str "call")) aI))))) (ph (aS 3) (dG (fu K) (dG (fu K) (aS 2) (tC (.int 1))) (tC (.int 1))) (dD fh [] E0 (al (aS 4) aI))) rH { nx:=F1,rt:=Q } [some (.ref a),some (.ref sa),some (.ref ka),some (.ref D),some O,none] H1:=by
  intro p W r J B e2 e3
  subst J
  refine wO λG1 k1 k2=>(jp B h9 #[bn,λt N=>#[t,_,Z,.inr (aA.of jc),Z,Z,_,Z,?_]])
  show G1 (mx (.str W) [.str "read",.str "call"]) _
  rw[e2]
  exact k2 _ (r0 _ (by rw[e3];exact ap d1 N) λc o _ x=>je N _ _ x)
 have p0:∀(p p':Addr) (W:Str) (r:List V) (i:Int) (x:Str) (y:V) (r':List V),O= .ref p->H1 p=some (.tup (.str W::r))->mx (.str W) [.str "read",.str "call"]=true->dv= .ref p'->H1 p'=some (.tup (y:: .str x::r'))->(∀X:Hp,ae H1 X->wq X O wh)->(∀(Q':VK) (X:Hp),Q' (.int i) X->oj Q' X wh)->su e wh k0=aH k0 (.inr x) (.int i)->iS (il (dG (BJ K false) (dG (fu K) (aS 4) (tC (.int 0))) (bK (al (tC (.str "read")) (al (tC (.str "call")) aI))))) (ph (aS 3) (dG (fu K) (dG (fu K) (aS 2) (tC (.int 1))) (tC (.int 1))) (dD fh [] E0 (al (aS 4) aI))) rH { nx:=F1,rt:=Q } [some (.ref a),some (.ref sa),some (.ref ka),some (.ref D),some O,none] H1:=by
  intro p p' W r i x y r' J B e2 e4 Y e5 e6 e3
  subst J
  subst e4
  refine wO λG1 k1 k2=>(jp B h9 #[bn,λt N=>#[t,_,Z,.inr (aA.of jc),Z,Z,_,Z,?_]])
  show G1 (mx (.str W) [.str "read",.str "call"]) _
  rw[e2]
  refine k1 _ #[_,Z,.ref p,wh,Z,e5 _ (je N),e6 _ _ ?_]
  exact#[_,Z,jp (je N _ _ h5) nB #[p',_,_,_,Z,Z,aA.of (je N _ _ Y),nB,D,_,Z,.inl #[k0,.inr x,ap d1 N,Z,IM,Z],r0 _ (by rw[e3];exact jc) λc o nc z=>by rw[jj nc];exact je N _ _ z]]
 cases e with
 |ask t T=>
  cases wh with
  |ask b=>obtain⟨p,J,B⟩:=wk;exact skip p _ _ J B IP Z
  |_=>exact fk.elim
 |st p' l=>
  obtain⟨vs,Y,h6,_⟩:=dk
  have ed:dv= .ref p':=d0.1
  cases l with
  |rd x t T=>
   cases wh with
   |rd b i=>obtain⟨p,J,B⟩:=wk;obtain⟨rfl,_⟩:=h6;exact p0 p p' _ _ i x _ _ J B IP ed Y (λX s'=>#[p,J,s' _ _ B]) (λ_ _ h=>h) Z
   |_=>exact fk.elim
  |wr t u T U=>
   cases wh with
   |wr b i=>obtain⟨p,J,B⟩:=wk;exact skip p _ _ J B IP Z
   |_=>exact fk.elim
  |cl x f' q' ts=>
   cases wh with
   |cl f2 i1 i=>obtain⟨p,c2,g2,e2,J,B,h2,h3⟩:=wk;obtain⟨rfl,_⟩:=h6;exact p0 p p' _ _ i x _ _ J B IP ed Y (λX s'=>#[p,c2,g2,e2,J,s' _ _ B,s' _ _ h2,s' _ _ h3]) (λ_ _ h=>h) Z
   |_=>exact fk.elim
  |st x t T |gv t T=>cases wh<;>exact fk.elim
noncomputable abbrev gr:Stmt:=bE 25
noncomputable abbrev iu:Stmt:=bE 26
noncomputable def Dc(k:ba):DD->Tr
 | .st _ (.rd _ _ T)=>bM [cQ "read",c8 (T.ev k)]
 | .st _ (.wr _ _ T U)=>bM [cQ "write",c8 (T.ev k),c8 (U.ev k)]
 | .st _ (.cl _ f _ t)=>bM [cQ "call",cQ f,bM (t.map λc=>c8 (c.2.ev k))]
 | .ask _ T=>bM [cQ "ask",c8 (if T.ev k=0 then 0 else 1)]
 |_=>.nil
def gu(N:Addr):Sp:=λb H Q _=>∃(v:V) (n:Nat) (a:Addr) (d:Df) (y:List Str) (c:Ct) (I:List Int) (e:DD),b=[v,.int (n:Int),.ref a]/\lD H N d y v/\(bX N d)[n]?=some c/\H a=some (.tup (I.map V.int))/\I.length=(canon c.M).length/\(∀i∈I,f8 i)/\e.dd=c.d/\wf H y e/\
 ∀(u:V) (h:Hp),aZ h (Dc (cq (canon c.M) I) e) u []->ae H h->Q u h
def g9:Sp:=λv H Q _=>∃(a d:Addr) (t:List (Addr×Tm)) (y:List Str) (k:ba),v=[.ref a,.ref d]/\H a=some (.tup (t.map λc=>V.ref c.1))/\t.length<=6/\(∀c∈t,aW H c.2 c.1/\cR y c.2)/\H d=some (.dK k)/\GT k/\
 ∀(r:Addr) (h:Hp),h r=some (.tup (t.map λc=>V.int (c.2.ev k)))->ae H h->Q (.ref r) h
theorem pV:ak ["terms","numbers"] ["terms","numbers"] (aa gr):=bq
noncomputable def Yk:Scope:=#[.function,[(".0",.local),("term",.local),("worth",.globalImplicit),("numbers",.free)],false,false,[]]
theorem sW:(["term","numbers"]:List Str).Nodup:=by decide+kernel
theorem sE:a8 ["terms","numbers"] (aa gr) Yk ["term","numbers"] 1 [1]:=nR
theorem Zw(F:aJ K "worths" "worths" gr f v)(C:Cl P w K mg base 7 U B ["term","held"] (cn K 6) "worth")(M:mg "tuple"=none):aj P w K mg base ay 8 f v ["terms","numbers"] g9:=by
 refine F.ok pV ?_ λG A o s H R Q E I h=>?_
 ·rintro _ _ _ _ ⟨a,D,t,g,k,rfl,_⟩
  rfl
 refine aR λS j=>?_
 obtain⟨a,D,t,g,k,rfl,p,W,b,J,L,q⟩:=h
 refine j ?_
 clear j
 refine#[_,(jg (jl (jz jB Z M EZ (ja (@za _ _ _ _ _ _ _ (["term","numbers"]) (1) ([1]) _ _ _ _ Z (zI (pv 0)) sE (λ_ _ _ _ _=>(js (i:=0) sW Z (Or.inl Z))) (λ_ _ _ _ _=>(@zn _)) (λ_ _ _ _ _=>(C.e I.m (ja (pv 0) (ja (pv 1) jb)))) (by intro _;rfl)) jb)))),?_]
 have N:=aE
 refine#[_,Z,a,Z,#[_,aA.of p],?_]
 refine qr (K:=K) (xs:=t.map λc=>V.ref c.1) (by rw[DK];omega) (λi z d=>z=(t.take i).map (λc=>V.int (c.2.ev k))/\d=H) #[Z,Z] (λi z d h=>?_) (λi x z d r h=>?_) (λz d h l O=>?_)
 ·obtain⟨rfl,rfl⟩:=h
  exact#[aA.of p,by rw[DK,Ec];omega]
 ·obtain⟨rfl,rfl⟩:=h
  rw[D4]at r
  obtain⟨y,u,rfl⟩:=Option.map_eq_some_iff.mp r
  have Y:=D5 u
  refine#[_,Z,_,Z,y.1,D,y.2,g,k,Z,.inl (b y Y).1,(b y Y).2.2,(b y Y).2.1,J,L,?_,Z]
  rw[Eu,u,Ef]
  rfl
 ·obtain⟨rfl,rfl⟩:=h
  rw[DK,Er]
  exact#[l,_,Z,.inl #[aC.of jc,λT n=>q T _ jc ((je O).trans (je n))]]
theorem fb:ak ["part","n","held","numbers","deed","word"] ["part","n","held"] (aa iu):=bq
theorem Zx(F:aJ K "deed_at" "deed_at" iu f fd)(cH:Cl P w K mg base 2 fH f0 ["part","n","held"] (iN nA) "held_at")(cC:Cl P w K mg base 1 fC f2 ["part","n"] (ij nA) "cut_at")(cW:Cl P w K mg base 7 fW f3 ["term","held"] (cn K 6) "worth")(cS:Cl P w K mg base 8 fS f4 ["terms","numbers"] g9 "worths"):aj P w K mg base ay 9 f fd ["part","n","held"] (gu nA):=by
 refine F.ok fb ?_ λc0 A o1 s H vs Q E L h=>?_
 ·rintro _ _ _ _ ⟨v,n,hv,d,Y,c,is,e,rfl,_⟩
  rfl
 refine aR λGq kq=>?_
 obtain⟨v,n,hv,d,Y,c,is,e,rfl,hp,hc,hh,hl,h0,h1,h2,q⟩:=h
 refine kq ?_
 clear kq
 refine#[_,(jd (jx 3 fb.nd (cH.e L.m (ja (pv 0) (ja (pv 1) (ja (pv 2) jb))))) (jd (jx 4 fb.nd (jr kI (cC.e L.m (ja (pv 0) (ja (pv 1) jb))) jf (λ_ _=>Z))) (jd (jx 5 fb.nd (jw (pv 4))) (jd (jv (jX (pv 5)) (jg (jl (jh (ja (pv 5) (ja (zb (jA qK (cW.e L.m (ja (jw (pv 4)) (ja (pv 3) jb))) jf (aD _)) jf jf) jb))))) jm) (jd (jv (jX (pv 5)) (jg (jl (jh (ja (pv 5) (ja (jw (pv 4)) (ja (cS.e L.m (ja (jw (pv 4)) (ja (pv 3) jb))) jb)))))) jm) (jd (jv (jX (pv 5)) (jg (jl (jh (ja (pv 5) (ja (cW.e L.m (ja (jw (pv 4)) (ja (pv 3) jb))) jb))))) jm) (jg (jl (ju kh (jh (ja (pv 5) jb)) (cS.e L.m (ja (jH zU (pv 4) (jE jf) ke) (ja (pv 3) jb)))))))))))),?_]
 have b0:=aE
 obtain⟨a,ca,p0,cs,rfl,ha,_,h7,h8⟩:=hp.parts
 refine ah λi b=>#[_,Z,_,Z,_,Z,.ref a,n,hv,d,Y,c,is,Z,hp,hc,hh,hl,λC n0=>b _ _ ?_]
 clear b
 have S:ae H (af H C (.dK (cq (canon c.M) is))):=je n0
 have O:af H C (.dK (cq (canon c.M) is)) C=some (.dK (cq (canon c.M) is)):=jc
 show fQ _ _ _ _ (af H C (.dK (cq (canon c.M) is)))
 generalize af H C (.dK (cq (canon c.M) is))=H1 at S O
 have V:GT (cq (canon c.M) is):=Kf h0
 generalize cq (canon c.M) is=k at O V q
 have dk:=h2.mono (ae.tm S)
 refine ah λi b=>#[_,Z,_,Z,.ref a,n,d,Y,c,Z,hp.mono (ae.tm S),hc,λka na wa dv w0 cu=>#[ka,_,_,_,Z,Z,aA.of cu.at',nB,b _ _ ?_]]
 clear b
 have D:=cu.deed
 rw[<- h1]at D
 cases e with
 |ask t T=>
  obtain⟨_,p,xs,rfl,g,_,_,y0,z0,rfl,⟨rfl,_⟩,_,_,y1,z1,rfl,⟨rfl,_⟩,e⟩:=D
  have e:z1=[]:=e
  subst e
  refine ah λi b=>(jp g h9 (b _ _ ?_))
  clear b
  refine ah λi b=>#[_,Z,Z,_,Z,bJ IP #[_,Z,jp g nB #[_,Z,t,C,T,Y,k,Z,.inl dk.1,dk.2.2,dk.2.1,O,V,Z,_,Z,?_]]]
  by_cases z:T.ev k=0
  ·refine bJ (by rw[z];decide+kernel) #[bn,λr G=>q _ _ (jJ jc (jq Z kJ (jq Z #[?_,Z] jF))) (S.trans (je G))]
   rw[D0 z]
  ·refine aF (by rw[DU];intro e;injection e with e;exact z e) #[bn,λr G=>q _ _ (jJ jc (jq Z kJ (jq Z #[?_,Z] jF))) (S.trans (je G))]
   rw[D1 z]
 |st p l=>
  have ed:dv= .ref p:=D.1
  subst ed
  obtain⟨vs,g,I,B,h3⟩:=dk
  cases l with
  |rd x t T=>
   obtain⟨rfl,ht⟩:=I
   refine ah λi b=>(jp g h9 (b _ _ ?_))
   clear b
   refine ah λi b=>#[_,Z,Z,_,Z,aF IP (b _ _ ?_)]
   clear b
   refine ah λi b=>#[_,Z,Z,_,Z,aF IP (b _ _ ?_)]
   clear b
   refine ah λi b=>#[_,Z,Z,_,Z,bJ IP #[_,Z,_,Z,p,_,_,_,Z,Z,aA.of g,jM (j:=2) Z,_,Z,t,C,T,Y,k,Z,.inl ht,B.2.2,B.2.1,O,V,bn,λr G=>?_]]
   exact q _ _ (jJ jc (jq Z kJ (jq Z qF jF))) (S.trans (je G))
  |wr t u T U=>
   obtain⟨rfl,ht,hu⟩:=I
   refine ah λi b=>(jp g h9 (b _ _ ?_))
   clear b
   refine ah λi b=>#[_,Z,Z,_,Z,aF IP (b _ _ ?_)]
   clear b
   refine ah λi b=>#[_,Z,Z,_,Z,aF IP (b _ _ ?_)]
   clear b
   refine ah λi b=>#[_,Z,Z,_,Z,aF IP (b _ _ ?_)]
   clear b
   refine#[_,Z,lg,λr1 N=>#[_,Z,1,Z,p,_,Z,je N _ _ g,λr2 H2 J R=>#[_,Z,r2,C,[(t,T),(u,U)],Y,k,Z,J,(by show 2<=6;decide),?_,R _ _ (je N _ _ O),V,λr3 H3 h4 s3=>#[r1,r3,_,_,Z,Z,s3 _ _ (R _ _ jc),h4,dU,λr4 H4 h5 s4=>?_]]]]
   ·intro y W
    have X:=(je (o:=.tup [.str "write"]) N).trans R
    simp only[Fn,Eb,Gz]at W
    rcases W with rfl |rfl
    ·exact#[ht.same X,B.1]
    ·exact#[hu.same X,B.2]
   ·exact q _ _ (jJ h5 (jq Z kJ (jq Z qF (jq Z qF jF)))) (S.trans ((je N).trans (R.trans (s3.trans s4))))
  |cl x f' qa ts=>
   obtain⟨rfl,hq,h6⟩:=I
   refine ah λi b=>(jp g h9 (b _ _ ?_))
   clear b
   refine ah λi b=>#[_,Z,Z,_,Z,aF IP (b _ _ ?_)]
   clear b
   have l6:ts.length<=6:=B.2.1
   refine ah λi b=>#[_,Z,Z,_,Z,bJ IP #[_,Z,_,Z,p,_,_,_,Z,Z,aA.of g,jM (j:=2) Z,_,Z,p,_,_,_,Z,Z,aA.of g,jM (j:=3) Z,_,Z,qa,C,ts,Y,k,Z,hq,l6,λy W=>#[h6 y W,B.2.2 y W],O,V,λr2 H2 J R=>#[dU,λr G=>?_]]]
   refine q _ _ (jJ jc (jq Z kJ (jq Z kJ (jq Z (jJ (ap J G) ?_) jF)))) (S.trans (R.trans (je G)))
   have:=QK (H:=af H2 r (.tup [.str "call",.str f',.ref r2])) (is:=ts.map λc=>c.2.ev k)
   rw[Gr,Gr]at this
   exact this
  |st x t T |gv t T=>cases h3
noncomputable abbrev iB:Stmt:=bE 17
noncomputable abbrev lO:Stmt:=bE 18
noncomputable abbrev iw:Stmt:=bE 19
noncomputable abbrev pE:Stmt:=bP (bE 20) 0
noncomputable abbrev lS:Stmt:=bP (bE 20) 1
noncomputable abbrev pF:Stmt:=bP (bE 20) 2
noncomputable abbrev iF:Stmt:=bE 22
def yX(H:Hp)(x:V)(g:Str):Prop:=∃p r,x= .ref p/\H p=some (.tup (.str g::r))
def i9:Sp:=λb H Q _=>∃(a:Addr) (f:Str) (X:List V) (i:Nat) (v:V),b=[.ref a,.str f]/\H a=some (.tup X)/\X[i]?=some v/\yX H v f/\(∀j x,j < i->X[j]?=some x->∃g,yX H x g/\g≠f)/\Q v H
def iK:Sp:=λd H Q _=>∃(a g:Addr) (f:Str) (X y:List V) (i:Nat) (v:V) (p b:Addr) (r c:List V),d=[.ref a,.str f,.ref g]/\H a=some (.tup X)/\X[i]?=some v/\v= .ref p/\H p=some (.tup (.str f:: .ref b::r))/\H b=some (.tup c)/\H g=some (.tup y)/\y.length=c.length/\(∀j x,j < i->X[j]?=some x->∃g,yX H x g/\g≠f)/\Q v H
noncomputable def gF(c l p:Addr)(m:Int)(t:Nat):List (Str×V):=[("cells",.ref c),("most",.int m),("left",.ref l),("turns",.int (t:Int)),("parts",.ref p)]
structure Rn(H:Hp)(C r dx cA lA pA:Addr)(m:Int)(t:Nat)(L Cs:ba):Prop where
 ins:H r=some (.ins C dx (gF cA lA pA m t))
 lf:H lA=some (.dK L)
 ce:H cA=some (.dK Cs)
 iL:GT L
 iC:GT Cs
 cl:cA≠lA
structure RK(K:Frag)(C:Addr):Prop where
 cl:nq K C
 n1:bj K C "cells"
 n2:bj K C "most"
 n3:bj K C "left"
 n4:bj K C "turns"
 n5:bj K C "parts"
def gA(C:Addr):Sp:=λv H Q _=>∃(r d b l p:Addr) (m c:Int) (t:Nat) (L a:ba),v=[.ref r,.int c]/\Rn H C r d b l p m t L a/\Q (.int (look L (.inl c) (look a (.inl c) 0))) H
def mj(C:Addr):Sp:=λv H Q _=>∃(r d c:Addr) (m:Int),v=[.ref r,.ref c,.int m]/\H r=some (.ins C d [])/\∀l,H l=none->Q .non (af (af H l (.dK [])) r (.ins C d [("cells",.ref c),("most",.int m),("left",.ref l),("turns",.int 0)]))
structure XM(K:Frag)(mg:Str->Option Value)(x:Str)(L:Addr):Prop where
 ex:excIn K L nD "ValueError.__new__"=true
 kp:keepIn K (.ref L)=true
 xc:nV K L
 ty:typeIn K (.ref L)=some (.type "type")
 m:mg x=some (.ref L)
def NX(o:HO):Prop:=∀a,o≠ .ext a
def Kp(H h:Hp):Prop:=∀b o,NX o->H b=some o->h b=some o
theorem Kp.of_same(s:ae H h):Kp H h:=λb o _ e=>s _ _ e
theorem Kp.trans(a:Kp H h)(b:Kp h d):Kp H d:=λc o n e=>b c o n (a c o n e)
def my(E:XK):XK:=λC d H=>∀x T t c,C= .ref c->H x=some (gg c d T x)->H T=some (eQ T)->H t=none->E (.ref c) d (af (af H t (eQ t)) x (gg c d t x))
theorem zQ{P:Program}{w:World}{K:Frag}{mg:Str->Option Value}{base:Heap}:cX (eN P w) (eU (eN P w) P w K mg base N q s f g A o a H E) (my E):=
 tX λx C d T t i b c e h=>h x T t C Z b c e
theorem JT{H h:Hp}(e:h b=some o)(n:NX o)(a:h x=some (gg C d T x))(c:h t=none):af (af h t (eQ t)) x (gg C d t x) b=some o:=by
 have N:b≠x:=λz=>by
  rw[z,a]at e
  injection e with e
  exact n _ e.symm
 rw[jj N,jj (ji e c)]
 exact e
def Fl(E:XK)(L:Addr)(R:Hp->Prop):Prop:=∀(_:Unit) H,R H->E (.ref L) none H
def iR(C L:Addr):Sp:=λv H Q E=>∃(r d c l p:Addr) (m:Int) (t:Nat),v=[.ref r]/\H r=some (.ins C d (gF c l p m t))/\((t:Int) < m->Q .non (af H r (.ins C d (gF c l p m (t+1)))))/\(m<=(t:Int)->Fl E L (Kp H))
def fg(D:Addr):Sp:=λv H Q E=>∃d:Int,v=[.int d]/\(d < 15->Q (.int (d+1)) H)/\(15<=d->Fl E D (Kp H))
theorem Xh{H:Hp}(a:H x=none)(N:af H x (vg L none x) T=none):ae H (af (af (af H x (vg L none x)) T (eQ T)) x (gg L d T x)):=by
 intro b o e
 have n:b≠x:=ji e a
 rw[jj n,jj (λz=>by rw[<- z,jj n,e]at N;cases N),jj n]
 exact e
theorem i8:ak ["ones","f","one"] ["ones","f"] (aa iB):=bq
theorem Zy(F:aJ K "named" "named" iB f D):aj P w K mg base ay 1 f D ["ones","f"] i9:=by
 refine F.ok i8 ?_ λG A o s H W Q E X h=>?_
 ·rintro _ _ _ _ ⟨a,f,xs,i,v,rfl,_⟩
  rfl
 refine aR λI b=>?_
 obtain⟨a,f,xs,i,v,rfl,t,u,L,d,q⟩:=h
 refine b ?_
 clear b
 refine#[_,(jd (j6 Ej Z (zI (pv 0)) (js (i:=2) i8.nd Z (Or.inl Z)) (jg (jv (jA qK (jw (pv 2)) (pv 1) (aD _)) (jg (jl (pv 2))) jm))) (@ZV _ _)),?_]
 have M:i < xs.length:=(List.getElem?_eq_some_iff.mp u).1
 refine ah λY f1=>dJ λJ j=>#[_,Z,a,Z,#[_,aA.of t],j _ _ ?_]
 clear j
 refine qj (K:=K) (xs:=xs) (λk c e=>(∃O,c=[some (.ref a),some (.str f),O])/\e=H/\k<=i) #[#[_,Z],Z,DX _] (λk c e _ h=>by rw[h.2.1];exact aA.of t) ?_ (λc e h=>?_)
 ·intro l R k x c H2 m N I b h
  obtain⟨⟨O,rfl⟩,rfl,y⟩:=h
  refine b ?_
  clear b
  by_cases S:k=i
  ·subst S
   rw[u]at m
   cases m
   obtain⟨p,r,rfl,n⟩:=id L
   show iS _ _ _ l _ _
   refine wO λT B C=>(jp n h9 #[_,Z,Z,_,Z,?_])
   rw[Ea (Z:V.str f=V.str f)]
   refine B _ ?_
   show eh _ l _ _
   unfold eh
   rw[R]
   exact#[_,Z,q]
  ·obtain⟨g,⟨p,r,rfl,n⟩,U⟩:=d k x IM m
   show iS _ _ _ l _ _
   refine wO λT B C=>(jp n h9 #[_,Z,Z,_,Z,?_])
   rw[DU (λz=>U (by injection z))]
   exact C _ (N _ _ #[#[_,Z],Z,IM])
 ·obtain⟨_,_,y⟩:=h
  exact absurd y IM
theorem pS:ak ["parts","f"] ["parts","f"] (aa iF):=bq
theorem Zz(F:aJ K "part_of" "part_of" iF f c)(C:Cl P w K mg base 1 r d ["ones","f"] i9 "named"):aj P w K mg base ay 2 f c ["parts","f"] i9:=by
 refine F.ok pS ?_ λg A o s H V Q E j h=>?_
 ·rintro _ _ _ _ ⟨a,f,x,i,v,rfl,_⟩
  rfl
 refine aR λG k=>?_
 obtain⟨a,f,x,i,v,rfl,l,n,p,b,q⟩:=h
 refine k ?_
 clear k
 refine#[_,(jg (jl (C.e j.m (ja (pv 0) (ja (pv 1) jb))))),?_]
 exact#[_,Z,_,Z,a,f,x,i,v,Z,l,n,p,b,q]
theorem mM:ak ["ones","f","args","one"] ["ones","f","args"] (aa lO):=bq
theorem oF(F:aJ K "begun" "begun" lO f j)(C:Cl P w K mg base 1 N l ["ones","f"] i9 "named")(M:mg "len"=none):aj P w K mg base ay 2 f j ["ones","f","args"] iK:=by
 refine F.ok mM ?_ λn A o s H V Q E t h=>?_
 ·rintro _ _ _ _ ⟨a,g,f,x,y,i,v,p,c,r,u,rfl,_⟩
  rfl
 refine aR λO k=>?_
 obtain⟨a,g,f,x,y,i,v,p,c,r,u,rfl,z,B,rfl,d,D,G,I,J,q⟩:=h
 refine k ?_
 clear k
 refine#[_,(jd (jx 3 mM.nd (C.e t.m (ja (pv 0) (ja (pv 1) jb)))) (jd (jv (jA KY (jO jK Z M EX (ja (pv 2) jb)) (jO jK Z M EX (ja (jw (pv 3)) jb)) (aD _)) (@ZV _ _) jm) (jg (jl (pv 3))))),?_]
 refine ah λL b=>#[_,Z,_,Z,a,f,x,i,.ref p,Z,z,B,#[p,_,Z,d],J,b _ _ ?_]
 clear b
 refine ah λL b=>#[_,Z,g,_,Z,.inr (aA.of G),jp d nB #[c,_,Z,.inr (aA.of D),Z,_,Z,aF (by rw[I];simp) (b _ _ #[_,Z,q])]]
theorem pM:ak ["deep"] ["deep"] (aa iw):=bq
theorem ZA(F:aJ K "deeper" "deeper" iw f a)(M:mg "DEEPEST"=some (.int 15 t))(X:XM K mg "TooDeep" D):aj P w K mg base (eN P w) 1 f a ["deep"] (fg D):=by
 refine F.ok1 pM ?_ λC A o s H V Q E g h=>?_
 ·rintro _ _ _ _ ⟨d,rfl,_⟩
  rfl
 refine aR λG k=>?_
 obtain⟨d,rfl,q,e⟩:=h
 refine k ?_
 clear k
 refine#[_,(jd (jv (jA ZF (pv 0) (qO (v:=.int 15) Z M #[t,Z]) (aD _)) (jg (@Q5 _ _ _ _ _ Z Qk (@Qh _ _ _ _ _ X.ex X.kp Z X.m IL))) jm) (jg (jl (ju jV (pv 0) jf)))),?_]
 refine ah λi b=>#[_,Z,_,_,Z,Z,_,Z,?_]
 by_cases c:(15:Int)<=d
 ·refine bJ (Ea c) λx n=>?_
  exact#[x,D,none,Z,jc,X.xc,X.ty,λT N=>e c () _ (Kp.of_same (Xh n N))]
 ·exact aF (DU c) (b _ _ #[_,Z,_,_,Z,Z,q IM])
theorem yB:ak ["self","cells","most"] ["self","cells","most"] (aa pE):=bq
theorem tQ(F:aJ K "__init__" "Turns.__init__" pE f v)(c:RK K C):aj P w K mg base ay 1 f v ["self","cells","most"] (mj C):=by
 refine F.ok yB ?_ λx A o s H V Q E B h=>?_
 ·rintro _ _ _ _ ⟨r,D,y,m,rfl,_⟩
  rfl
 refine aR λG k=>?_
 obtain⟨r,D,y,m,rfl,g,q⟩:=h
 refine k ?_
 clear k
 refine#[_,(jd (@qC _ _ _ _ _ _ _ _ (pv 0) (pv 1) Z) (jd (@qC _ _ _ _ _ _ _ _ (pv 0) (pv 2) Z) (jd (@qC _ _ _ _ _ _ _ _ (pv 0) qi Z) (jg (@qC _ _ _ _ _ _ _ _ (pv 0) jf Z))))),?_]
 refine ah λj a=>#[_,Z,_,Z,r,C,D,_,Z,g,c.cl,c.n1,IL,a _ _ ?_]
 clear a
 refine ah λj a=>#[_,Z,_,Z,r,C,D,_,Z,jc,c.cl,c.n2,(by show 1 < 1000;decide),a _ _ ?_]
 clear a
 refine ah λj a=>λl n=>#[_,Z,r,C,D,_,Z,ap jc n,c.cl,c.n3,(by show 2 < 1000;decide),a _ _ ?_]
 clear a
 refine#[_,Z,r,C,D,_,Z,jc,c.cl,c.n4,(by show 3 < 1000;decide),?_]
 have N:l≠r:=λe=>by rw[e,jc]at n;cases n
 have z:H l=none:=by rw[jj N,jj N]at n;exact n
 have e:∀p t u O:HO,af (af (af (af (af H r p) r t) l (.dK [])) r u) r O=af (af H l (.dK [])) r O:=λp t u O=>by
  funext b
  by_cases d:b=r
  ·rw[d,jc,jc]
  ·rw[jj d,jj d,jj d]
   by_cases i:b=l
   ·rw[i,jc,jc]
   ·rw[jj i,jj d,jj d,jj i]
 rw[e]
 exact q l z
theorem uK:ak ["self"] ["self"] (aa lS):=bq
theorem oN(F:aJ K "take_turn" "Turns.take_turn" lS f g)(b:RK K C)(X:XM K mg "TooLong" L):aj P w K mg base (eN P w) 1 f g ["self"] (iR C L):=by
 refine F.ok1 uK ?_ λi A o s H v Q E y h=>?_
 ·rintro _ _ _ _ ⟨r,d,j,l,p,m,t,rfl,_⟩
  rfl
 refine aR λG k=>?_
 obtain⟨r,d,j,l,p,m,t,rfl,a,q,e⟩:=h
 refine k ?_
 clear k
 refine#[_,(jd (jv (jA ZF (zk (pv 0) Z) (zk (pv 0) Z) (aD _)) (jg (@Q5 _ _ _ _ _ Z Qk (@Qh _ _ _ _ _ X.ex X.kp Z X.m IL))) jm) (jg (@YY _ _ _ _ _ _ _ _ _ _ (pv 0) jf wP))),?_]
 refine ah λz n=>#[_,Z,r,C,d,_,_,Z,a,b.cl,b.n4,Z,_,Z,r,C,d,_,_,Z,a,b.cl,b.n2,Z,_,_,Z,Z,_,Z,?_]
 by_cases c:m<=(t:Int)
 ·refine bJ (Ea c) λx N=>?_
  exact#[x,L,none,Z,jc,X.xc,X.ty,λT u=>e c () _ (Kp.of_same (Xh N u))]
 ·exact aF (DU c) (n _ _ #[_,Z,r,C,d,_,_,Z,a,b.cl,b.n4,Z,_,_,Z,Z,d,_,a,(by show 5 < 1000;decide),q IM])
theorem yC:ak ["self","cell"] ["self","cell"] (aa pF):=bq
theorem tR(F:aJ K "number_in" "Turns.number_in" pF f p)(b:RK K C):aj P w K mg base ay 1 f p ["self","cell"] (gA C):=by
 refine F.ok yC ?_ λu A o s H V Q E g h=>?_
 ·rintro _ _ _ _ ⟨r,d,i,l,x,m,c,t,L,j,rfl,_⟩
  rfl
 refine aR λG n=>?_
 obtain⟨r,d,i,l,x,m,c,t,L,j,rfl,a,q⟩:=h
 refine n ?_
 clear n
 refine#[_,(jg (jl (zb (ZK (@x6 _ _ _ _ _ (kl g) (pv 1) (zk (pv 0) Z))) (ua (kl g) (zk (pv 0) Z) (pv 1) (λ_ _=>Z)) (@kW _ _ _ _ _ _ _ _ _ (kl g) (zk (pv 0) Z) (pv 1) jf #[IQ,IQ,IQ,IQ])))),?_]
 refine#[_,Z,_,Z,r,C,d,_,_,Z,a.ins,b.cl,b.n3,Z,l,_,Z,dm.k (k:=.inl c) a.lf,_,Z,?_]
 cases e:be L (.inl c) with
 |some v=>
  refine bJ Z #[_,Z,r,C,d,_,_,Z,a.ins,b.cl,b.n3,Z,_,Z,l,v,Z,by rw[<- e];exact dm.k (k:=.inl c) a.lf,?_]
  rw[Zr a.iL e (look j (.inl c) 0)]
  exact q
 |none=>
  refine aF Z #[_,Z,r,C,d,_,_,Z,a.ins,b.cl,b.n1,Z,i,Z,.inl #[_,.inl a.ce],_,Z,_,dm.k (k:=.inl c) a.ce,?_]
  rw[Kk a.iC]
  rw[Qs e]at q
  exact q
noncomputable abbrev pe:Stmt:=bP (bE 50) 0
noncomputable abbrev uo:Stmt:=bP (bE 50) 1
noncomputable abbrev uq:Stmt:=bP (bE 50) 2
noncomputable abbrev yw:Stmt:=bE 51
inductive Sk where
 |nil |st (n:Int) (hs:List Int) (w r:Sk) |ask (b:Int) |rd (c i:Int) |wr (c i:Int) |cl (f:Str) (is:List Int) (s:Sk) (a:Int)
noncomputable def Sk.dep:Sk->Nat
 | .st _ _ w r=>max w.dep r.dep
 | .cl _ _ s _=>s.dep+1
 |_=>0
noncomputable def Sk.size:Sk->Nat
 | .st _ _ w r=>w.size+r.size+1
 | .cl _ _ s _=>s.size
 |_=>0
def Sk.ok:Bool->Sk->Prop
 |true,.nil=>True
 |true,.st _ _ w r=>w.ok false/\r.ok true
 |false,.cl _ _ s _=>s.ok true
 |false,.ask _=>True
 |false,.rd _ _=>True
 |false,.wr _ _=>True
 |_,_=>False
def dY(H:Hp):Sk->V->List V->Prop
 | .nil,_,x=>x=[]
 | .st n d w r,_,x=>∃p h u y,x= .ref p::y/\H p=some (.tup [.int n,.ref h,u])/\H h=some (.tup (d.map V.int))/\dY H w u []/\dY H r .non y
 | .ask b,u,_=>∃p,u= .ref p/\H p=some (.tup [.str "ask",.int b])
 | .rd c i,u,_=>∃p,u= .ref p/\H p=some (.tup [.str "read",.int c,.int i])
 | .wr c i,u,_=>∃p,u= .ref p/\H p=some (.tup [.str "write",.int c,.int i])
 | .cl f I s a,u,_=>∃p c g e S,u= .ref p/\H p=some (.tup [.str "call",.ref c])/\H c=some (.tup [.str f,.ref g,.ref e,.int a])/\H g=some (.tup (I.map V.int))/\H e=some (.tup S)/\dY H s .non S
theorem dY.mono(k:ai H i):∀{s:Sk} {u:V} {x:List V},dY H s u x->dY i s u x
 | .nil,_,_,h=>h
 | .st _ _ _ _,_,_,z=>by obtain⟨p,h,u,y,e,a,b,d,f⟩:=z;exact #[p,h,u,y,e,k _ _ a,k _ _ b,dY.mono k d,dY.mono k f]
 | .ask _,_,_,z=>by obtain⟨p,e,h⟩:=z;exact #[p,e,k _ _ h]
 | .rd _ _,_,_,z=>by obtain⟨p,e,h⟩:=z;exact #[p,e,k _ _ h]
 | .wr _ _,_,_,z=>by obtain⟨p,e,h⟩:=z;exact #[p,e,k _ _ h]
 | .cl _ _ _ _,_,_,z=>by obtain⟨p,c,g,e,S,E,a,b,d,f,j⟩:=z;exact #[p,c,g,e,S,E,k _ _ a,k _ _ b,k _ _ d,k _ _ f,dY.mono k j]
noncomputable def Sk.put(n:Int)(h:List Int)(W:Sk):Sk->Sk
 | .st a b c r=>.st a b c (Sk.put n h W r)
 |_=>.st n h W .nil
theorem Yp{H:Hp}{n:Int}{a:List Int}{w:Sk}{p h:Addr}{u:V}(b:H p=some (.tup [.int n,.ref h,u]))(c:H h=some (.tup (a.map V.int)))(d:dY H w u []):∀{s:Sk} {x:List V},s.ok true->dY H s .non x->dY H (Sk.put n a w s) .non (x++[.ref p])
 | .nil,_,_,e=>by have e:_=[]:=e;rw[e];exact#[p,h,u,[],Z,b,c,d,Z]
 | .st _ _ _ r,_,o,z=>by obtain⟨f,g,U,y,e,i,j,k,l⟩:=z;rw[e];exact#[f,g,U,y++[.ref p],Z,i,j,k,Yp b c d o.2 l]
theorem JU{w:Sk}(h:w.ok false):∀{s:Sk},s.ok true->(Sk.put n H w s).ok true
 | .nil,_=>#[h,Eh]
 | .st _ _ _ _,o=>#[o.1,JU h o.2]
theorem qZ{n:Int}{hs:List Int}{w:Sk}:∀{s:Sk},s.ok true->(Sk.put n hs w s).size=s.size+(w.size+1)
 | .nil,_=>by show w.size+0+1=0+(w.size+1);omega
 | .st _ _ c r,o=>by have:=qZ (n:=n) (hs:=hs) (w:=w) (s:=r) o.2;show c.size+(Sk.put n hs w r).size+1=c.size+r.size+1+(w.size+1);omega
theorem JV{n:Int}{hs:List Int}{w:Sk}{j:Nat}(H:w.dep<=j):∀{s:Sk},s.ok true->s.dep<=j->(Sk.put n hs w s).dep<=j
 | .nil,_,_=>by show max w.dep 0<=j;omega
 | .st _ _ c r,o,h=>by have h:max c.dep r.dep<=j:=h;have:=JV (n:=n) (hs:=hs) H (s:=r) o.2 IM;show max c.dep (Sk.put n hs w r).dep<=j;omega
theorem QC:∀{s:Sk} {x:List V},s.ok true->dY H s .non x->x.length<=s.size
 | .nil,_,_,e=>by have e:_=[]:=e;rw[e];exact DN 0
 | .st _ _ w r,_,o,z=>by obtain⟨_,_,_,y,e,_,_,_,h⟩:=z;have:=QC o.2 h;rw[e];show y.length+1<=w.size+r.size+1;omega
def iX(H:Hp)(f:Str)(i:List Int)(s:Sk)(a:Int)(u:V):Prop:=∃c g e S,u= .ref c/\H c=some (.tup [.str f,.ref g,.ref e,.int a])/\H g=some (.tup (i.map V.int))/\H e=some (.tup S)/\dY H s .non S
noncomputable def Sk.wh:Sk->Wh
 | .ask b=>.ask b
 | .rd c i=>.rd c i
 | .wr c i=>.wr c i
 | .cl f I _ a=>.cl f I a
 |_=>.ask 0
theorem CZ{s:Sk}(o:s.ok false)(h:dY H s u []):wq H u s.wh:=by
 cases s with
 |nil |st=>exact o.elim
 |ask b |rd c i |wr c i=>exact h
 |cl f I s a=>obtain⟨p,c,g,e,S,E,d,j,k,_⟩:=h;exact#[p,c,g,.ref e,E,d,j,k]
structure Ps(H:Hp)(nA pA:Addr)(ds:List Df)(ns:List Nat)(xs:List V):Prop where
 at':H pA=some (.tup xs)
 tr:aZ H (aQ (ds.map (eY nA))) .non xs
 dv:∃zs,cf H ds zs
 ok:sd ds ns
 pa:lv H ds ns
theorem Ps.mono(h:Ps H n p d N x)(k:ai H a):Ps a n p d N x:=#[k _ _ h.at',h.tr.mono k,let #[b,z]:=h.dv;#[b,z.mono k],h.ok,h.pa.mono k]
theorem YO(h:aZ H (eY n d) v []):yX H v d.f:=by
 obtain⟨_,a,x,rfl,b,_,_,Y,y,rfl,⟨rfl,_⟩,_⟩:=h
 exact#[a,_,Z,b]
theorem vp:∀{D:List Df} {z:List V},cf H D z->∀{i:Nat} {d:Df},D[i]?=some d->∃B,dj H d.b B
 |_::_,_,#[u,r,e,#[B,_,_,_,h],c],0,d,a=>by cases a;exact#[B,h]
 |_::_,_,#[u,r,e,_,c],i+1,d,a=>vp c (by simpa using a)
section
variable {H:Hp}{nA pA:Addr}{ds:List Df}{ns:List Nat}{xs:List V}
theorem Ps.part(h:Ps H nA pA ds ns xs){i:Nat}{d:Df}{v:V}(a:ds[i]?=some d)(c:xs[i]?=some v):∃y,lD H nA d y v:=by
 obtain⟨T,b,t⟩:=Jm h.tr i v c
 rw[D4,a]at b
 cases b
 obtain⟨z,e⟩:=h.dv
 obtain⟨⟨y,Y,o⟩,_,s⟩:=(h.ok.1 d (D5 a)).1
 exact#[y,t,vp e a,o,Y,s]
theorem Ps.cs(h:Ps H nA pA ds ns xs){i:Nat}{d:Df}(a:ds[i]?=some d):∀f∈d.b.calls,f∈(ds.map Df.f).zip ns:=zA (h.ok.1 d (D5 a)).2
theorem Ps.at(h:Ps H nA pA ds ns xs){i:Nat}(b:ds[i]?=some d):∃v,xs[i]?=some v/\aZ H (eY nA d) v []/\yX H v d.f/\∀j x,j < i->xs[j]?=some x->∃g,yX H x g/\g≠d.f:=by
 have L:=zE h.tr
 rw[DK]at L
 have r:i < ds.length:=(List.getElem?_eq_some_iff.mp b).1
 have t:∀(j:Nat) (x:V),xs[j]?=some x->∃c,ds[j]?=some c/\aZ H (eY nA c) x []:=λj x k=>by
  obtain⟨s,m,t⟩:=Jm h.tr j x k
  rw[D4]at m
  obtain⟨c,a,rfl⟩:=Option.map_eq_some_iff.mp m
  exact#[c,a,t]
 have n:xs[i]?=some (xs[i]'IM):=DJ IM
 obtain⟨c,a,T⟩:=t _ _ n
 rw[b]at a
 cases a
 refine#[_,n,T,YO T,λj x u k=>?_]
 obtain⟨c,a,q⟩:=t j x k
 refine#[c.f,YO q,λe=>?_]
 have o:(ds.map Df.f)[j]?=some c.f:=by rw[D4,a];rfl
 have p:(ds.map Df.f)[i]?=some d.f:=by rw[D4,b];rfl
 rw[<- e]at p
 have l:j < (ds.map Df.f).length:=(List.getElem?_eq_some_iff.mp o).1
 have:=(List.getElem?_inj l h.ok.2.1).mp (o.trans p.symm)
 omega
theorem Ps.find(h:Ps H nA pA ds ns xs)(a:(f,n)∈(ds.map Df.f).zip ns):∃(i:Nat) (d:Df),ds[i]?=some d/\ns[i]?=some n/\d.f=f:=by
 obtain⟨i,b,e⟩:=List.mem_iff_getElem.mp a
 have E:((ds.map Df.f).zip ns)[i]?=some (f,n):=by rw[<- e];exact DJ b
 rw[Iz]at E
 rw[D4]at E
 obtain⟨d,c,g⟩:=Option.map_eq_some_iff.mp E.1
 exact#[i,d,c,E.2,g]
end
theorem Rn.tm(h:Rn H C r d c l p m t L f)(k:aB r l H a):ai H a:=λb x e=>k b _ (jG e h.ins (by intro z;cases z)) (jG e h.lf (by intro z;cases z)) e
theorem Rn.same(h:Rn H C r d c l p m t L a)(s:ae H b):Rn b C r d c l p m t L a:=#[s _ _ h.ins,s _ _ h.lf,s _ _ h.ce,h.iL,h.iC,h.cl]
theorem Rn.rl(h:Rn H C r d c l p m t L a):r≠l/\r≠c:=#[jG h.ins h.lf (by intro z;cases z),jG h.ins h.ce (by intro z;cases z)]
def yW(r l:Addr)(H h:Hp):Prop:=∀b o,b≠r->b≠l->NX o->H b=some o->h b=some o
theorem Fl.next(h:Fl E L (yW r l H)):Fl (my E) L (yW r l H):=λd i k x T t c e a j f=>by
 cases e
 exact h d _ λb o N g n e=>JT (H:=H) (k b o N g n e) n a f
theorem Fl.nextK(h:Fl E L (Kp H)):Fl (my E) L (Kp H):=λd g k x T t c e a i f=>by
 cases e
 exact h d _ λb o n e=>JT (H:=H) (k b o n e) n a f
theorem Fl.mono{R S:Hp->Prop}(h:Fl E L R)(k:∀H,S H->R H):Fl E L S:=λd H s=>h d H (k H s)
def mf(C:Addr):Sp:=λv H Q _=>∃(r d p c:Addr) (m:Int),v=[.ref r,.ref p,.ref c,.int m]/\H r=some (.ins C d [])/\∀l,H l=none->Q .non (af (af H l (.dK [])) r (.ins C d (gF c l p m 0)))
def nQ(E:XK)(T t:Addr)(R:Hp->Prop):Prop:=Fl E T R/\Fl E t R
theorem nQ.mono{R S:Hp->Prop}(h:nQ E T t R)(k:∀H,S H->R H):nQ E T t S:=#[h.1.mono k,h.2.mono k]
theorem nQ.next(h:nQ E T t (yW r l H)):nQ (my E) T t (yW r l H):=#[h.1.next,h.2.next]
def dX(C T m N:Addr)(j:Nat):Sp:=λo H Q E=>∃(r b c l p A:Addr) (D t i:Nat) (L e:ba) (v:V) (d:Df) (g:List Df) (n:List Nat) (x:List V) (I:List Int),o=[.ref r,v,.ref A,.int (D:Int)]/\D+j=16/\1<=j/\Rn H C r b c l p 60 t L e/\L.length<=t/\t<=60/\Ps H N p g n x/\g[i]?=some d/\n[i]?=some I.length/\x[i]?=some v/\H A=some (.tup (I.map V.int))/\(∀z∈I,f8 z)/\
 (∀(u:V) (s:Sk) (a:Int) (k:ba) (h:Hp),iX h d.f I s a u->s.ok true->s.dep+1<=j->f8 a->Rn h C r b c l p 60 (t+s.size) k e->k.length<=t+s.size->t+s.size<=60->aB r l H h->Q u h)/\nQ E T m (yW r l H)
def rA(C T i N:Addr)(j:Nat):Sp:=λm H Q E=>∃(r D c l p:Addr) (d t:Nat) (L a k:ba) (u:V) (e:DD) (y:List Str) (b:List Df) (n:List Nat) (x:List V),m=[.ref r,u,.int (d:Int)]/\d+j=15/\Rn H C r D c l p 60 t L a/\L.length<=t/\t<=60/\Ps H N p b n x/\aZ H (Dc k e) u []/\wf H y e/\GT k/\e.Cs ((b.map Df.f).zip n)/\
 (∀(w:Sk) (v:V) (g:ba) (h:Hp),dY h w v []->w.ok false->Bt e w.wh->w.dep<=j->Rn h C r D c l p 60 (t+1+w.size) g a->g.length<=t+1+w.size->t+1+w.size<=60->aB r l H h->Q v h)/\nQ E T i (yW r l H)
theorem yA:ak ["self","parts","cells","most"] ["self","parts","cells","most"] (aa pe):=bq
theorem tK(F:aJ K "__init__" "BookRun.__init__" pe f t)(j:RK K C)(GT:aj P w K mg base ay 1 u c ["self","cells","most"] (mj C))(B:aw K c ["self","cells","most"] [])(M:mg "Turns"=some (.ref T))(v:we K T "__init__" u):aj P w K mg base ay 2 f t ["self","parts","cells","most"] (mf C):=by
 refine F.ok yA ?_ λx A o s H V Q E y h=>?_
 ·rintro _ _ _ _ ⟨r,d,z,k,m,rfl,_⟩
  rfl
 refine aR λG l=>?_
 obtain⟨r,d,z,k,m,rfl,g,q⟩:=h
 refine l ?_
 clear l
 refine#[_,(jd (jL (@t6 _ _ _ _ _ _ _ _ _ _ _ _ _ _ _ _ _ _ _ _ Z M v GT y.m B .nil bh (ja (pv 0) (ja (pv 2) (ja (pv 3) jb))) IL IQ IQ IQ)) (jg (@qC _ _ _ _ _ _ _ _ (pv 0) (pv 1) Z))),?_]
 refine ah λD n=>#[_,Z,_,Z,_,Z,r,d,k,m,Z,g,λL N=>n _ _ ?_]
 clear n
 refine#[_,Z,_,Z,r,C,d,_,Z,jc,j.cl,j.n5,(by show 4 < 1000;decide),?_]
 have e:∀(i:Hp) (p O:HO),af (af i r p) r O=af i r O:=λi p O=>by
  funext b
  by_cases a:b=r
  ·rw[a,jc,jc]
  ·rw[jj a,jj a,jj a]
 rw[e]
 exact q L N
theorem JW(h:aZ H (bM t) u []):∃a x,u= .ref a/\H a=some (.tup x)/\aZ H (aQ t) .non x:=let #[_,a,x,e,b,c]:=h;#[a,x,e,b,c]
theorem zV(h:aZ H (aQ (t::T)) .non x):∃y Y,x=y::Y/\aZ H t y []/\aZ H (aQ T) .non Y:=let #[_,_,y,Y,e,a,b]:=h;#[y,Y,e,a,b]
theorem YQ(h:aZ H (cQ x) y []):y= .str x:=h.1
theorem JX(h:aZ H (c8 n) y []):y= .int n:=h.1
theorem Kl:∀{I:List Int} {v:List V},aZ H (aQ (I.map c8)) .non v->v=I.map V.int
 | [],v,h=>h
 |i::I,v,h=>by obtain⟨y,Y,rfl,a,b⟩:=zV h;rw[JX a,Kl b];rfl
theorem QL{H:Hp}{w:Str}{t:List Tr}{u:V}(h:aZ H (bM (cQ w::t)) u []):∃a x,u= .ref a/\H a=some (.tup (.str w::x))/\aZ H (aQ t) .non x:=by
 obtain⟨a,x,rfl,b,h⟩:=JW h
 obtain⟨y,Y,rfl,c,d⟩:=zV h
 rw[YQ c]at b
 exact#[a,Y,Z,b,d]
theorem QD{H:Hp}{w:Str}{i:Int}{u:V}(h:aZ H (bM [cQ w,c8 i]) u []):∃a,u= .ref a/\H a=some (.tup [.str w,.int i]):=by
 obtain⟨a,x,rfl,b,h⟩:=QL h
 obtain⟨y,Y,rfl,c,d⟩:=zV h
 have e:Y=[]:=d
 rw[JX c,e]at b
 exact#[a,Z,b]
theorem Z5{H:Hp}{w:Str}{i:Int}{t:Tr}{u:V}(h:aZ H (bM [cQ w,c8 i,t]) u []):∃a y,u= .ref a/\H a=some (.tup [.str w,.int i,y])/\aZ H t y []:=by
 obtain⟨a,x,rfl,b,h⟩:=QL h
 obtain⟨y,Y,rfl,c,d⟩:=zV h
 obtain⟨z,f,rfl,g,j⟩:=zV d
 have e:f=[]:=j
 rw[JX c,e]at b
 exact#[a,z,Z,b,g]
theorem A0:ak ["self","deed","deep"] ["self","deed","deep"] (aa uq):=bq
theorem xA(F:aJ K "what_of" "BookRun.what_of" uq f fd)(ck:RK K C)(GT:aj P w K mg base (eN P w) 1 fT f0 ["self"] (iR C TL))(bT:aw K f0 ["self"] [])(m0:bN K C "take_turn" fT)(GI:aj P w K mg base ay 1 fI f2 ["self","cell"] (gA C))(bI:aw K f2 ["self","cell"] [])(m1:bN K C "number_in" fI)(GD:aj P w K mg base (eN P w) 1 fD f3 ["deep"] (fg TD))(bD:aw K f3 ["deep"] [])(kD:keepIn K (.ref fD)=true)(mD:mg "deeper"=some (.ref fD))(cP:Cl P w K mg base 2 fP f6 ["parts","f"] i9 "part_of")(GC:aj P w K mg base (eN P w) (2*j+12) fC f4 ["self","part","args","deep"] (dX C TL TD nA j))(bC:aw K f4 ["self","part","args","deep"] [])(m2:bN K C "chain_of" fC):aj P w K mg base (eN P w) (2*j+13) f fd ["self","deed","deep"] (rA C TL TD nA j):=by
 refine F.ok1 A0 ?_ λc5 A o2 s H vs Q E hr h=>?_
 ·rintro _ _ _ _ ⟨r,D,W,I,O,M,t,L,Cs,k,u,e,ys,ds,ns,X,rfl,_⟩
  rfl
 refine aR λGq kq=>?_
 obtain⟨r,D,W,I,O,M,t,L,Cs,k,u,e,ys,ds,ns,X,rfl,h4,J,h5,ht,hP,B,h0,hk,h1,q,t0⟩:=h
 refine kq ?_
 clear kq
 refine#[_,(jd (jL (oR (pv 0) ck.cl m0 GT hr.m bT .nil zQ)) (jd (jv (jX (jw (pv 1))) (jg (jl (jh (ja jk (ja (jw (pv 1)) (ja (kQ (pv 0) ck.cl m1 GI hr.m bI .nil bh (ja (jw (pv 1)) jb)) jb)))))) jm) (jd (jv (jX (jw (pv 1))) (jg (jl (jh (ja jk (ja (kQ (pv 0) ck.cl m2 GC hr.m bC .nil zQ (ja (cP.e hr.m (ja (zk (pv 0) Z) (ja (jw (pv 1)) jb))) (ja (jw (pv 1)) (ja (ky GD hr.m Z mD kD bD .nil zQ (ja (pv 2) jb)) jb)))) jb))))) jm) (jd (jv (jX (jw (pv 1))) (jg (ze (kl hr) (zk (pv 0) Z) (jw (pv 1)) (jw (pv 1)) Z)) jm) (jg (jl (pv 1))))))),?_]
 have b0:=aE
 refine ah λY n=>#[_,Z,r,D,_,Z,J.ins,Z,r,D,W,I,O,60,t,Z,J.ins,λlt=>n _ _ ?_,λge=>(t0.1.mono λH' kk=>λb o _ _ nx e=>kk b o nx e).nextK]
 clear n
 have t1:ai H (af H r (.ins C D (gF W I O 60 (t+1)))):=λb X e=>by rw[jj (jG e J.ins (by intro z;cases z))];exact e
 have R:Rn (af H r (.ins C D (gF W I O 60 (t+1)))) C r D W I O 60 (t+1) L Cs:=#[jc,by rw[jj J.rl.1.symm];exact J.lf,by rw[jj J.rl.2.symm];exact J.ce,J.iL,J.iC,J.cl]
 have k1:aB r I H (af H r (.ins C D (gF W I O 60 (t+1)))):=λb o n1 n2 e=>by rw[jj n1];exact e
 generalize af H r (.ins C D (gF W I O 60 (t+1)))=H1 at t1 R k1
 have B:=B.mono t1
 have lt':t+1<=60:=by omega
 have f5:∀(w:Sk) (X:List V) (S:Hp) (v:Addr),S v=none->dY (af S v (.tup X)) w (.ref v) []->w.ok false->Bt e w.wh->w.size=0->w.dep<=j->H1=S->Q (.ref v) (af S v (.tup X)):=λw X S v nv hw ok ft sz dp e2=>by
  subst e2
  exact q w _ L _ hw ok ft dp (by rw[sz];exact R.same (je nv)) IM IM (k1.trans (aB.of_same (je nv)))
 cases e with
 |ask ta T=>
  obtain⟨p,rfl,G⟩:=QD B
  refine ah λY n=>(jp G Z #[Z,_,Z,aF IP (n _ _ ?_)])
  clear n
  refine ah λY n=>(jp G Z #[Z,_,Z,aF IP (n _ _ ?_)])
  clear n
  refine ah λY n=>(jp G Z #[Z,_,Z,aF IP (n _ _ ?_)])
  clear n
  refine#[_,Z,q (.ask (if T.ev k=0 then 0 else 1)) _ L _ #[p,Z,G] Eh ?_ (DX _) R (by show L.length<=t+1+0;omega) lt' k1]
  show(if T.ev k=0 then (0:Int) else 1)=0∨(if T.ev k=0 then (0:Int) else 1)=1
  split
  ·exact .inl Z
  ·exact .inr Z
 |st p0 l=>
  obtain⟨vs,_,h6,o1,c0⟩:=h0
  cases l with
  |gv ta T |st x ta T=>cases c0
  |rd x ta T=>
   obtain⟨p,rfl,G⟩:=QD B
   refine ah λY n=>(jp G Z #[Z,_,Z,bJ IP (jp G Z #[_,Z,r,D,_,Z,R.ins,Z,jp G Z #[r,D,W,I,O,60,_,_,_,_,Z,R,dU,λv nv=>?_]])])
   exact f5 (.rd (T.ev k) (look L (.inl (T.ev k)) (look Cs (.inl (T.ev k)) 0))) _ _ v nv #[v,Z,jc] Eh (JR R.iL (JR R.iC JS)) Z (DX _) Z
  |wr ta ub T U=>
   obtain⟨p,y,rfl,G,hy⟩:=Z5 B
   rw[JX hy]at G
   refine ah λY n=>(jp G Z #[Z,_,Z,aF IP (n _ _ ?_)])
   clear n
   refine ah λY n=>(jp G Z #[Z,_,Z,aF IP (n _ _ ?_)])
   clear n
   refine ah λY n=>(jp G Z #[Z,_,Z,bJ IP (jp G Z #[_,Z,r,C,D,_,_,Z,R.ins,ck.cl,ck.n3,Z,jp G Z #[I,_,Z,gE.k (k:=.inl (T.ev k)) R.lf IM,n _ _ ?_]])])
   clear n
   have pl:=ql (kvs:=L) (k:=.inl (T.ev k)) (v:=.int (U.ev k))
   have t3:ai H1 (af H1 I (.dK (aH L (.inl (T.ev k)) (.int (U.ev k))))):=λb X e=>by rw[jj (jG e R.lf (by intro z;cases z))];exact e
   refine#[_,Z,q (.wr (T.ev k) (U.ev k)) _ (aH L (.inl (T.ev k)) (.int (U.ev k))) _ #[p,Z,t3 _ _ G] Eh Eh (DX _) #[by rw[jj J.rl.1];exact R.ins,jc,by rw[jj J.cl];exact R.ce,R.iL.put _ (Jx hk o1.2.1),R.iC,R.cl] (by show _<=t+1+0;omega) lt' λb o n1 n2 e=>?_]
   rw[jj n2]
   exact k1 b o n1 n2 e
  |cl x f q' ts=>
   obtain⟨p,y3,rfl,G,hy⟩:=QL B
   obtain⟨y1,y4,rfl,e1,hy⟩:=zV hy
   obtain⟨y2,y0,rfl,e2,hy⟩:=zV hy
   have e3:y0=[]:=hy
   subst e3
   rw[YQ e1]at G
   obtain⟨ag,a0,rfl,ha,N⟩:=JW e2
   have N:aZ H1 (aQ ((ts.map λc=>c.2.ev k).map c8)) .non a0:=by rw[Gr];exact N
   rw[Kl N]at ha
   obtain⟨i,d,hd,hn,rfl⟩:=hP.find h1
   have P1:=hP.mono t1
   obtain⟨v,hv,_,h2,h3⟩:=P1.at hd
   refine ah λY n=>(jp G Z #[Z,_,Z,aF IP (n _ _ ?_)])
   clear n
   refine ah λY n=>(jp G Z #[Z,_,Z,bJ IP ?_])
   clear n
   refine#[_,Z,r,D,_,Z,R.ins,Z,_,Z,r,C,D,_,_,Z,R.ins,ck.cl,ck.n5,Z,jp G Z #[O,d.f,X,i,v,Z,P1.at',hv,h2,h3,jp G Z #[_,Z,(M:Int),Z,λdl=>?_,λdg=>(t0.2.mono λS kk=>λb o n1 n2 nx e=>kk b o nx (k1 b o n1 n2 e)).nextK]]]
   refine#[r,D,W,I,O,ag,M+1,t+1,i,L,Cs,v,d,ds,ns,X,ts.map λc=>c.2.ev k,Z,IM,IM,R,IM,lt',P1,hd,by rw[DK];exact hn,hv,ha,λz hz=>?_,λu sk a L' S hc ok dp ia R2 l2 t2 k2=>?_,nQ.next (t0.mono λS kk=>λb o n1 n2 nx e=>kk b o n1 n2 nx (k1 b o n1 n2 e))]
   ·obtain⟨c,hc,rfl⟩:=List.mem_map.mp hz
    exact Jx hk (o1.2.2 c hc).1
   ·obtain⟨c,g,ee,ss,rfl,c1,c2,c3,c4⟩:=hc
    refine#[bn,λv2 nv=>?_]
    have s2:ae S (af S v2 (.tup [.str "call",.ref c])):=je nv
    refine q (.cl d.f (ts.map λc=>c.2.ev k) sk a) _ L' _ #[v2,c,g,ee,ss,Z,jc,s2 _ _ c1,s2 _ _ c2,s2 _ _ c3,c4.mono (ae.tm s2)] ok ia (by show sk.dep+1<=j;omega) (R2.same s2) l2 t2 ((k1.trans k2).trans (aB.of_same s2))
theorem ww:du (s++[x]) (-1)=some x:=by
 have l:(s++[x]).length=s.length+1:=by rw[DM];rfl
 unfold du lN
 rw[l,D1 IM,D0 IM]
 have e:(-1+((s.length+1:Nat):Int)).toNat=s.length:=by omega
 show(s++[x])[(-1+((s.length+1:Nat):Int)).toNat]?=_
 rw[e]
 simp
inductive C1(H:Hp)(nA:Addr)(d:Df)(u:V):Prop
 |give (p:Addr) (a:Int) (e:u= .ref p) (h:H p=some (.tup [.str "give",.int a])) (i:f8 a)
 |go (p hv:Addr) (n:Nat) (c:Ct) (is:List Int) (e:u= .ref p) (h:H p=some (.tup [.str "go",.int (n:Int),.ref hv])) (h2:H hv=some (.tup (is.map V.int))) (hc:(bX nA d)[n]?=some c) (hl:is.length=(canon c.M).length) (hi:∀i∈is,f8 i)
theorem Z6{H:Hp}(h:aZ f (ou (eW N d) k g) u [])(j:GT k)(l:y9 H Y d.b.cuts g):C1 f N d u:=by
 cases g with
 |give t T=>obtain⟨p,e,h⟩:=QD h;exact .give p _ e h (Jx j l.2.1)
 |nought=>obtain⟨p,e,h⟩:=QD h;exact .give p 0 e h JS
 |go n=>
  obtain⟨p,y,e,h,q⟩:=Z5 h
  obtain⟨a,X,rfl,m,c⟩:=JW q
  have r:n < (bX N d).length:=by rw[YK];exact l
  have o:(bX N d)[n]?=some (bX N d)[n]:=DJ r
  have c:aZ f (aQ (((eW N d n).map λx=>look k (.inr x) 0).map c8)) .non X:=by rw[Gr];exact c
  rw[Kl c]at m
  refine .go p a n _ _ e h m o (by rw[DK,Z3 o]) λi s=>?_
  obtain⟨x,_,rfl⟩:=List.mem_map.mp s
  exact JR j JS
inductive CI(C r dx cA lA pA ag sl nA:Addr)(deep t j:Nat)(Cs:ba)(v:V)(d:Df)(H:Hp)(kk:Nat)(σ:L2.St)(H':Hp):Prop
 |mk (o6:Option V) (u:V) (sk:Sk) (ss:List V) (L:ba) (e0:σ=[some (.ref r),some v,some (.ref ag),some (.int (deep:Int)),some (.ref sl),some u,o6]) (e1:H' sl=some (.lst ss)) (e2:dY H' sk .non ss) (e3:sk.ok true) (e4:sk.dep+1<=j) (e5:C1 H' nA d u) (e6:Rn H' C r dx cA lA pA 60 (t+sk.size) L Cs) (e7:L.length<=t+sk.size) (e8:t+sk.size<=60) (e9:aB r lA H H') (e10:kk+t+sk.size=61):CI C r dx cA lA pA ag sl nA deep t j Cs v d H kk σ H'
theorem i6:ak ["self","part","args","deep","steps","goal","what"] ["self","part","args","deep"] (aa uo):=bq
theorem xu(F:aJ K "chain_of" "BookRun.chain_of" uo f fd)(ck:RK K C)(cF:Cl P w K mg base 9 fF f2 ["part","args"] (gw nA) "first_of")(cD:Cl P w K mg base 9 fD f3 ["part","n","held"] (gu nA) "deed_at")(cO:Cl P w K mg base 9 fO f4 ["part","step"] (uP nA) "onward")(GW:aj P w K mg base (eN P w) (2*j+13) fW f0 ["self","deed","deep"] (rA C TL TD nA j))(bW:aw K f0 ["self","deed","deep"] [])(m0:bN K C "what_of" fW)(m1:mg "tuple"=none):aj P w K mg base (eN P w) (2*j+14) f fd ["self","part","args","deep"] (dX C TL TD nA (j+1)):=by
 refine F.ok1 i6 ?_ λc0 A o2 s H vs Q E hr h=>?_
 ·rintro _ _ _ _ ⟨r,dx,cA,lA,pA,ag,G,t,i,L,Cs,v,d,ds,ns,xs,is,rfl,_⟩
  rfl
 refine aR λGq kq=>?_
 obtain⟨r,dx,cA,lA,pA,ag,G,t,i,L,Cs,v,d,ds,ns,xs,is,rfl,a',_,hR,h7,ht,hP,hd,hn,hv,ha,h2,q,t2⟩:=h
 refine kq ?_
 clear kq
 refine#[_,(jd (jx 4 i6.nd (jC jb)) (jd (jx 5 i6.nd (cF.e hr.m (ja (pv 1) (ja (pv 2) jb)))) (jd (Q1 PassesOwn.leaving (jX (jw (pv 5))) (jd (jx 6 i6.nd (kQ (pv 0) ck.cl m0 GW hr.m bW .nil zQ (ja (cD.e hr.m (ja (pv 1) (ja (jw (pv 5)) (ja (jw (pv 5)) jb)))) (ja (pv 3) jb)))) (jd (jL (kK PySem.F.plainAttrs_list PySem.F.slot_list_append PySem.F.type_list_append jN (pv 4) (ja (jh (ja (jw (pv 5)) (ja (jw (pv 5)) (ja (pv 6) jb)))) jb))) (jg (jx 5 i6.nd (cO.e hr.m (ja (pv 1) (ja (jr jo (pv 4) (vL ZL jf) (λ_ _=>Z)) jb)))))))) (jg (jl (jh (ja (jw (pv 1)) (ja (pv 2) (ja (jz jB Z m1 boot_tuple (ja (pv 4) jb)) (ja (jw (pv 5)) jb)))))))))),?_]
 have b0:=aE
 obtain⟨ys,O⟩:=hP.part hd hv
 obtain⟨ps,h8,h',a1⟩:=hP.pa.2 i d _ hd hn
 refine ah λF1 y=>#[le,λS N=>y _ _ ?_]
 clear y
 have s1:ae H (af H S (.lst [])):=je N
 have l1:af H S (.lst []) S=some (.lst []):=jc
 generalize af H S (.lst [])=H1 at s1 l1 ⊢
 obtain⟨wd,e1,h0⟩:=O.way
 refine ah λF1 y=>#[_,Z,_,Z,v,ag,d,ys,ps,is,wd,Z,O.mono (ae.tm s1),s1 _ _ h8,IM,s1 _ _ ha,h'.symm,h2,e1,h0.mono (ae.tm s1),λu H2 hu s2=>y _ _ ?_]
 clear y
 have S2:=s1.trans s2
 have gz:GT (cq ps is):=Kf h2
 have g0:=Z6 (H:=H) hu (qU h0.sets gz) h0.goal
 have s0:S≠r:=Ne.symm (ji hR.ins N)
 have s3:S≠lA:=Ne.symm (ji hR.lf N)
 have s9:cA≠S:=ji hR.ce N
 refine ah λF1 y=>?_
 refine rP (CI C r dx cA lA pA ag S nA G t (j+1) Cs v d H) (61 - t) #[none,u,.nil,[],L,Z,s2 _ _ l1,Z,trivial,by show 0+1<=j+1;omega,g0,hR.same S2,h7,ht,aB.of_same S2,by show 61 - t+t+0=61;omega] ?_
 intro kk σ H3 E' rt fE F kT cF.k Gq kq hW
 obtain⟨o6,u,sk,D,L1,rfl,w1,w2,w3,w4,w5,w6,w7,w8,w9,b1⟩:=hW
 have R:=hR.tm w9
 have P3:=hP.mono R
 cases w5 with
 |give p a e h5 ia=>
  subst e
  refine kq (jp h5 Z #[Z,_,Z,?_])
  rw[show decide (V.str (Str.ofString "give")=V.str (Str.ofString "go"))=false by decide+kernel]
  refine cF.k _ (y _ _ ?_)
  obtain⟨pa,ca,wv,cs,e,h3,_⟩:=(O.mono R).parts
  subst e
  refine(jp h3 Z #[_,Z,_,Z,S,D,Z,.inl #[aC.of w1,λl2 n0=>?_]])
  have Y:ae H3 (af H3 l2 (.tup D)):=je n0
  refine(jp (Y _ _ h5) Z #[nO,λv2 nv=>?_])
  have s5:=Y.trans (je (o:=.tup [.str d.f,.ref ag,.ref l2,.int a]) nv)
  have S5:aB r lA H (af (af H3 l2 (.tup D)) v2 (.tup [.str d.f,.ref ag,.ref l2,.int a])):=w9.trans (aB.of_same s5)
  exact q _ sk a L1 _ #[v2,ag,l2,D,Z,jc,hR.tm S5 _ _ ha,ap jc nv,w2.mono (ae.tm s5)] w3 w4 ia (w6.same s5) w7 w8 S5
 |go p x n c hs e h5 h6 hc hl hi=>
  subst e
  refine kq (jp h5 Z #[Z,_,Z,?_])
  rw[show decide (V.str (Str.ofString "go")=V.str (Str.ofString "go"))=true by decide+kernel]
  refine kT _ ?_
  clear kT cF.k y
  have U:=O.mono R
  obtain⟨pa,ca,wv,cs,e3,h3,_,_,a2⟩:=U.parts
  obtain⟨ka,na,wa,dv,b2,_,I⟩:=U.cut a2 hc
  obtain⟨e,ed,d0,e2⟩:=Ap I.v.deed
  have gk:GT (cq (canon c.M) hs):=Kf hi
  refine ah λF1 y=>#[_,Z,r,dx,_,Z,w6.ins,Z,_,Z,jp h5 Z (jp h5 Z #[v,n,x,d,ys,c,hs,e,Z,U,hc,h6,hl,hi,ed,d0,λud H4 a3 Y=>?_])]
  have t3:=R.trans (ae.tm Y)
  refine#[_,Z,r,dx,cA,lA,pA,G,t+sk.size,L1,Cs,cq (canon c.M) hs,ud,e,ys,ds,ns,xs,Z,IM,w6.same Y,w7,w8,hP.mono t3,a3,d0.mono (ae.tm Y),gk,?_,λw uw L' W hw o1 ft d1 R5 l5 t5 k5=>y _ _ ?_,?_]
  ·cases e with
   |ask=>trivial
   |st p0 l=>cases l<;>first |trivial |exact hP.cs hd _ e2
  ·clear y
   have K5:aB r lA H3 W:=(aB.of_same Y).trans k5
   have t0:ai H3 W:=w6.tm K5
   have g5:=t0 _ _ h5
   have w0:W S=some (.lst D):=K5 _ _ s0 s3 w1
   have l0:=QC w3 w2
   refine ah λF1 y=>#[_,Z,.inl #[Z,_,aC.of w0],jp g5 Z (jp g5 Z #[_,Z,dU,λB n3=>?_])]
   have s6:ae W (af W B (.tup [.int (n:Int),.ref x,uw])):=je n3
   have e6:af W B (.tup [.int (n:Int),.ref x,uw]) B=some (.tup [.int (n:Int),.ref x,uw]):=jc
   refine#[S,_,_,Z,Z,s6 _ _ w0,IM,y _ _ ?_]
   clear y
   generalize af W B (.tup [.int (n:Int),.ref x,uw])=H6 at s6 e6
   have b7:ar S H6 (af H6 S (.lst (D++[.ref B]))):=λb o nb e=>by rw[jj nb];exact e
   have X:ai H6 (af H6 S (.lst (D++[.ref B]))):=λb xs e=>b7 _ _ (jG e (s6 _ _ w0) (by intro z;cases z)) e
   have w':af H6 S (.lst (D++[.ref B])) S=some (.lst (D++[.ref B])):=jc
   generalize af H6 S (.lst (D++[.ref B]))=H7 at b7 X w'
   have J:ai W H7:=λb xs e=>X _ _ (s6 _ _ e)
   have g:ai H3 H7:=t0.trans J
   have h1:w.wh.side < c.ws.length:=by
    rw[I.v.len,<- ed]
    cases e with
    |ask ta T=>show _ < 2;unfold Wh.side;split<;>(try split)<;>omega
    |st p0 l=>
     show _ < 1
     cases w<;>first |exact Nat.one_pos |exact o1.elim | (cases l<;>exact ft.elim)
   obtain⟨a0,e0,h4⟩:=I.v.ways (c.ws[w.wh.side]) (List.getElem_mem _)
   have sv:iY H7 nA d ys v B n x uw c hs w.wh e a0:=#[U.mono g,X _ _ e6,hc,g _ _ h6,hl,hi,(CZ o1 hw).mono J,ed,d0.mono g,ft,by rw[e0];exact List.getElem?_eq_getElem h1,h4.mono g]
   have a4:du (D++[V.ref B]) (-1)=some (.ref B):=ww
   refine#[_,Z,_,Z,_,Z,S,_,_,_,Z,Z,aC.of w',a4,v,uw,B,x,n,d,ys,c,hs,w.wh,e,a0,Z,sv,λu2 H8 a5 s8=>?_]
   have t1:=ae.tm s8
   have t4:=g.trans t1
   have g1:=Z6 (H:=H7) a5 (qU sv.wdv.sets (Z4 ft gk)) sv.wdv.goal
   have s7:=qZ (n:=(n:Int)) (hs:=hs) (w:=w) w3
   have R7:Rn H7 C r dx cA lA pA 60 (t+sk.size+1+w.size) L' Cs:=#[b7 _ _ (Ne.symm s0) (s6 _ _ R5.ins),b7 _ _ (Ne.symm s3) (s6 _ _ R5.lf),b7 _ _ s9 (s6 _ _ R5.ce),R5.iL,R5.iC,R5.cl]
   have ez:t+sk.size+1+w.size=t+(Sk.put (n:Int) hs w sk).size:=by rw[s7];omega
   rw[ez]at R7 l5 t5
   refine fE (kk - (w.size+1)) _ _ IM #[_,u2,Sk.put (n:Int) hs w sk,D++[.ref B],L',Z,s8 _ _ w',(Yp (X _ _ e6) (g _ _ h6) (hw.mono J) w3 (w2.mono g)).mono t1,JU o1 w3,?_,g1,R7.same s8,l5,t5,?_,by rw[s7];omega]
   ·have:=JV (n:=(n:Int)) (hs:=hs) (w:=w) (j:=j) d1 w3 IM
    omega
   ·intro b o n1 n2 e
    exact s8 _ _ (b7 _ _ (ji e N) (s6 _ _ (K5 _ _ n1 n2 (w9 _ _ n1 n2 e))))
  ·exact nQ.next (t2.mono λW kk=>λb o n1 n2 nx e=>kk b o n1 n2 nx (Y _ _ (w9 _ _ n1 n2 e)))
def rq(T t N:Addr):Sp:=λv H Q E=>∃(p A c:Addr) (i:Nat) (C:ba) (d:Df) (D:List Df) (n:List Nat) (x:List V) (I:List Int),v=[.ref p,.str d.f,.ref A,.ref c,.int 60]/\Ps H N p D n x/\D[i]?=some d/\n[i]?=some I.length/\H A=some (.tup (I.map V.int))/\(∀z∈I,f8 z)/\H c=some (.dK C)/\GT C/\
 (∀(u:V) (s:Sk) (a:Int) (h:Hp),iX h d.f I s a u->s.ok true->s.dep<=15->s.size<=60->ae H h->Q u h)/\nQ E T t (Kp H)
theorem tW(h:aZ H (eY n d) v []):∃p r,v= .ref p/\H p=some (.tup (.str d.f:: .ref d.pa::r)):=by
 obtain⟨_,a,x,rfl,b,_,_,c,y,rfl,⟨rfl,_⟩,_,_,e,Y,rfl,⟨rfl,_⟩,_⟩:=h
 exact#[a,_,Z,b]
theorem xh:aj P w K mg base (eN P w) k f c ["self","part","args","deep"] (dX C T b N 0):=by
 have n:∀{V H Q E},¬dX C T b N 0 V H Q E:=by
  rintro V H Q E ⟨r,e,g,l,p,j,D,t,i,L,m,v,d,q,u,x,I,_,_,z,_⟩
  omega
 exact#[λV H Q E h=>(n h).elim,λA o s H a U V Q E y B F G h=>(n h).elim]
theorem Ah(d:RK K C)(F:aJ K "chain_of" "BookRun.chain_of" uo k f)(B:aw K f ["self","part","args","deep"] [])(m:bN K C "chain_of" k)(l:aJ K "what_of" "BookRun.what_of" uq D e)(o:aw K e ["self","deed","deep"] [])(M:bN K C "what_of" D)(p:Cl P w K mg base 9 Q E ["part","args"] (gw n) "first_of")(q:Cl P w K mg base 9 U H ["part","n","held"] (gu n) "deed_at")(r:Cl P w K mg base 9 Y I ["part","step"] (uP n) "onward")(GT:aj P w K mg base (eN P w) 1 J g ["self"] (iR C T))(s:aw K g ["self"] [])(a:bN K C "take_turn" J)(G:aj P w K mg base ay 1 L h ["self","cell"] (gA C))(t:aw K h ["self","cell"] [])(b:bN K C "number_in" L)(u:aj P w K mg base (eN P w) 1 v i ["deep"] (fg N))(x:aw K i ["deep"] [])(y:keepIn K (.ref v)=true)(z:mg "deeper"=some (.ref v))(A:Cl P w K mg base 2 fP O ["parts","f"] i9 "part_of")(c:mg "tuple"=none):∀j,aj P w K mg base (eN P w) (2*j+12) k f ["self","part","args","deep"] (dX C T N n j)
 |0=>xh
 |j+1=>xu F d p q r (xA l d GT s a G t b u x y z A (Ah d F B m l o M p q r GT s a G t b u x y z A c j) B m) o M c
theorem vS:ak ["parts","f","args","cells","most","part"] ["parts","f","args","cells","most"] (aa yw):=bq
theorem xN(F:aJ K "run" "run" yw f fd)(ck:RK K C)(mk:Mk K C fI)(GI:aj P w K mg base ay 2 fI x ["self","parts","cells","most"] (mf C))(bI:aw K x ["self","parts","cells","most"] [])(mC:mg "BookRun"=some (.ref C))(cB:Cl P w K mg base 2 fB f0 ["ones","f","args"] iK "begun")(GA:aj P w K mg base (eN P w) 44 fA y ["self","part","args","deep"] (dX C TL TD nA 16))(bA:aw K y ["self","part","args","deep"] [])(M:bN K C "chain_of" fA):aj P w K mg base (eN P w) 45 f fd ["parts","f","args","cells","most"] (rq TL TD nA):=by
 refine F.ok1 vS ?_ λc0 A O s H vs Q E B h=>?_
 ·rintro _ _ _ _ ⟨g,G,j,i,I,d,ds,ns,X,is,rfl,_⟩
  rfl
 refine aR λGq kq=>?_
 obtain⟨g,G,j,i,I,d,ds,ns,X,is,rfl,t,J,hn,ha,L,k,R,q,T⟩:=h
 refine kq ?_
 clear kq
 refine#[_,(jd (jx 5 vS.nd (cB.e B.m (ja (pv 0) (ja (pv 1) (ja (pv 2) jb))))) (jg (jl (kQ (Yu mk GI B.m Z mC bI .nil bh (ja (pv 0) (ja (pv 3) (ja (pv 4) jb)))) ck.cl M GA B.m bA .nil zQ (ja (pv 5) (ja (pv 2) (ja jf jb))))))),?_]
 obtain⟨v,hv,tv,h0,U⟩:=t.at J
 obtain⟨p,pr,rfl,hp⟩:=tW tv
 obtain⟨ps,V,h1,_⟩:=t.pa.2 i d _ J hn
 refine ah λF1 f1=>#[_,Z,_,Z,_,Z,g,G,d.f,X,_,i,.ref p,p,d.pa,pr,_,Z,t.at',hv,Z,hp,V,ha,by rw[DK,DK];omega,U,f1 _ _ ?_]
 clear f1
 refine#[_,Z,_,Z,_,Z,λr D N nd ne=>?_]
 have s0:ae H (af (af H D (.own r)) r (.ins C D [])):=λc o e=>by rw[jj (ji e N),jj (ji e nd)];exact e
 refine#[r,D,g,j,60,Z,jc,λl W=>#[Z,?_]]
 have Y:l≠r:=λe=>by rw[e,jc]at W;cases W
 have n:H l=none:=by
  cases z:H l with
  |none=>rfl
  |some o=>have:=s0 _ _ z;rw[W]at this;cases this
 have S:ae H (af (af (af (af H D (.own r)) r (.ins C D [])) l (.dK [])) r (.ins C D (gF j l g 60 0))):=λc o e=>by rw[jj (ji e N),jj (ji e n)];exact s0 _ _ e
 have R1:Rn (af (af (af (af H D (.own r)) r (.ins C D [])) l (.dK [])) r (.ins C D (gF j l g 60 0))) C r D j l g 60 0 [] I:=#[jc,by rw[jj Y];exact jc,S _ _ k,GT.nil,R,ji k n]
 generalize af (af (af (af H D (.own r)) r (.ins C D [])) l (.dK [])) r (.ins C D (gF j l g 60 0))=H1 at S R1
 have t0:=ae.tm S
 refine#[r,D,_,Z,R1.ins,Z,_,Z,_,Z,r,D,j,l,g,G,0,0,i,[],I,.ref p,d,ds,ns,X,is,Z,Z,IL,R1,DN _,IL,t.mono t0,J,hn,hv,S _ _ ha,L,λu sk a L' H2 hc ok dp ia R2 l2 t2 k2=>?_,nQ.next (T.mono λH' kk=>λb o nx e=>kk b o (ji e N) (ji e n) nx (S _ _ e))]
 exact q u sk a H2 hc ok IM IM λc o e=>k2 c o (ji e N) (ji e n) (S _ _ e)
noncomputable abbrev uA:Stmt:=bE 70
noncomputable abbrev nK:Stmt:=bE 71
noncomputable abbrev yt:Stmt:=bE 72
theorem qV(a:ba)(k:aV)(v:V):(aH a k v).length<=a.length+1:=ql
structure Gb(H:Hp)(p g sp:Addr)(ys:List Str):Prop where
 B:am H p
 g:H g=some (.lst (ys.map V.str))
 y1:1<=ys.length
 y2:ys.length<=20
 s:bQ H sp
theorem Gb.gsp{H:Hp}{p g S:Addr}{y:List Str}(G:Gb H p g S y):g≠S:=by
 obtain⟨k,e⟩:=G.s
 refine jG G.g e λz=>?_
 injection z with z
 have h:=G.y1
 match y,h,z with
 |a::r,_,z=>injection z with b _;cases b
theorem Gb.but2{H h:Hp}{p g S:Addr}{y:List Str}(G:Gb H p g S y)(B:am h p)(s:bQ h S)(k:aB p S H h):Gb h p g S y:=#[B,k _ _ (zo G.B G.g) G.gsp G.g,G.y1,G.y2,s]
theorem Gb.but{H h:Hp}{p g S:Addr}{y:List Str}(G:Gb H p g S y)(B:am h p)(k:ar p H h):Gb h p g S y:=G.but2 B (G.s.but G.B k) k.two
theorem Gb.same{H h:Hp}{p g S:Addr}{y:List Str}(G:Gb H p g S y)(s:ae H h):Gb h p g S y:=G.but2 (G.B.same s) (let #[k,e]:=G.s;#[k,s _ _ e]) (aB.of_same s)
def vW(n:Nat):Sp:=λv H Q _=>∃(p g s:Addr) (d:Nat) (y:List Str),v=[.ref p,.ref g,.int (d:Int),.ref s]/\Gb H p g s y/\d < n/\0 < cc H s/\cc H s<=60/\
 ∀(w:Sk) (u:V) (h:Hp),dY h w u []->w.ok false->w.dep<=d->(w.size:Int)+1+cc h s=cc H s->0<=cc h s->am h p->bQ h s->aB p s H h->Q u h
def gV(n:Nat):Sp:=λv H Q _=>∃(p g S:Addr) (d:Nat) (y:List Str),v=[.ref p,.ref g,.int (d:Int),.ref S]/\Gb H p g S y/\d < n/\0<=cc H S/\cc H S<=60/\
 ∀(f:Str) (i:List Int) (s:Sk) (a:Int) (u:V) (h:Hp),iX h f i s a u->s.ok true->s.dep<=d->(s.size:Int)+cc h S=cc H S->0<=cc h S->am h p->bQ h S->aB p S H h->Q u h
def rh:Sp:=λv H Q _=>∃p:Addr,v=[.ref p]/\am H p/\∀(f:Str) (i:List Int) (s:Sk) (a:Int) (u:V) (h:Hp),iX h f i s a u->s.ok true->s.dep<=15->s.size<=60->am h p->ar p H h->Q u h
inductive LI(p g sp sl ag:Addr)(d:Nat)(f:Str)(is:List Int)(H:Hp)(i:Nat)(σ:L2.St)(H':Hp):Prop
 |mk (o4 o8:Option V) (s:Sk) (ss:List V) (e0:σ=[some (.ref p),some (.ref g),some (.int (d:Int)),some (.ref sp),o4,some (.ref ag),some (.ref sl),some (.str f),o8]) (e1:H' sl=some (.lst ss)) (e2:dY H' s .non ss) (e3:s.ok true) (e4:s.dep<=d) (e5:(s.size:Int)+cc H' sp=cc H sp) (e6:0<=cc H' sp) (e7:am H' p) (e8:bQ H' sp) (e9:aB p sp H H') (e10:H' ag=some (.tup (is.map V.int))):LI p g sp sl ag d f is H i σ H'
theorem vP:ak ["_law_box_here","_law_names_here","_law_deep","_law_spare","_law_kind"] ["_law_box_here","_law_names_here","_law_deep","_law_spare"] (aa uA):=bq
theorem xH(F:aJ K "_law_what" "_law_what" uA f fd)(cT:Cl P w K mg base 1 fT f0 ["_law_box_here","_law_wide"] aN "_law_take")(cN:Cl P w K mg base 2 fN f2 ["_law_box_here"] fj "_law_number")(cC:Cl P w K mg base (2*n+4) fC f3 ["_law_box_here","_law_names_here","_law_deep","_law_spare"] (gV n) "_law_chain"):aj P w K mg base ay (2*n+5) f fd ["_law_box_here","_law_names_here","_law_deep","_law_spare"] (vW (n+1)):=by
 refine F.ok vP ?_ λc2 A o1 s H vs Q E I h=>?_
 ·rintro _ _ _ _ ⟨p,g,S,d,ys,rfl,_⟩
  rfl
 refine aR λGq kq=>?_
 obtain⟨p,g,S,d,ys,rfl,W,hd,h0,h5,q⟩:=h
 refine kq ?_
 clear kq
 refine#[_,(jd (jx 4 vP.nd (cT.e I.m (ja (pv 0) (ja jf jb)))) (jd (kN (ju kP (jr jo (pv 3) jf (λ_ _=>Z)) jf) (zS (pv 3) jf kU)) (jd (jv (kL (pv 4)) (jg (jl (jh (ja jk (ja (cT.e I.m (ja (pv 0) (ja jf jb))) jb))))) jm) (jd (jv (PW.pt (KW (kL (pv 4)) (Jj (PW.pt (qf (kL (pv 4)) (zD (PW.pt (KW (kL (pv 2)) (Jj (jA Jv (jr jo (pv 3) jf (λ_ _=>Z)) jf (aD _))))))))))) (jg (jl (jh (ja jk (ja (cT.e I.m (ja (pv 0) (ja jf jb))) (ja (cN.e I.m (ja (pv 0) jb)) jb)))))) jm) (jd (jv (jA Jv (pv 4) jf (aD _)) (jg (jl (jh (ja jk (ja (cT.e I.m (ja (pv 0) (ja jf jb))) (ja (cN.e I.m (ja (pv 0) jb)) jb)))))) jm) (jg (jl (jh (ja jk (ja (cC.e I.m (ja (pv 0) (ja (pv 1) (ja (ju kP (pv 2) jf) (ja (pv 3) jb))))) jb)))))))))),?_]
 have b0:=aE
 refine ah λt b=>#[_,Z,p,5,Z,W.B,IL,IL,λd1 X d0 d2 B1 q1=>b _ _ ?_]
 clear b
 have G1:=W.but B1 (ar.of_eq q1)
 obtain⟨k,hk⟩:=G1.s
 have ek:cc H S=k:=(jQ W.B W.s (ar.of_eq q1)).symm.trans (zK hk)
 refine ah λt b=>#[_,Z,S,_,_,_,Z,Z,aC.of hk,Z,_,_,Z,Z,_,Z,S,_,_,0,Z,Z,hk,Z,b _ _ ?_]
 clear b
 have s1:=G1.s.ne B1
 have B3:am (af X S (.lst ([.int k].set 0 (.int (k - 1))))) p:=B1.eq (jj (Eg s1))
 have l:af X S (.lst ([.int k].set 0 (.int (k - 1)))) S=some (.lst [.int (k - 1)]):=jc
 have K3:aB p S H (af X S (.lst ([.int k].set 0 (.int (k - 1))))):=(ar.of_eq q1).two.trans aB.at
 have G:=W.but2 B3 #[k - 1,l] K3
 have e3:cc (af X S (.lst ([.int k].set 0 (.int (k - 1))))) S=k - 1:=zK l
 generalize af X S (.lst ([.int k].set 0 (.int (k - 1))))=H3 at B3 l K3 G e3
 have r:∀(w:Sk) (xs:List V) (i:Hp) (v:Addr),am i p->ar p H3 i->i v=none->dY (af i v (.tup xs)) w (.ref v) []->w.ok false->w.dep=0->w.size=0->Q (.ref v) (af i v (.tup xs)):=λw xs i v j Y N hw ok dp sz=>by
  have G4:=G.but j Y
  have x1:=jU G4.s (je (o:=.tup xs) N)
  have x2:=jQ G.B G.s Y
  exact q w _ _ hw ok IM (by rw[x1,x2,e3,ek,sz];show(0:Int)+1+_=_;omega) IM (j.upd_new N) (G4.s.new N) ((K3.trans Y.two).trans (aB.of_same (je N)))
 by_cases c0:d1=0
 ·exact ah λt b=>#[_,Z,Z,_,Z,bJ (Ea (by rw[c0])) #[_,Z,p,2,Z,G.B,IL,IL,λD i x y j C=>#[bn,λv N=>r (.ask D) _ _ v j (ar.of_eq C) N #[v,Z,jc] Eh Z Z]]]
 refine ah λt b=>#[_,Z,Z,_,Z,aF (DU λz=>c0 (by injection z)) (b _ _ ?_)]
 clear b
 by_cases c1:d1=1
 ·exact ah λt b=>#[_,Z,Z,_,Z,bJ (Ea (by rw[c1])) (nG #[_,Z,p,6,Z,G.B,IL,IL,λD i x y j C=>#[_,Z,p,Z,j,λJ H5 L M O R=>#[dU,λv N=>r (.wr D J) _ _ v O ((ar.of_eq C).trans (ar.of_eq R)) N #[v,Z,jc] Eh Z Z]]])]
 by_cases c4:d1=4
 ·by_cases cd:(d:Int)=0
  ·exact ah λt b=>#[_,Z,Z,_,Z,aF (DU λz=>c1 (by injection z)) #[_,Z,Z,_,Z,bJ (Ea (by rw[c4])) #[_,Z,Z,_,Z,bJ (Ea (by rw[cd])) (nG #[_,Z,p,6,Z,G.B,IL,IL,λD i x y j C=>#[_,Z,p,Z,j,λJ H5 L M O R=>#[dU,λv N=>r (.wr D J) _ _ v O ((ar.of_eq C).trans (ar.of_eq R)) N #[v,Z,jc] Eh Z Z]]])]]]
  by_cases ck:k - 1 < 1
  ·exact ah λt b=>#[_,Z,Z,_,Z,aF (DU λz=>c1 (by injection z)) #[_,Z,Z,_,Z,bJ (Ea (by rw[c4])) #[_,Z,Z,_,Z,aF (DU λz=>cd (by injection z)) #[_,Z,S,_,_,_,Z,Z,aC.of l,Z,_,_,Z,Z,_,Z,bJ (Ea ck) #[_,Z,p,6,Z,G.B,IL,IL,λD i x y j C=>#[_,Z,p,Z,j,λJ H5 L M O R=>#[dU,λv N=>r (.wr D J) _ _ v O ((ar.of_eq C).trans (ar.of_eq R)) N #[v,Z,jc] Eh Z Z]]]]]]]
  refine ah λt b=>#[_,Z,Z,_,Z,aF (DU λz=>c1 (by injection z)) #[_,Z,Z,_,Z,bJ (Ea (by rw[c4])) #[_,Z,Z,_,Z,aF (DU λz=>cd (by injection z)) #[_,Z,S,_,_,_,Z,Z,aC.of l,Z,_,_,Z,Z,_,Z,aF (DU ck) (b _ _ ?_)]]]]
  clear b
  refine ah λt b=>#[_,Z,_,_,Z,Z,_,Z,aF (DU IM) (b _ _ ?_)]
  clear b
  obtain⟨T,rfl⟩:∃T,d=T+1:=#[d - 1,IM]
  have ed:(((T+1:Nat):Int) - 1)=((T:Nat):Int):=by omega
  refine#[_,Z,_,Z,_,Z,_,_,Z,Z,_,Z,p,g,S,T,ys,(by show [V.ref p,V.ref g,V.int (((T+1:Nat):Int) - 1),V.ref S]=_;rw[ed]),G,IM,IM,IM,λf is s a u i hc ok dp sz s0 j s4 Y=>#[bn,λv N=>?_]]
  obtain⟨c,g',e,ss,rfl,h1,h2,h3,h4⟩:=hc
  have U:ae i (af i v (.tup [.str "call",.ref c])):=je N
  have x1:=jU s4 U
  exact q (.cl f is s a) _ _ #[v,c,g',e,ss,Z,jc,U _ _ h1,U _ _ h2,U _ _ h3,h4.mono (ae.tm U)] ok (by show s.dep+1<=_;omega) (by rw[x1];show(s.size:Int)+1+_=_;omega) (by rw[x1];exact s0) (j.upd_new N) (s4.new N) ((K3.trans Y).trans (aB.of_same U))
 ·refine ah λt b=>#[_,Z,Z,_,Z,aF (DU λz=>c1 (by injection z)) #[_,Z,Z,_,Z,aF (DU λz=>c4 (by injection z)) (nF (b _ _ ?_))]]
  clear b
  exact ah λt b=>#[_,Z,_,_,Z,Z,_,Z,bJ (Ea IM) #[_,Z,p,6,Z,G.B,IL,IL,λD i x y j C=>#[_,Z,p,Z,j,λJ H5 L M O R=>#[dU,λv N=>r (.rd D J) _ _ v O ((ar.of_eq C).trans (ar.of_eq R)) N #[v,Z,jc] Eh Z Z]]]]
theorem ig:ak ["_law_box_here","_law_names_here","_law_deep","_law_spare","_law_k","_law_args","_law_steps","_law_f","_law_held"] ["_law_box_here","_law_names_here","_law_deep","_law_spare"] (aa nK):=bq
noncomputable def ZB:Scope:=#[.function,[(".0",.local),("_law_k",.local),("_law_number",.globalImplicit),("_law_box_here",.free)],false,false,[]]
theorem wZ:(["_law_k","_law_box_here"]:List Str).Nodup:=by decide+kernel
theorem wB:a8 ["_law_box_here","_law_names_here","_law_deep","_law_spare","_law_k","_law_args","_law_steps","_law_f","_law_held"] (aa nK) ZB ["_law_k","_law_box_here"] 1 [0]:=nR
noncomputable def ZC:Scope:=#[.function,[(".0",.local),("_law_j",.local),("_law_number",.globalImplicit),("_law_box_here",.free)],false,false,[]]
theorem xf:(["_law_j","_law_box_here"]:List Str).Nodup:=by decide+kernel
theorem wC:a8 ["_law_box_here","_law_names_here","_law_deep","_law_spare","_law_k","_law_args","_law_steps","_law_f","_law_held"] (aa nK) ZC ["_law_j","_law_box_here"] 1 [0]:=nR
theorem xF(F:aJ K "_law_chain" "_law_chain" nK f fd)(cT:Cl P w K mg base 1 fT f0 ["_law_box_here","_law_wide"] aN "_law_take")(cN:Cl P w K mg base 2 fN f2 ["_law_box_here"] fj "_law_number")(cW:Cl P w K mg base (2*n+3) fW f3 ["_law_box_here","_law_names_here","_law_deep","_law_spare"] (vW n) "_law_what")(ml:mg "len"=none)(mr:mg "range"=none)(m0:mg "tuple"=none):aj P w K mg base ay (2*n+4) f fd ["_law_box_here","_law_names_here","_law_deep","_law_spare"] (gV n):=by
 refine F.ok ig ?_ λc0 A o1 s H vs Q E U h=>?_
 ·rintro _ _ _ _ ⟨p,g,x,d,ys,rfl,_⟩
  rfl
 refine aR λGq kq=>?_
 obtain⟨p,g,x,d,ys,rfl,G0,hd,h4,h7,q⟩:=h
 refine kq ?_
 clear kq
 refine#[_,(jd (jx 5 ig.nd (jz jB Z m0 EZ (ja (@za _ _ _ _ _ _ _ (["_law_k","_law_box_here"]) (1) ([0]) _ _ _ _ Z (j3 Z mr (ja (cT.e U.m (ja (pv 0) (ja jf jb))) jb)) wB (λ_ _ _ _ _=>(js (i:=0) wZ Z (Or.inl Z))) (λ_ _ _ _ _=>(@zn _)) (λ_ _ _ _ _=>(cN.e U.m (ja (pv 1) jb))) (by intro _;rfl)) jb))) (jd (jx 6 ig.nd (jC jb)) (jd (jx 7 ig.nd (jr jo (pv 1) (cT.e U.m (ja (pv 0) (ja (jO jK Z ml EX (ja (pv 1) jb)) jb))) (λ_ _=>Z))) (jd (j6 Ej Z (j3 Z mr (ja (cT.e U.m (ja (pv 0) (ja jf jb))) jb)) (js (i:=4) ig.nd Z (Or.inl Z)) (jg (jv (jA qL (jr jo (pv 3) jf (λ_ _=>Z)) jf (aD _)) (jd (jx 8 ig.nd (jz jB Z m0 EZ (ja (@za _ _ _ _ _ _ _ (["_law_j","_law_box_here"]) (1) ([0]) _ _ _ _ Z (j3 Z mr (ja (cT.e U.m (ja (pv 0) (ja jf jb))) jb)) wC (λ_ _ _ _ _=>(js (i:=0) xf Z (Or.inl Z))) (λ_ _ _ _ _=>(@zn _)) (λ_ _ _ _ _=>(cN.e U.m (ja (pv 1) jb))) (by intro _;rfl)) jb))) (jg (jL (kK D2 Ee Ed jN (pv 6) (ja (jh (ja (cT.e U.m (ja (pv 0) (ja jf jb))) (ja (pv 8) (ja (cW.e U.m (ja (pv 0) (ja (pv 1) (ja (pv 2) (ja (pv 3) jb))))) jb)))) jb))))) jm))) (jg (jl (jh (ja (pv 7) (ja (pv 5) (ja (jz jB Z m0 EZ (ja (pv 6) jb)) (ja (cN.e U.m (ja (pv 0) jb)) jb))))))))))),?_]
 have b1:=aE
 have k7:=h4
 refine ah λF1 y=>#[_,Z,p,3,Z,G0.B,IL,IL,λd1 H1 d' D B1 q1=>#[_,Z,IM,IM,?_]]
 refine qm (lo:=0) (n:=(d1).toNat) (λi X Y=>(∃I:List Int,X=I.map V.int/\I.length=i)/\am Y p/\ar p H1 Y) #[#[[],Z,Z],B1,ar.refl] IM (λi X Y h=>by obtain⟨⟨I,e,l⟩,_⟩:=h;rw[e,DK,l];exact DN _) (λi X Y hi h=>?_) ?_
 ·exact#[_,Z,p,Z,h.2.1,λe H7 e0 e1 B7 e7=>#[let #[I,h1,l]:=h.1;#[I++[e],by rw[h1,Ef];rfl,by rw[DM,l];rfl],B7,h.2.2.trans (ar.of_eq e7)]]
 rintro X H2 ⟨⟨I,rfl,_⟩,B2,k2⟩ l1 n4
 refine#[l1,_,Z,.inl #[aC.of jc,λag n5=>y _ _ ?_]]
 clear y
 have s3:ae H2 (af (af H2 l1 (.lst (I.map V.int))) ag (.tup (I.map V.int))):=(je n4).trans (je n5)
 have a3:af (af H2 l1 (.lst (I.map V.int))) ag (.tup (I.map V.int)) ag=some (.tup (I.map V.int)):=jc
 generalize af (af H2 l1 (.lst (I.map V.int))) ag (.tup (I.map V.int))=H3 at s3 a3
 have k3:ar p H H3:=((ar.of_eq q1).trans k2).trans (ar.of_same s3)
 have G3:=G0.but (B2.same s3) k3
 refine ah λF1 y=>#[le,λS n0=>y _ _ ?_]
 clear y
 have s4:ae H3 (af H3 S (.lst [])):=je n0
 have l4:af H3 S (.lst []) S=some (.lst []):=jc
 generalize af H3 S (.lst [])=H4 at s4 l4
 have G4:=G3.same s4
 have h0:(((ys.map V.str).length:Nat):Int)=(ys.length:Int):=by rw[DK]
 have h8:=G0.y1
 have h':=G0.y2
 refine ah λF1 y=>#[_,Z,_,Z,_,Z,g,_,Z,.inl (aC.of G4.g),p,_,Z,G4.B,by rw[h0];omega,by rw[h0];omega,λd5 H5 d2 d0 B5 q5=>?_]
 have k5:ar p H4 H5:=ar.of_eq q5
 have G5:=G4.but B5 k5
 rw[h0]at d0
 obtain⟨f,hf,h5⟩:=Jk (ys:=ys) d2 d0
 refine#[g,_,_,_,Z,Z,aC.of G5.g,h5,y _ _ ?_]
 clear y
 have C:S≠p:=(B2.same s3).ne n0
 have n3:H S=none:=by
  cases z:H S with
  |none=>rfl
  |some o=>have:=k3 _ _ C z;rw[n0]at this;cases this
 have N:S≠x:=Eg (by obtain⟨k,e⟩:=G3.s;exact ji e n0)
 have a5:H5 ag=some (.tup (I.map V.int)):=k5 _ _ (by intro z;have:=s4 _ _ a3;rw[z]at this;obtain⟨_,_,_,_,_,hp⟩:=G4.B.ob;rw[hp]at this;cases this) (s4 _ _ a3)
 have l5:=k5 _ _ C l4
 have K5:ar p H H5:=k3.trans ((ar.of_same s4).trans k5)
 have e5:cc H5 x=cc H x:=jQ G0.B G0.s K5
 refine ah λF1 y=>dJ λJ j=>#[_,Z,p,9,Z,B5,IL,IL,λd6 H6 b2 b3 B6 q6=>#[_,Z,IM,IM,j _ _ ?_]]
 clear j
 have k6:ar p H5 H6:=ar.of_eq q6
 have e6:cc H6 x=cc H x:=(jQ B5 G5.s k6).trans e5
 have G6:=G5.but B6 k6
 refine zC (lo:=0) (LI p g x S ag d f I H) #[none,none,.nil,[],Z,k6 _ _ C l5,Z,Eh,DX _,by show(0:Int)+_=_;omega,IM,B6,G6.s,(K5.trans k6).two,k6.tm B5 _ _ a5] ?_ (λσ H' h=>y _ _ ?_)
 ·intro E _ i σ H7 hi fE Gq kq h
  clear y
  obtain⟨o4,o8,s,M,rfl,w1,w2,w3,w4,w5,w6,W,w8,w9,wa⟩:=h
  refine kq ?_
  clear kq
  have G7:=G0.but2 W w8 w9
  obtain⟨k,hk⟩:=w8
  have ek:=zK hk
  have l3:=QC w3 w2
  refine#[_,Z,x,_,_,_,Z,Z,aC.of hk,Z,_,_,Z,Z,_,Z,?_]
  by_cases c:(0:Int) < k
  ·refine bJ (Ea c) ?_
   refine ah λF1 y=>#[_,Z,p,3,Z,W,IL,IL,λd8 H8 b4 b5 B8 q8=>#[_,Z,IM,IM,?_]]
   refine qm (lo:=0) (n:=(d8).toNat) (λi X Y=>(∃I:List Int,X=I.map V.int/\I.length=i)/\am Y p/\ar p H8 Y) #[#[[],Z,Z],B8,ar.refl] IM (λi X Y h=>by obtain⟨⟨I,e,l⟩,_⟩:=h;rw[e,DK,l];exact DN _) (λi X Y hi h=>?_) ?_
   ·exact#[_,Z,p,Z,h.2.1,λe H7 e0 e1 B7 e7=>#[let #[I,h1,l]:=h.1;#[I++[e],by rw[h1,Ef];rfl,by rw[DM,l];rfl],B7,h.2.2.trans (ar.of_eq e7)]]
   rintro X O ⟨⟨hs,rfl,_⟩,B9,k9⟩ l9 n7
   refine#[l9,_,Z,.inl #[aC.of jc,λhv n'=>y _ _ ?_]]
   clear y
   have s1:ae O (af (af O l9 (.lst (hs.map V.int))) hv (.tup (hs.map V.int))):=(je n7).trans (je n')
   have a1:af (af O l9 (.lst (hs.map V.int))) hv (.tup (hs.map V.int)) hv=some (.tup (hs.map V.int)):=jc
   generalize af (af O l9 (.lst (hs.map V.int))) hv (.tup (hs.map V.int))=a2 at s1 a1
   have k0:ar p H7 a2:=((ar.of_eq q8).trans k9).trans (ar.of_same s1)
   have G1:=G7.but (B9.same s1) k0
   have a4:=k0 _ _ C w1
   refine#[_,Z,.inl #[Z,_,aC.of a4],_,Z,p,9,Z,G1.B,IL,IL,λD a0 d4 d7 B3 q0=>?_]
   have k1:ar p a2 a0:=ar.of_eq q0
   have G2:=G1.but B3 k1
   have K1:ar p H7 a0:=k0.trans k1
   have x1:cc a0 x=cc H7 x:=jQ W G7.s K1
   refine#[_,Z,_,Z,_,Z,_,Z,_,Z,p,g,x,d,ys,Z,G2,hd,IM,IM,λw u r hw o2 d3 s9 s6 B4 s0 k4=>#[dU,λR a'=>?_]]
   have K0:aB p x H7 r:=K1.two.trans k4
   have w0:=K0 _ _ C N w1
   have t1:ai H7 r:=K0.tm W #[k,hk]
   have h6:r hv=some (.tup (hs.map V.int)):=k4.tm G2.B G2.s _ _ (k1.tm G1.B _ _ a1)
   have t:ae r (af r R (.tup [.int D,.ref hv,u])):=je a'
   have e2:af r R (.tup [.int D,.ref hv,u]) R=some (.tup [.int D,.ref hv,u]):=jc
   refine#[S,_,_,Z,Z,t _ _ w0,IM,fE _ _ ?_]
   generalize af r R (.tup [.int D,.ref hv,u])=G at t e2
   have L:ar S G (af G S (.lst (M++[.ref R]))):=λb o nb e=>by rw[jj nb];exact e
   have T:ai G (af G S (.lst (M++[.ref R]))):=λb xs e=>L _ _ (jG e (t _ _ w0) (by intro z;cases z)) e
   have w':af G S (.lst (M++[.ref R])) S=some (.lst (M++[.ref R])):=jc
   generalize af G S (.lst (M++[.ref R]))=H0 at L T w'
   have t0:ai r H0:=λb xs e=>T _ _ (t _ _ e)
   have t2:ai H7 H0:=t1.trans t0
   have s2:bQ H0 x:=let #[z,e]:=s0;#[z,L _ _ (Eg N) (t _ _ e)]
   have x0:cc H0 x=cc r x:=Qy s0 λo e=>L _ _ (Eg N) (t _ _ e)
   have s7:=qZ (n:=D) (hs:=hs) (w:=w) w3
   refine#[_,_,Sk.put D hs w s,M++[.ref R],Z,w',Yp (T _ _ e2) (t0 _ _ h6) (hw.mono t0) w3 (w2.mono t2),JU o2 w3,JV d3 w3 w4,by rw[s7,x0];omega,by rw[x0];exact s6,?_,s2,?_,t2 _ _ wa]
   ·refine aR λGq kq=>?_
    obtain⟨a,b,h1,h2,h3,h⟩:=B4.ob
    refine kq ?_
    clear kq
    exact#[a,b,h1,h2,h3,L _ _ (Eg C) (t _ _ h)]
   ·intro b o n1 n2 e
    exact L _ _ (ji e n3) (t _ _ (K0 _ _ n1 n2 (w9 _ _ n1 n2 e)))
  ·exact aF (DU c) (fE _ _ #[_,_,s,M,Z,w1,w2,w3,w4,w5,w6,W,#[k,hk],w9,wa])
 ·obtain⟨o4,o8,s,M,rfl,w1,w2,w3,w4,w5,w6,W,w8,w9,wa⟩:=h
  refine#[_,Z,_,Z,_,Z,S,M,Z,.inl #[aC.of w1,λl2 b0=>?_]]
  have s8:ae H' (af H' l2 (.tup M)):=je b0
  refine#[_,Z,p,Z,W.same s8,λd9 O b6 b7 B9 q9=>#[nO,λv nv=>?_]]
  have k9:ar p H' O:=(ar.of_same s8).trans (ar.of_eq q9)
  have t9:ai H' O:=k9.tm W
  have sv:ae O (af O v (.tup [.str f,.ref ag,.ref l2,.int d9])):=je nv
  have tv:ai H' (af O v (.tup [.str f,.ref ag,.ref l2,.int d9])):=t9.trans (ae.tm sv)
  have l0:O l2=some (.tup M):=(ar.of_eq q9).tm (W.same s8) _ _ jc
  have x9:=jQ W w8 k9
  have s5:=w8.but W k9
  have xv:=jU s5 sv
  exact q f I s d9 _ _ #[v,ag,l2,M,Z,jc,tv _ _ wa,sv _ _ l0,w2.mono tv] w3 w4 (by rw[xv,x9];exact w5) (by rw[xv,x9];exact w6) (B9.upd_new nv) (s5.new nv) (w9.trans (k9.two.trans (aB.of_same sv)))
theorem ZD(h:0<=d)(H:d < 3):∃m:Nat,du [V.int 2,.int 4,.int 15] d=some (.int (m:Int))/\m<=15:=by
 rcases(by omega:d=0∨d=1∨d=2) with rfl |rfl |rfl
 ·exact#[2,Z,IL]
 ·exact#[4,Z,IL]
 ·exact#[15,Z,IL]
theorem ZE(h:0<=d)(H:d < 3):∃m:Int,du [V.int 12,.int 30,.int 60] d=some (.int m)/\0<=m/\m<=60:=by
 rcases(by omega:d=0∨d=1∨d=2) with rfl |rfl |rfl
 ·exact#[12,Z,IL,IL]
 ·exact#[30,Z,IL,IL]
 ·exact#[60,Z,IL,IL]
theorem xj:aj P w K mg base ay k f b ["_law_box_here","_law_names_here","_law_deep","_law_spare"] (gV 0):=by
 have n:∀v H Q E,¬gV 0 v H Q E:=λv H Q E h=>by
  obtain⟨p,g,S,d,y,_,_,z,_⟩:=h
  omega
 exact#[λv H Q E h=>absurd h (n v H Q E),λA o s H a u v Q E _ _ _ _ h=>absurd h (n v H Q E)]
theorem AA(F:aJ K "_law_chain" "_law_chain" nK d f)(B:aw K f ["_law_box_here","_law_names_here","_law_deep","_law_spare"] [])(M:mg "_law_chain"=some (.ref d))(a:aJ K "_law_what" "_law_what" uA k b)(e:aw K b ["_law_box_here","_law_names_here","_law_deep","_law_spare"] [])(g:mg "_law_what"=some (.ref k))(c:Cl P w K mg base 1 p l ["_law_box_here","_law_wide"] aN "_law_take")(C:Cl P w K mg base 2 q o ["_law_box_here"] fj "_law_number")(i:mg "len"=none)(j:mg "range"=none)(m:mg "tuple"=none):∀n,aj P w K mg base ay (2*n+4) d f ["_law_box_here","_law_names_here","_law_deep","_law_spare"] (gV n)
 |0=>xj
 |n+1=>by
  have h:=AA F B M a e g c C i j m n
  have H:=xH a c C #[h,B,F.kp,M]
  exact xF F c C #[H,e,a.kp,g] i j m
theorem pP:ak ["_law_box_here","_law_names_here","_law_deep"] ["_law_box_here"] (aa yt):=bq
theorem xE(F:aJ K "_law_book" "_law_book" yt f fd)(U:Cl P w K mg base 1 fT f0 ["_law_box_here","_law_wide"] aN "_law_take")(cA:Cl P w K mg base 2 fA f2 ["_law_box_here","_law_total"] fi "_law_names")(cC:Cl P w K mg base 36 fC f3 ["_law_box_here","_law_names_here","_law_deep","_law_spare"] (gV 16) "_law_chain"):aj P w K mg base ay 37 f fd ["_law_box_here"] rh:=by
 refine F.ok pP ?_ λc0 A O s H vs Q E t h=>?_
 ·rintro _ _ _ _ ⟨p,rfl,_⟩
  rfl
 refine aR λGq V=>?_
 obtain⟨p,rfl,hB,q⟩:=h
 refine V ?_
 clear V
 refine#[_,(jd (jx 1 pP.nd (cA.e t.m (ja (pv 0) (ja jf jb)))) (jd (jx 2 pP.nd (jr jo (jC (ja jf (ja jf (ja jf jb)))) (U.e t.m (ja (pv 0) (ja jf jb))) (λ_ _=>Z))) (jg (jl (cC.e t.m (ja (pv 0) (ja (pv 1) (ja (pv 2) (ja (jC (ja (jr jo (jC (ja jf (ja jf (ja jf jb)))) (U.e t.m (ja (pv 0) (ja jf jb))) (λ_ _=>Z)) jb)) jb))))))))),?_]
 have b0:=aE
 refine ah λF1 i=>#[_,Z,p,14,Z,hB,IL,IL,λg Y H1 ng W hl h0 B X=>i _ _ ?_]
 clear i
 refine ah λF1 i=>#[dU,λl v=>#[_,Z,p,3,Z,B.upd_new v,IL,IL,λd2 H2 D x y q2=>?_]]
 obtain⟨m,C,m1⟩:=ZD D x
 have G:ar p H1 H2:=(ar.refl.upd_new v).trans (ar.of_eq q2)
 refine#[l,_,_,_,Z,Z,aC.of (by rw[q2 l (B.ne v)];exact jc),C,i _ _ ?_]
 clear i
 have j:=G _ _ (zo B W) W
 refine#[_,Z,_,Z,_,Z,dU,λl3 c=>#[_,Z,p,3,Z,y.upd_new c,IL,IL,λd4 d I J B4 q4=>?_]]
 obtain⟨M,k,m0,m6⟩:=ZE I J
 have L:ar p H2 d:=(ar.refl.upd_new c).trans (ar.of_eq q4)
 refine#[l3,_,_,_,Z,Z,aC.of (by rw[q4 l3 (y.ne c)];exact jc),k,lg,λS N=>?_]
 have R:=L _ _ (zo y j) j
 have k5:ar p d (af d S (.lst [.int M])):=ar.refl.upd_new N
 have G5:Gb (af d S (.lst [.int M])) p g S Y:=#[B4.upd_new N,ap R N,IM,IM,M,jc]
 have e5:cc (af d S (.lst [.int M])) S=M:=zK jc
 have K5:ar p H (af d S (.lst [.int M])):=(X.trans G).trans (L.trans k5)
 have T:S≠p:=B4.ne N
 have r:H S=none:=by
  cases z:H S with
  |none=>rfl
  |some o=>have:=(X.trans G).trans L _ _ T z;rw[N]at this;cases this
 generalize af d S (.lst [.int M])=H5 at G5 e5 K5
 refine#[p,g,S,m,Y,Z,G5,IM,IM,IM,λf is s a u H6 hc ok dp sz s0 B6 s6 k6=>q f is s a u H6 hc ok IM IM B6 λb o n e=>k6 _ _ n (ji e r) (K5 _ _ n e)]
noncomputable abbrev uG:Stmt:=bE 7
noncomputable abbrev uH:Stmt:=bE 8
noncomputable abbrev yx:Stmt:=bE 9
noncomputable def Sk.flat:Sk->List Sk
 | .st _ _ w r=>w::(w.flat++r.flat)
 | .cl _ _ s _=>s.flat
 |_=>[]
noncomputable def Sk.tops:Sk->List Sk
 | .st _ _ w r=>w::r.tops
 |_=>[]
noncomputable def cj(W:List Sk):List Sk:=(W.map λw=>w::w.flat).flatten
theorem zR:∀{s:Sk},s.ok true->s.flat=cj s.tops
 | .nil,_=>rfl
 | .st _ _ w r,o=>by show w::(w.flat++r.flat)=w::w.flat++cj r.tops;rw[zR o.2];rfl
theorem kr:∀{b:Bool} {s:Sk},s.ok b->s.flat.length=s.size
 |true,.nil,_=>rfl
 |true,.st _ _ w r,o=>by
  have h:=kr (b:=false) (s:=w) o.1
  have H:=kr (b:=true) (s:=r) o.2
  show(w.flat++r.flat).length+1=w.size+r.size+1
  rw[DM,h,H]
 |false,.cl _ _ s _,o=>kr (b:=true) (s:=s) o
 |false,.ask _,_=>rfl
 |false,.rd _ _,_=>rfl
 |false,.wr _ _,_=>rfl
theorem zF(a b:List Sk):cj (a++b)=cj a++cj b:=by unfold cj;rw[Ef,List.flatten_append]
theorem Z7(W:List Sk)(i:Nat):(cj (W.take i)).length<=(cj W).length:=by
 have:=EO List.length (zF (W.take i) (W.drop i))
 rw[Gw,DM]at this
 omega
theorem ZJ:∀{s:Sk} {S:List V},s.ok true->dY H s .non S->∀{i:Nat} {x:V},S[i]?=some x->∃w p h n u,s.tops[i]?=some w/\w.ok false/\w.dep<=s.dep/\w.size+1<=s.size/\x= .ref p/\H p=some (.tup [.int n,.ref h,u])/\dY H w u []
 | .nil,_,_,e,i,x,a=>by have e:_=[]:=e;rw[e]at a;simp at a
 | .st n f w r,_,o,#[p,h,u,y,e,b,g,c,d],0,x,a=>by
  rw[e]at a
  cases a
  exact#[w,p,h,n,u,Z,o.1,Ho _ _,by show w.size+1<=w.size+r.size+1;omega,Z,b,c]
 | .st n f w r,_,o,#[p,h,u,y,e,b,g,c,d],i+1,x,a=>by
  rw[e]at a
  obtain⟨W,j,k,N,U,t,T,l,q,m⟩:=ZJ o.2 d (i:=i) (x:=x) (by simpa using a)
  exact#[W,j,k,N,U,t,T,DV l (Hc _ _),by show W.size+1<=w.size+r.size+1;omega,m]
theorem Ja:∀{s:Sk} {S:List V},s.ok true->dY H s .non S->S.length=s.tops.length
 | .nil,_,_,e=>by have e:_=[]:=e;rw[e];rfl
 | .st n b w r,_,o,z=>by obtain⟨p,h,u,y,e,c,d,f,a⟩:=z;rw[e];exact EO (·+1) (Ja o.2 a)
abbrev RT:=Hp->V->Sk->Prop
def hX(R:RT)(H:Hp):List Sk->List V->Prop
 | [],v=>v=[]
 |w::W,v=>∃x r,v=x::r/\R H x w/\hX R H W r
def Af(R:RT):Prop:=∀(H h:Hp) (x:V) (w:Sk),ai H h->R H x w->R h x w
theorem hX.mono{R:RT}(a:Af R)(k:ai H b):∀{W:List Sk} {v:List V},hX R H W v->hX R b W v
 | [],_,h=>h
 |_::_,_,z=>by obtain⟨x,r,e,c,d⟩:=z;exact #[x,r,e,a _ _ _ _ k c,hX.mono a k d]
theorem hX.app{R:RT}(a:hX R H b y):∀{W:List Sk} {v:List V},hX R H W v->hX R H (W++b) (v++y)
 | [],_,h=>by have e:_=[]:=h;rw[e];exact a
 |_::_,_,z=>by obtain⟨x,r,e,c,d⟩:=z;exact #[x,r++y,by rw[e];rfl,c,hX.app a d]
theorem hX.len{R:RT}:∀{W:List Sk} {v:List V},hX R H W v->v.length=W.length
 | [],_,h=>by have e:_=[]:=h;rw[e];rfl
 |_::_,_,z=>by obtain⟨x,r,e,b,a⟩:=z;rw[e];exact EO (·+1) (hX.len a)
theorem hX.at{R:RT}:∀{W:List Sk} {v:List V},hX R H W v->∀{i:Nat} {x:V},v[i]?=some x->∃w,W[i]?=some w/\R H x w
 | [],_,h,i,x,a=>by have e:_=[]:=h;rw[e]at a;simp at a
 |w::_,_,#[y,r,e,b,c],0,x,a=>by rw[e]at a;cases a;exact#[w,Z,b]
 |w::W,_,#[y,r,e,b,c],i+1,x,a=>by rw[e]at a;exact hX.at c (i:=i) (by simpa using a)
def RW:RT:=λH x w=>∃q p u,x= .ref q/\H q=some (.tup [p,u])/\dY H w u []
theorem oA:Af RW:=λ_ _ _ _ k #[q,p,u,e,h,H]=>#[q,p,u,e,k _ _ h,H.mono k]
def vY(n:Nat):Sp:=λv H Q _=>∃(p:Addr) (a:List V) (w:Sk) (u:V),v=[.ref p,u]/\H p=some (.tup a)/\a.length+n<=100/\dY H w u []/\w.ok false/\w.dep < n/\w.size<=1000/\
 ∀(r:Addr) (x:List V) (h:Hp),H r=none->h r=some (.lst x)->hX RW h (w::w.flat) x->ae H h->Q (.ref r) h
def gZ(n:Nat):Sp:=λv H Q _=>∃(p:Addr) (b:List V) (f:Str) (i:List Int) (s:Sk) (a:Int) (u:V),v=[.ref p,u]/\H p=some (.tup b)/\b.length+n+1<=100/\iX H f i s a u/\s.ok true/\s.dep < n/\s.size<=1000/\
 ∀(r:Addr) (x:List V) (h:Hp),H r=none->h r=some (.lst x)->hX RW h s.flat x->ae H h->Q (.ref r) h
noncomputable def di:List Sk->ba->ba
 | [],k=>k
 | .wr c i::r,k=>di r (aH k (.inl c) (.int i))
 |_::r,k=>di r k
theorem QM:∀(a b:List Sk) (k:ba),di (a++b) k=di b (di a k)
 | [],_,_=>rfl
 |w::a,b,k=>by cases w<;>exact QM a b _
theorem JY:∀(a:List Sk) (k:ba),(di a k).length<=k.length+a.length
 | [],_=>DN _
 |w::a,k=>by
  have h:=JY a k
  cases w with
  |wr c i=>have H:=JY a (aH k (.inl c) (.int i));have b:=qV k (.inl c) (.int i);show(di a (aH k (.inl c) (.int i))).length<=k.length+(a.length+1);omega
  |_=>show(di a k).length<=k.length+(a.length+1);omega
def rB:Sp:=λv H Q _=>∃(f:Str) (i:List Int) (s:Sk) (a:Int) (u:V),v=[u]/\iX H f i s a u/\s.ok true/\s.dep<=15/\s.size<=60/\
 ∀(r:Addr) (x:List V) (h:Hp),h r=some (.lst x)->hX RW h s.flat x->ae H h->Q (.ref r) h
inductive Db(pa tl:Addr)(u:V)(s:Sk)(H:Hp)(i:Nat)(σ:L2.St)(H':Hp):Prop
 |mk (o3 o4:Option V) (xs:List V) (e0:σ=[some (.ref pa),some u,some (.ref tl),o3,o4]) (e1:H' tl=some (.lst xs)) (e2:hX RW H' (cj (s.tops.take i)) xs) (e3:ae H H'):Db pa tl u s H i σ H'
theorem vV:ak ["path","what","within"] ["path","what"] (aa uG):=bq
theorem xQ(F:aJ K "whats_at" "whats_at" uG f Y)(cI:Cl P w K mg base (2*n+2) fI f0 ["path","chain"] (gZ n) "whats_in"):aj P w K mg base ay (2*n+3) f Y ["path","what"] (vY (n+1)):=by
 refine F.ok vV ?_ λc0 A O s H vs Q E hr h=>?_
 ·rintro _ _ _ _ ⟨j,R,w,u,rfl,_⟩
  rfl
 refine aR λGq T=>?_
 obtain⟨j,R,w,u,rfl,hp,h0,B,k,U,hz,q⟩:=h
 refine T ?_
 clear T
 refine#[_,(jd (jx 2 vV.nd (zb (jX (jw (pv 1))) (cI.e hr.m (ja (pv 0) (ja (jw (pv 1)) jb))) (jC jb))) (jg (jl (ju qg (jC (ja (jh (ja (pv 0) (ja (pv 1) jb))) jb)) (pv 2))))),?_]
 have b0:=aE
 have fl:=kr k
 refine ah λF1 C=>?_
 suffices W:∀(l:Addr) (x:List V) (d:Hp),d l=some (.lst x)->hX RW d w.flat x->ae H d->F1 [some (.ref j),some u,some (.ref l)] d by
  clear C
  cases w with
  |nil |st=>exact k.elim
  |ask b |rd c i |wr c i=>obtain⟨p,rfl,v⟩:=B;exact(jp v Z #[Z,_,Z,aF IP #[le,λl X=>W l [] _ jc Z (je X)]])
  |cl f is s a=>
   obtain⟨p,c,g,e,ss,rfl,v,h2,h3,h4,h5⟩:=B
   have U:s.dep+1 < n+1:=U
   exact(jp v Z #[Z,_,Z,bJ IP #[_,Z,jp v Z #[j,R,f,is,s,a,.ref c,Z,hp,IM,#[c,g,e,ss,Z,h2,h3,h4,h5],k,IM,hz,λl x d X D y S=>W l x d D y S]]])
 intro l x d D y S
 refine C _ _ ?_
 clear C
 have lx:=y.len
 refine#[_,Z,_,Z,bn,λt G=>#[lg,λL N=>#[_,Z,L,l,_,_,Z,Z,jc,ap (ap D G) N,by show 1+x.length<=_;omega,λr I=>?_]]]
 have J:ae d (af (af (af d t (.tup [.ref j,u])) L (.lst [.ref t])) r (.lst ([.ref t]++x))):=((je G).trans (je N)).trans (je I)
 have ht:af (af (af d t (.tup [.ref j,u])) L (.lst [.ref t])) r (.lst ([.ref t]++x)) t=some (.tup [.ref j,u]):=ap (ap jc N) I
 have M:H r=none:=by
  cases z:H r with
  |none=>rfl
  |some o=>have:=((je (o:=.lst [.ref t]) N) _ _ ((je (o:=.tup [.ref j,u]) G) _ _ (S _ _ z)));rw[I]at this;cases this
 exact q r _ _ M jc #[.ref t,x,Z,#[t,.ref j,u,Z,ht,B.mono (ae.tm (S.trans J))],y.mono oA (ae.tm J)] (S.trans J)
theorem JZ:∀{b:Bool} {s:Sk},s.ok b->∀w∈s.flat,w.ok false
 |true,.nil,_,w,h=>nomatch h
 |true,.st _ _ v r,o,w,h=>(List.mem_cons.mp h).elim (λe=>by rw[e];exact o.1) λh=>(List.mem_append.mp h).elim (JZ (b:=false) o.1 w) (JZ (b:=true) o.2 w)
 |false,.cl _ _ s _,o,w,h=>JZ (b:=true) (s:=s) o w h
 |false,.ask _,_,w,h=>nomatch h
 |false,.rd _ _,_,w,h=>nomatch h
 |false,.wr _ _,_,w,h=>nomatch h
theorem mQ:ak ["path","chain","told","number","step"] ["path","chain"] (aa uH):=bq
theorem xR(F:aJ K "whats_in" "whats_in" uH f fd)(cA:Cl P w K mg base (2*n+1) fA f2 ["path","what"] (vY n) "whats_at")(O:mg "enumerate"=none):aj P w K mg base ay (2*n+2) f fd ["path","chain"] (gZ n):=by
 refine F.ok mQ ?_ λc0 A R s H vs Q E U h=>?_
 ·rintro _ _ _ _ ⟨V,ps,f,is,s,a,u,rfl,_⟩
  rfl
 refine aR λGq k=>?_
 obtain⟨V,ps,f,is,s,a,u,rfl,hp,h5,hc,d,hd,hz,q⟩:=h
 refine k ?_
 clear k
 refine#[_,(jd (jx 2 mQ.nd (jC jb)) (jd (j6 Ej Z (oW Z O (ja (jw (pv 1)) jb)) (zi (n:=2) Z (jy (js (i:=3) mQ.nd Z (Or.inl Z)) (jy (js (i:=4) mQ.nd Z (Or.inl Z)) kc))) (jg (jL (kK D2 GQ GP Qc (pv 2) (ja (cA.e U.m (ja (ju kh (pv 0) (jh (ja (pv 3) jb))) (ja (jw (pv 4)) jb))) jb))))) (jg (jl (pv 2))))),?_]
 have b0:=aE
 obtain⟨c,g,e,ss,rfl,h1,h2,h3,h4⟩:=hc
 have fl:=kr d
 have lt:=Ja d h4
 refine ah λF1 l=>#[le,λT N=>l _ _ ?_]
 clear l
 have Y:ae H (af H T (.lst [])):=je N
 refine ah λF1 l=>dJ λJ j=>(jp (Y _ _ h1) Z #[e,Z,#[_,aA.of (Y _ _ h3)],j _ _ ?_])
 clear j
 refine Ya (K:=K) (xs:=ss) (Db V T (.ref c) s H) #[none,none,[],Z,jc,Z,Y] (λi σ Hx _ h=>?_) ?_ (λσ Hx h=>l _ _ ?_)
 ·obtain⟨_,_,_,_,_,_,v⟩:=h
  exact aA.of (v _ _ h3)
 ·intro E hE i x y σ L hx np f0 Gq k h
  clear l
  obtain⟨o3,o4,xs,rfl,M,W,v⟩:=h
  have B:ae L (af L y (.tup [.int i,x])):=je np
  have e8:af L y (.tup [.int i,x]) y=some (.tup [.int i,x]):=jc
  refine k ?_
  clear k
  generalize af L y (.tup [.int i,x])=H8 at B e8 ⊢
  have S8:=v.trans B
  obtain⟨w,p,hh,n1,u,ht,o1,d0,s2,rfl,h0,hw⟩:=ZJ d (h4.mono (ae.tm S8)) hx
  refine#[y,_,Z,aA.of e8,Z,_,_,Z,_,_,Z,Z,?_]
  refine#[_,Z,.inl #[Z,_,aC.of (B _ _ M)],_,Z,_,Z,lg,λt nt=>#[V,t,_,_,Z,Z,ap (S8 _ _ hp) nt,jc,by show _+1<=_;omega,λr9 H9 e9 s9=>?_]]
  have S9:=(je (o:=.tup [.int i]) nt).trans s9
  refine(jp (S9 _ _ h0) Z #[r9,_,w,u,Z,e9,by rw[DM];show _+1+_<=_;omega,hw.mono (ae.tm S9),o1,IM,IM,λr X C nr U D s0=>?_])
  have S:=S9.trans s0
  have G:=S _ _ (B _ _ M)
  have lx:=W.len
  have l0:=D.len
  have bl:=Z7 s.tops (i+1)
  have et:s.tops.take (i+1)=s.tops.take i++[w]:=by rw[Eu,ht];rfl
  have eb:cj [w]=w::w.flat:=by show(w::w.flat)++[]=_;rw[Ge]
  rw[<- zR d,fl]at bl
  rw[et,zF,eb]at bl
  rw[DM]at bl
  have I:ai C (af C T (.lst (xs++X))):=λb ys e=>by rw[jj (jG e G (by intro z;cases z))];exact e
  refine#[T,r,_,_,Z,Z,G,U,IM,f0 _ _ #[_,_,xs++X,Z,jc,?_,λb o e=>?_]]
  ·rw[et,zF,eb]
   exact(D.mono oA I).app ((W.mono oA (ae.tm (B.trans S))).mono oA I)
  ·rw[jj (ji e N)]
   exact S _ _ (S8 _ _ e)
 ·obtain⟨o3,o4,xs,rfl,M,W,v⟩:=h
  rw[lt,Er,<- zR d]at W
  exact#[_,Z,q T xs Hx N M W v]
theorem xq:aj P w K mg base ay k f c ["path","chain"] (gZ 0):=by
 have n:∀v H Q E,¬gZ 0 v H Q E:=λv H Q E h=>by
  obtain⟨p,d,f,i,s,a,u,_,_,_,_,_,z,_⟩:=h
  omega
 exact#[λv H Q E h=>absurd h (n v H Q E),λA o s H b U v Q E _ _ _ _ h=>absurd h (n v H Q E)]
theorem Bs(F:aJ K "whats_at" "whats_at" uG g a)(B:aw K a ["path","what"] [])(M:mg "whats_at"=some (.ref g))(b:aJ K "whats_in" "whats_in" uH c f)(d:aw K f ["path","chain"] [])(e:mg "whats_in"=some (.ref c))(m:mg "enumerate"=none):∀n,aj P w K mg base ay (2*n+2) c f ["path","chain"] (gZ n)
 |0=>xq
 |n+1=>by
  have h:=Bs F B M b d e m n
  have H:=xQ F #[h,d,b.kp,e]
  exact xR b #[H,B,F.kp,M] m
theorem A4:ak ["chain"] ["chain"] (aa yx):=bq
theorem xS(F:aJ K "whats" "whats" yx f j)(C:Cl P w K mg base 34 L l ["path","chain"] (gZ 16) "whats_in"):aj P w K mg base ay 35 f j ["chain"] rB:=by
 refine F.ok A4 ?_ λp A o s H V Q E b h=>?_
 ·rintro _ _ _ _ ⟨f,i,s,a,u,rfl,_⟩
  rfl
 refine aR λM k=>?_
 obtain⟨f,i,s,a,u,rfl,v,d,N,O,q⟩:=h
 refine k ?_
 clear k
 refine#[_,(jg (jl (C.e b.m (ja (jh jb) (ja (pv 0) jb))))),?_]
 refine#[le,λt n=>#[_,Z,t,[],f,i,s,a,u,Z,jc,by show 0+16+1<=100;decide,?_,d,IM,IM,λr x y R b z S=>q r x y b z ((je n).trans S)]]
 obtain⟨c,g,e,B,rfl,D,G,I,J⟩:=v
 exact#[c,g,e,B,Z,ap D n,ap G n,ap I n,J.mono (ae.tm (je n))]
noncomputable abbrev pI:Stmt:=bE 32
noncomputable abbrev uy:Stmt:=bE 74
def NT(k:ba):Prop:=∀p∈k,∃i,p.2= .int i
theorem NT.nil:NT []:=λ_ h=>nomatch h
theorem GT.nt(h:GT k):NT k:=λp H=>let #[i,e,_]:=h p H;#[i,e]
theorem NT.put(h:NT a)(k:aV)(i:Int):NT (aH a k (.int i)):=by
 intro p hp
 unfold aH at hp
 split at hp
 ·obtain⟨q,H,rfl⟩:=List.mem_map.mp hp
  by_cases e:q.1=k
  ·rw[D0 e];exact#[i,Z]
  ·rw[D1 e];exact h q H
 ·rcases List.mem_append.mp hp with hp |hp
  ·exact h p hp
  ·rw[List.mem_singleton.mp hp];exact#[i,Z]
theorem NT.get(h:NT a)(k:aV)(z:Int):(be a k).getD (.int z)= .int (look a k z):=by
 unfold look
 cases e:be a k with
 |none=>rfl
 |some v=>
  unfold be at e
  obtain⟨p,H,rfl⟩:=Option.map_eq_some_iff.mp e
  obtain⟨i,E⟩:=h p (Iy H)
  show p.2=_
  rw[E]
theorem Xi(a:ba)(k j:aV)(i z:Int):look (aH a k (.int i)) j z=if j=k then i else look a j z:=by
 unfold look
 rw[rM]
 by_cases e:j=k
 ·rw[D0 e,D0 e]
 ·rw[D1 e,D1 e]
theorem iX.same{a:Int}(h:iX H f i s a u)(k:ai H b):iX b f i s a u:=by
 obtain⟨c,g,e,S,E,d,j,l,m⟩:=h
 exact#[c,g,e,S,E,k _ _ d,k _ _ j,k _ _ l,m.mono k]
noncomputable def iW:List Sk->ba->Bool
 | [],_=>true
 | .wr c i::r,k=>iW r (aH k (.inl c) (.int i))
 | .rd c i::r,k=>decide (i=look k (.inl c) 0)&&iW r k
 |_::r,k=>iW r k
noncomputable def hV(C:ba):List Sk->ba->Bool
 | [],_=>true
 | .wr c i::r,k=>hV C r (aH k (.inl c) (.int i))
 | .rd c i::r,k=>decide (look k (.inl c) (look C (.inl c) 0)=i)&&hV C r k
 |_::r,k=>hV C r k
theorem Yq:∀(W:List Sk) (h k:ba),(∀c,look h (.inl c) 0=look k (.inl c) (look C (.inl c) 0))->iW W h=hV C W k
 | [],_,_,_=>rfl
 |w::W,h,k,e=>by
  cases w with
  |wr c i=>exact Yq W _ _ λa=>by rw[Xi,Xi,e]
  |rd c i=>
   show(decide _&&_)=(decide _&&_)
   rw[Yq W h k e,e]
   congr 1
   exact decide_eq_decide.mpr #[Eq.symm,Eq.symm]
  |_=>exact Yq W h k e
theorem Kg:∀(a b:List Sk) (k:ba),iW (a++b) k=(iW a k&&iW b (di a k))
 | [],_,_=>rfl
 |w::a,b,k=>by
  cases w with
  |rd c i=>show(decide _&&iW (a++b) k)=(decide _&&iW a k&&iW b (di a k));rw[Kg a b k,Bool.and_assoc]
  |_=>exact Kg a b _
theorem Kh:∀(a b:List Sk) (k:ba),hV C (a++b) k=(hV C a k&&hV C b (di a k))
 | [],_,_=>rfl
 |w::a,b,k=>by
  cases w with
  |rd c i=>show(decide _&&hV C (a++b) k)=(decide _&&hV C a k&&hV C b (di a k));rw[Kh a b k,Bool.and_assoc]
  |_=>exact Kh a b _
theorem QE:∀(W:List Sk) {k:ba},NT k->NT (di W k)
 | [],_,h=>h
 |w::W,k,h=>by
  cases w with
  |wr c i=>exact QE W (h.put _ i)
  |_=>exact QE W h
theorem QN{a:Type}{W:List a}{w:a}(h:W[i]?=some w):W=W.take i++(w::W.drop (i+1)):=by
 obtain⟨H,e⟩:=List.getElem?_eq_some_iff.mp h
 rw[<- e,Hi,Gw]
theorem Z8{w:Sk}(h:a[i]?=some w):(cj (a.take i)).length+(w::w.flat).length<=(cj a).length:=by
 conv=>rhs;rw[QN h]
 rw[zF,DM]
 show _<=_+((w::w.flat)++cj (a.drop (i+1))).length
 rw[DM]
 omega
def mq:Sp:=λv H Q _=>∃(c:Addr) (C:ba) (f:Str) (i:List Int) (s:Sk) (a:Int) (u:V),v=[u,.ref c]/\H c=some (.dK C)/\NT C/\C.length<=100/\iX H f i s a u/\s.ok true/\s.dep<=15/\s.size<=60/\
 ∀h,ae H h->Q (.bl (iW s.flat C)) h
def gW(n:Nat):Sp:=λv H Q _=>∃(c h:Addr) (C k:ba) (f:Str) (i:List Int) (s:Sk) (a:Int) (u:V),v=[u,.ref c,.ref h]/\c≠h/\H c=some (.dK C)/\NT C/\H h=some (.dK k)/\NT k/\k.length+s.size<=1000/\iX H f i s a u/\s.ok true/\s.dep < n/\
 ∀b,ar h H b->(hV C s.flat k=true->b h=some (.dK (di s.flat k)))->Q (.bl (hV C s.flat k)) b
inductive TI(cA hA:Addr)(C k:ba)(u:V)(s:Sk)(H:Hp)(i:Nat)(σ:L2.St)(H':Hp):Prop
 |mk (o3 o4 o5:Option V) (e0:σ=[some u,some (.ref cA),some (.ref hA),o3,o4,o5]) (e1:H' hA=some (.dK (di (cj (s.tops.take i)) k))) (e2:hV C (cj (s.tops.take i)) k=true) (e3:ar hA H H'):TI cA hA C k u s H i σ H'
theorem iI:ak ["chain","cells","held","path","what"] ["chain","cells"] (aa pI):=bq
theorem tU(F:aJ K "true_of" "true_of" pI f fd)(cW:Cl P w K mg base 35 fW f0 ["chain"] rB "whats")(m0:mg "dict"=none):aj P w K mg base ay 36 f fd ["chain","cells"] mq:=by
 refine F.ok iI ?_ λc0 A o1 s H vs Q E hr h=>?_
 ·rintro _ _ _ _ ⟨I,C,f,is,s,a,u,rfl,_⟩
  rfl
 refine aR λGq L=>?_
 obtain⟨I,C,f,is,s,a,u,rfl,h0,hN,hC,hc,t,hd,hz,q⟩:=h
 refine L ?_
 clear L
 refine#[_,(jd (jx 2 iI.nd (jz zO Z m0 boot_dict (ja (pv 1) jb))) (jd (j6 Ej Z (zT (cW.e hr.m (ja (pv 0) jb))) (zi (n:=2) Z (jy (js (i:=3) iI.nd Z (Or.inl Z)) (jy (js (i:=4) iI.nd Z (Or.inl Z)) kc))) (jg (jv (jX (jw (pv 4))) (jg (ze (kl hr) (pv 2) (jw (pv 4)) (jw (pv 4)) Z)) (jg (jv (PW.pt (qf (jX (jw (pv 4))) (zD (jA KY (jw (pv 4)) (@kW _ _ _ _ _ _ _ _ _ (kl hr) (pv 2) (jw (pv 4)) jf #[IQ,IQ,IQ,IQ]) (aD _))))) (jg (jl (@Ju _ _ _ _))) jm))))) (jg (jl (@Ju _ _ _ _))))),?_]
 have b0:=aE
 refine ah λF1 M=>#[_,Z,I,C,Z,h0,λdl N=>M _ _ ?_]
 clear M
 have s1:ae H (af H dl (.dK C)):=je N
 have D:af H dl (.dK C) dl=some (.dK C):=jc
 generalize af H dl (.dK C)=H1 at s1 D ⊢
 have fl:=kr t
 have h2:=hc.same (ae.tm s1)
 refine ah λF1 M=>dJ λJ j=>#[_,Z,f,is,s,a,u,Z,h2,t,hd,hz,λr xs H2 B hx U=>#[r,Z,#[_,aC.of B],j _ _ ?_]]
 clear j
 have r0:r≠dl:=jG B (U _ _ D) (by intro z;cases z)
 have lx:=hx.len
 have S2:=s1.trans U
 refine qq (K:=K) (a:=r) (xs:=xs) (λi V O=>∃o3 o4,V=[some u,some (.ref I),some (.ref dl),o3,o4]/\O dl=some (.dK (di (s.flat.take i) C))/\iW (s.flat.take i) C=true/\ar dl H2 O) #[none,none,Z,U _ _ D,Z,ar.refl] (λi V O _ h=>?_) ?_ (λV O h=>M _ _ ?_)
 ·obtain⟨_,_,_,_,_,b⟩:=h
  exact aC.of (b _ _ r0 B)
 ·intro E rt i x V X R fE Gq L h
  clear M
  obtain⟨o3,o4,rfl,W,S,G⟩:=h
  refine L ?_
  clear L
  have h3:=(List.getElem?_eq_some_iff.mp R).1
  obtain⟨w,l,hw⟩:=hx.at R
  have t0:ai H2 X:=λb ys e=>G _ _ (jG e (U _ _ D) (by intro z;cases z)) e
  have et:di (s.flat.take (i+1)) C=di [w] (di (s.flat.take i) C):=by rw[Eu,l,QM];rfl
  have eb:iW (s.flat.take (i+1)) C=iW [w] (di (s.flat.take i) C):=by rw[Eu,l,Kg,S];rfl
  have ef:iW [w] (di (s.flat.take i) C)=false->iW s.flat C=false:=λz=>by
   rw[QN l,Kg,S,show(w::s.flat.drop (i+1))=[w]++s.flat.drop (i+1) from Z,Kg,z]
   rfl
  have lw:=JY (s.flat.take i) C
  rw[Ec]at lw
  have nt:=QE (s.flat.take i) hN
  obtain⟨qa,pa,v,rfl,hq,Y⟩:=oA _ _ _ _ t0 hw
  refine#[qa,_,Z,aA.of hq,Z,_,_,Z,_,_,Z,Z,?_]
  show iS _ _ _ E [some u,some (.ref I),some (.ref dl),some pa,some v] X
  have no:∀{y:Sk},di [y] (di (s.flat.take i) C)=di (s.flat.take i) C->iW [y] (di (s.flat.take i) C)=true->w=y->E.nx [some u,some (.ref I),some (.ref dl),some pa,some v] X:=λD e3 e2=>fE _ _ #[_,_,Z,by rw[et,e2,D];exact W,by rw[eb,e2];exact e3,G]
  cases w with
  |nil |st=>exact(JZ t _ (D5 l)).elim
  |ask b=>obtain⟨p,rfl,d⟩:=Y;exact(jp d Z #[Z,_,Z,aF IP (jp d Z #[Z,_,Z,aF IP (aF Z (no Z Z Z))])])
  |cl f' i0 s' a'=>obtain⟨p,c,g,e,ss,rfl,d,_⟩:=Y;exact(jp d Z #[Z,_,Z,aF IP (jp d Z #[Z,_,Z,aF IP (aF Z (no Z Z Z))])])
  |rd c i'=>
   obtain⟨p,rfl,d⟩:=Y
   refine(jp d Z #[Z,_,Z,aF IP (jp d Z #[Z,_,Z,bJ IP (jp d Z #[_,Z,dl,Z,.inl #[_,.inl W],jp d Z #[_,dm.k (k:=.inl c) W,?_]])])])
   rw[nt.get]
   refine#[Z,_,Z,?_]
   by_cases z:i'=look (di (s.flat.take i) C) (.inl c) 0
   ·refine aF (by rw[z];simp) (no Z ?_ Z)
    show(decide _&&true)=true
    rw[Ea z]
    rfl
   ·refine bJ (by rw[DU (λe=>z (by injection e))];rfl) ?_
    show eh _ E _ _
    unfold eh
    rw[rt]
    have zz:=ef (by show(decide _&&true)=false;rw[DU z];rfl)
    have T:=q X λb o e=>G _ _ (ji e N) (S2 _ _ e)
    rw[zz]at T
    exact T
  |wr c i'=>
   obtain⟨p,rfl,d⟩:=Y
   refine(jp d Z #[Z,_,Z,bJ IP (jp d Z #[_,Z,jp d Z #[dl,_,Z,gE.k (k:=.inl c) W IM,fE _ _ #[_,_,Z,by rw[et,jc];rfl,by rw[eb];rfl,λb o nb e=>?_]]])])
   rw[jj nb]
   exact G _ _ nb e
 ·obtain⟨o3,o4,rfl,W,S,G⟩:=h
  rw[lx,Er]at S
  have T:=q O λb o e=>G _ _ (ji e N) (S2 _ _ e)
  rw[S]at T
  exact T
theorem mN:ak ["_law_chain_here","_law_cells_here","_law_holds","_law_n","_law_held","_law_what_here"] ["_law_chain_here","_law_cells_here","_law_holds"] (aa uy):=bq
theorem xG(F:aJ K "_law_true" "_law_true" uy f fd)(cS:Cl P w K mg base (n+1) fS f0 ["_law_chain_here","_law_cells_here","_law_holds"] (gW n) "_law_true"):aj P w K mg base ay (n+2) f fd ["_law_chain_here","_law_cells_here","_law_holds"] (gW (n+1)):=by
 refine F.ok mN ?_ λc0 A o1 s H vs Q E hr h=>?_
 ·rintro _ _ _ _ ⟨N,l,C,k,f,is,s,a,u,rfl,_⟩
  rfl
 refine aR λGq X=>?_
 obtain⟨N,l,C,k,f,is,s,a,u,rfl,Y,h5,hN,M,h6,h7,hc,D,hd,q⟩:=h
 refine X ?_
 clear X
 refine#[_,(jd (j6 Ej Z (zI (jw (pv 0))) (zi (n:=3) Z (jy (js (i:=3) mN.nd Z (Or.inl Z)) (jy (js (i:=4) mN.nd Z (Or.inl Z)) (jy (js (i:=5) mN.nd Z (Or.inl Z)) kc)))) (jd (jv (jX (jw (pv 5))) (jg (ze (kl hr) (pv 2) (jw (pv 5)) (jw (pv 5)) Z)) jm) (jd (jv (PW.pt (qf (jX (jw (pv 5))) (zD (jA KY (@kW _ _ _ _ _ _ _ _ _ (kl hr) (pv 2) (jw (pv 5)) (@kW _ _ _ _ _ _ _ _ _ (kl hr) (pv 1) (jw (pv 5)) jf #[IQ,IQ,IQ,IQ]) #[IQ,IQ,IQ,IQ]) (jw (pv 5)) (aD _))))) (jg (jl (@Ju _ _ _ _))) jm) (jg (jv (PW.pt (qf (jX (jw (pv 5))) (zD (XC (XB (cS.e hr.m (ja (jw (pv 5)) (ja (pv 1) (ja (pv 2) jb))))))))) (jg (jl (@Ju _ _ _ _))) jm))))) (jg (jl (@Ju _ _ _ _)))),?_]
 have b0:=aE
 obtain⟨c,g,e,ss,rfl,h1,h2,h3,h4⟩:=id hc
 have ft:=zR D
 have fl:=kr D
 have lt:=Ja D h4
 refine ah λL d=>dJ λJ j=>(jp h1 Z #[e,Z,#[_,aA.of h3],j _ _ ?_])
 clear j
 have e1:e≠l:=jG h3 M (by intro z;cases z)
 refine qj (K:=K) (a:=e) (xs:=ss) (TI N l C k (.ref c) s H) #[none,none,none,Z,M,Z,ar.refl] (λi σ r _ h=>?_) ?_ (λσ r h=>d _ _ ?_)
 ·obtain⟨_,_,_,_,_,_,b⟩:=h
  exact aA.of (b _ _ e1 h3)
 ·intro E rt i x σ R h0 fE Gq X h
  clear d
  obtain⟨o3,o4,o5,rfl,W,w2,B⟩:=h
  refine X ?_
  clear X
  have h8:=(List.getElem?_eq_some_iff.mp h0).1
  obtain⟨w,p,hv,n0,v,I,O,d0,s0,rfl,hp,S⟩:=ZJ D h4 h0
  have t0:ai H R:=λb ys e=>B _ _ (jG e M (by intro z;cases z)) e
  have S:=S.mono t0
  have et:di (cj (s.tops.take (i+1))) k=di (w::w.flat) (di (cj (s.tops.take i)) k):=by rw[Eu,I,zF,QM];show di (w::w.flat++[]) _=_;rw[Ge]
  have eb:hV C (cj (s.tops.take (i+1))) k=hV C (w::w.flat) (di (cj (s.tops.take i)) k):=by rw[Eu,I,zF,Kh,w2];show hV C (w::w.flat++[]) _=_;rw[Ge]
  have ef:hV C (w::w.flat) (di (cj (s.tops.take i)) k)=false->hV C s.flat k=false:=λz=>by
   have e0:s.flat=cj (s.tops.take i)++((w::w.flat)++cj (s.tops.drop (i+1))):=by
    rw[ft]
    conv=>lhs;rw[QN I]
    rw[zF]
    rfl
   rw[e0,Kh,w2,Kh,z]
   rfl
  have lw:=JY (cj (s.tops.take i)) k
  have lb:=Z7 s.tops i
  rw[<- ft,fl]at lb
  have nt:=QE (cj (s.tops.take i)) h6
  have c3:=B _ _ Y h5
  have stop:hV C (w::w.flat) (di (cj (s.tops.take i)) k)=false->∀r,ar l H r->Q (.bl false) r:=λz r b=>by
   have q':=q r b λy=>by rw[ef z]at y;cases y
   rw[ef z]at q'
   exact q'
  refine#[p,_,Z,aA.of (t0 _ _ hp),Z,_,_,Z,_,_,Z,_,_,Z,Z,?_]
  have nx:∀r,r l=some (.dK (di (w::w.flat) (di (cj (s.tops.take i)) k)))->hV C (w::w.flat) (di (cj (s.tops.take i)) k)=true->ar l H r->E.nx [some (.ref c),some (.ref N),some (.ref l),some (.int n0),some (.ref hv),some v] r:=λr x1 x2 x3=>fE _ _ #[_,_,_,Z,by rw[et];exact x1,by rw[eb];exact x2,x3]
  show fQ _ _ E [some (.ref c),some (.ref N),some (.ref l),some (.int n0),some (.ref hv),some v] R
  cases w with
  |nil |st=>exact O.elim
  |ask b=>
   obtain⟨p,rfl,G⟩:=S
   refine ah λL d=>(jp G Z #[Z,_,Z,aF IP (d _ _ ?_)])
   clear d
   refine ah λL d=>(jp G Z #[Z,_,Z,aF IP (aF Z (d _ _ ?_))])
   clear d
   exact(jp G Z #[Z,_,Z,aF IP (aF Z (nx _ W Z B))])
  |rd t T=>
   obtain⟨p,rfl,G⟩:=S
   refine ah λL d=>(jp G Z #[Z,_,Z,aF IP (d _ _ ?_)])
   clear d
   refine ah λL d=>(jp G Z #[Z,_,Z,bJ IP #[_,Z,l,Z,.inl #[_,.inl W],jp G Z #[_,Z,N,Z,.inl #[_,.inl c3],jp G Z #[_,dm.k (k:=.inl t) c3,_,dm.k (k:=.inl t) W,?_]]]])
   rw[hN.get,nt.get]
   refine(jp G Z #[Z,_,Z,?_])
   by_cases z:look (di (cj (s.tops.take i)) k) (.inl t) (look C (.inl t) 0)=T
   ·refine aF (by rw[z];simp) (d _ _ ?_)
    clear d
    exact(jp G Z #[Z,_,Z,aF IP (aF Z (nx _ W (by show(decide _&&true)=true;rw[Ea z];rfl) B))])
   ·refine bJ (by rw[DU (λe=>z (by injection e))];rfl) ?_
    clear d
    show eh _ _ _ _
    unfold eh
    show E.rt _ _
    rw[rt]
    exact stop (by show(decide _&&true)=false;rw[DU z];rfl) _ B
  |wr t T=>
   obtain⟨p,rfl,G⟩:=S
   refine ah λL d=>(jp G Z #[Z,_,Z,bJ IP (jp G Z #[_,Z,jp G Z #[l,_,Z,gE.k (k:=.inl t) W IM,d _ _ ?_]])])
   clear d
   have U:ar l R (af R l (.dK (aH (di (cj (s.tops.take i)) k) (.inl t) (.int T)))):=λb o nb e=>by rw[jj nb];exact e
   have g4:=U _ _ (jG G W (by intro z;cases z)) G
   have e4:af R l (.dK (aH (di (cj (s.tops.take i)) k) (.inl t) (.int T))) l=some (.dK (aH (di (cj (s.tops.take i)) k) (.inl t) (.int T))):=jc
   generalize af R l (.dK (aH (di (cj (s.tops.take i)) k) (.inl t) (.int T)))=H4 at U g4 e4
   refine ah λL d=>(jp g4 Z #[Z,_,Z,aF IP (aF Z (d _ _ ?_))])
   clear d
   exact(jp g4 Z #[Z,_,Z,aF IP (aF Z (nx _ e4 Z (B.trans U)))])
  |cl f' i0 V a'=>
   obtain⟨p,c2,g2,e2,s1,rfl,G,g3,g4,g5,g6⟩:=S
   have hd:V.dep+1<=s.dep:=d0
   have s0:V.size+1<=s.size:=s0
   refine ah λL d=>(jp G Z #[Z,_,Z,aF IP (d _ _ ?_)])
   clear d
   refine ah λL d=>(jp G Z #[Z,_,Z,aF IP (aF Z (d _ _ ?_))])
   clear d
   refine(jp G Z #[Z,_,Z,bJ IP (jp G Z #[_,Z,_,Z,N,l,C,di (cj (s.tops.take i)) k,f',i0,V,a',.ref c2,Z,Y,c3,hN,W,nt,?_,#[c2,g2,e2,s1,Z,g3,g4,g5,g6],O,IM,λH4 U y4=>#[_,Z,?_]])])
   ·have:=Z8 I
    have fs:=kr (b:=true) (s:=V) O
    rw[<- ft,fl]at this
    have this:(cj (s.tops.take i)).length+(V.flat.length+1)<=s.size:=this
    omega
   cases z:hV C V.flat (di (cj (s.tops.take i)) k) with
   |true=>exact aF Z (nx _ (y4 z) z (B.trans U))
   |false=>
    refine bJ Z ?_
    show eh _ _ _ _
    unfold eh
    show E.rt _ _
    rw[rt]
    exact stop z _ (B.trans U)
 ·obtain⟨_,_,_,rfl,W,w2,B⟩:=h
  rw[lt,Er,<- ft]at W w2
  have q':=q r B λ_=>W
  rw[w2]at q'
  exact q'
noncomputable abbrev uB:Stmt:=bE 73
theorem Z9:∀{s:Sk} {S:List V},s.ok true->dY H s .non S->∀{i:Nat} {x:V},S[i]?=some x->∃(w:Sk) (p h:Addr) (n:Int) (u:V) (b:List Int),s.tops[i]?=some w/\w.ok false/\w.dep<=s.dep/\w.size+1<=s.size/\x= .ref p/\H p=some (.tup [.int n,.ref h,u])/\H h=some (.tup (b.map V.int))/\dY H w u []
 | .nil,_,_,e,i,x,a=>by have e:_=[]:=e;rw[e]at a;simp at a
 | .st n b w r,_,o,#[p,h,u,y,e,d,f,g,j],0,x,a=>by
  rw[e]at a
  cases a
  exact#[w,p,h,n,u,b,Z,o.1,Ho _ _,by show w.size+1<=w.size+r.size+1;omega,Z,d,f,g]
 | .st n b w r,_,o,#[p,h,u,y,e,d,f,g,j],i+1,x,a=>by
  rw[e]at a
  obtain⟨W,k,l,N,U,c,t,T,m,v,q⟩:=Z9 o.2 j (i:=i) (x:=x) (by simpa using a)
  exact#[W,k,l,N,U,c,t,T,DV m (Hc _ _),by show W.size+1<=w.size+r.size+1;omega,q]
structure HB(H:Hp)(hA bA:Addr)(m:Nat):Prop where
 h:∃k,H hA=some (.dK k)/\NT k/\k.length<=m
 b:bQ H bA
theorem HB.ne{H:Hp}{a b:Addr}{m:Nat}(h:HB H a b m):a≠b:=by
 obtain⟨⟨k,e,_⟩,j,E⟩:=h
 exact jG e E (by intro z;cases z)
theorem HB.tm{H a:Hp}{c B:Addr}{m:Nat}(h:HB H c B m)(k:aB c B H a):ai H a:=λb x e=>by
 obtain⟨⟨f,E,_⟩,j,d⟩:=h
 exact k b _ (jG e E (by intro z;cases z)) (jG e d (by intro z;cases z)) e
theorem HB.same{H a:Hp}{c B:Addr}{m:Nat}(h:HB H c B m)(s:ae H a):HB a c B m:=#[let #[k,e,r]:=h.h;#[k,s _ _ e,r],let #[j,e]:=h.b;#[j,s _ _ e]]
theorem HB.up{H:Hp}{c B:Addr}{m n:Nat}(h:HB H c B m)(l:m<=n):HB H c B n:=#[let #[k,e,a,b]:=h.h;#[k,e,a,DV b l],h.b]
def gY(n:Nat):Sp:=λv H Q _=>∃(d h b:Addr) (m:Nat) (C:ba) (f:Str) (i:List Int) (s:Sk) (a:Int) (u:V),v=[u,.ref d,.ref h,.ref b]/\d≠h/\H d=some (.dK C)/\NT C/\HB H h b m/\m+s.size<=1000/\iX H f i s a u/\s.ok true/\s.dep < n/\
 ∀(S:Sk) (U:V) (c:Hp),iX c f i S a U->S.ok true->S.dep<=s.dep->S.size=s.size->HB c h b (m+s.size)->aB h b H c->Q U c
inductive C3(cA hA bA sl:Addr)(m:Nat)(c:Addr)(s:Sk)(H:Hp)(i:Nat)(σ:L2.St)(H':Hp):Prop
 |mk (o5 o6 o7:Option V) (s':Sk) (xs:List V) (e0:σ=[some (.ref c),some (.ref cA),some (.ref hA),some (.ref bA),some (.ref sl),o5,o6,o7]) (e1:H' sl=some (.lst xs)) (e2:dY H' s' .non xs) (e3:s'.ok true) (e4:s'.dep<=s.dep) (e5:s'.size=(cj (s.tops.take i)).length) (e6:HB H' hA bA (m+(cj (s.tops.take i)).length)) (e7:aB hA bA H H'):C3 cA hA bA sl m c s H i σ H'
def Sk.near(w W:Sk):Prop:=W=w∨∃c i j,w= .rd c i/\W= .rd c j
theorem gO:ak ["_law_chain_here","_law_cells_here","_law_holds","_law_but","_law_steps","_law_n","_law_held","_law_what_here"] ["_law_chain_here","_law_cells_here","_law_holds","_law_but"] (aa uB):=bq
theorem xI(F:aJ K "_law_mended" "_law_mended" uB f fd)(cS:Cl P w K mg base (n+1) fS f0 ["_law_chain_here","_law_cells_here","_law_holds","_law_but"] (gY n) "_law_mended")(m0:mg "tuple"=none):aj P w K mg base ay (n+2) f fd ["_law_chain_here","_law_cells_here","_law_holds","_law_but"] (gY (n+1)):=by
 refine F.ok gO ?_ λc9 A o1 s H vs Q E hr h=>?_
 ·rintro _ _ _ _ ⟨X,d,B,m,C,f,is,s,a,u,rfl,_⟩
  rfl
 refine aR λGq kq=>?_
 obtain⟨X,d,B,m,C,f,is,s,a,u,rfl,O,h5,hN,Y,c6,hc,h0,hd,q⟩:=h
 refine kq ?_
 clear kq
 refine#[_,(jd (jx 4 gO.nd (jC jb)) (jd (j6 Ej Z (zI (jw (pv 0))) (zi (n:=3) Z (jy (js (i:=5) gO.nd Z (Or.inl Z)) (jy (js (i:=6) gO.nd Z (Or.inl Z)) (jy (js (i:=7) gO.nd Z (Or.inl Z)) kc)))) (jd (jv (jX (jw (pv 7))) (jg (ze (kl hr) (pv 2) (jw (pv 7)) (jw (pv 7)) Z)) jm) (jd (jv (jX (jw (pv 7))) (jd (kN (ju kP (jr jo (pv 3) jf (λ_ _=>Z)) jf) (zS (pv 3) jf kU)) (jg (jv (jA KY (jr jo (pv 3) jf (λ_ _=>Z)) jf (aD _)) (jg (jx 7 gO.nd (jh (ja jk (ja (jw (pv 7)) (ja (@kW _ _ _ _ _ _ _ _ _ (kl hr) (pv 2) (jw (pv 7)) (@kW _ _ _ _ _ _ _ _ _ (kl hr) (pv 1) (jw (pv 7)) jf #[IQ,IQ,IQ,IQ]) #[IQ,IQ,IQ,IQ]) jb)))))) jm))) jm) (jd (jv (jX (jw (pv 7))) (jg (jx 7 gO.nd (jh (ja jk (ja (cS.e hr.m (ja (jw (pv 7)) (ja (pv 1) (ja (pv 2) (ja (pv 3) jb))))) jb))))) jm) (jg (jL (kK D2 Ee Ed jN (pv 4) (ja (jh (ja (pv 5) (ja (pv 6) (ja (pv 7) jb)))) jb)))))))) (jg (jl (ju kh (jH zU (pv 0) ke (jE jf)) (jh (ja (jz jB Z m0 EZ (ja (pv 4) jb)) (ja (jw (pv 0)) jb)))))))),?_]
 have c':=aE
 obtain⟨c,g,e,ss,rfl,h1,h2,h3,h4⟩:=id hc
 have ft:=zR h0
 have fl:=kr h0
 have lt:=Ja h0 h4
 refine ah λF1 y=>#[le,λS n3=>y _ _ ?_]
 clear y
 have s1:ae H (af H S (.lst [])):=je n3
 have e1:af H S (.lst []) S=some (.lst []):=jc
 generalize af H S (.lst [])=H1 at s1 e1 ⊢
 have s8:S≠d:=λz=>by obtain⟨k,e,_⟩:=Y.h;rw[<- z,n3]at e;cases e
 have s9:S≠B:=λz=>by obtain⟨k,e⟩:=Y.b;rw[<- z,n3]at e;cases e
 refine ah λF1 y=>dJ λJ j=>(jp (s1 _ _ h1) Z #[e,Z,#[_,aA.of (s1 _ _ h3)],j _ _ ?_])
 clear j
 refine qj (K:=K) (a:=e) (xs:=ss) (C3 X d B S m c s H) #[none,none,none,.nil,[],Z,e1,Z,Eh,DX _,Z,Y.same s1,aB.of_same s1] (λi σ H' _ h=>?_) ?_ (λσ H' h=>y _ _ ?_)
 ·obtain⟨_,_,_,_,_,_,_,_,_,_,_,_,b⟩:=h
  exact aA.of (Y.tm b _ _ h3)
 ·intro E rt i x σ H3 a5 fE Gq kq h
  clear y
  obtain⟨o5,o6,o7,s',xs,rfl,w1,y2,w3,w4,w5,D,b3⟩:=h
  refine kq ?_
  clear kq
  obtain⟨w,p,hv,n0,v,hs,a1,R,d0,d1,rfl,hp,h6,hw⟩:=Z9 h0 h4 a5
  have T:=Y.tm b3
  have hw:=hw.mono T
  have h6:=T _ _ h6
  have lb:=Z8 a1
  rw[<- ft,fl]at lb
  have lw:(cj (s.tops.take (i+1))).length=(cj (s.tops.take i)).length+(w.flat.length+1):=by
   rw[Eu,a1,zF,DM]
   show _+(w::w.flat++[]).length=_
   rw[Ge]
   rfl
  have lb:(cj (s.tops.take i)).length+(w.flat.length+1)<=s.size:=lb
  have lf:=kr R
  have c3:H3 X=some (.dK C):=b3 _ _ O (λz=>by obtain⟨k,e⟩:=Y.b;rw[<- z,h5]at e;cases e) h5
  have cb:X≠B:=λz=>by obtain⟨k,e⟩:=Y.b;rw[<- z,h5]at e;cases e
  refine#[p,_,Z,aA.of (T _ _ hp),Z,_,_,Z,_,_,Z,_,_,Z,Z,?_]
  show fQ _ _ E [some (.ref c),some (.ref X),some (.ref d),some (.ref B),some (.ref S),some (.int n0),some (.ref hv),some v] H3
  refine ah λF1 y=>?_
  suffices g1:∀G,dY G w v []->HB G d B (m+(cj (s.tops.take i)).length+(if w.size=0 then 1 else 0))->aB d B H3 G->F1 [some (.ref c),some (.ref X),some (.ref d),some (.ref B),some (.ref S),some (.int n0),some (.ref hv),some v] G by
   clear y
   have no:=g1 _ hw (D.up (FH _ _)) aB.refl
   cases w with
   |nil |st=>exact R.elim
   |ask b |rd b b'=>obtain⟨p,rfl,l⟩:=hw;exact(jp l Z #[Z,_,Z,aF IP (no)])
   |cl f' U s0 a'=>obtain⟨p,c2,g2,e2,s3,rfl,l,_⟩:=hw;exact(jp l Z #[Z,_,Z,aF IP (no)])
   |wr b b'=>
    clear no
    obtain⟨p,rfl,l⟩:=hw
    obtain⟨k,hk,nk,lk⟩:=D.h
    have pl:=qV k (.inl b) (.int b')
    refine(jp l Z #[Z,_,Z,bJ IP (jp l Z #[_,Z,jp l Z #[d,_,Z,gE.k (k:=.inl b) hk IM,g1 _ #[p,Z,?_] #[#[_,jc,nk.put _ _,?_],?_] ?_]])])
    ·rw[jj (jG l hk (by intro z;cases z))];exact l
    ·show _<=_+1;omega
    ·obtain⟨j,ej⟩:=D.b;exact#[j,by rw[jj Y.ne.symm];exact ej]
    ·exactλb o n1 n2 e=>by rw[jj n1];exact e
  intro G V W b4
  refine y _ _ ?_
  clear y
  have c4:=b4 _ _ O cb c3
  have t2:=D.tm b4
  refine ah λF1 y=>?_
  suffices g2:∀w' v' M,w.near w'->dY M w' v' []->HB M d B (m+(cj (s.tops.take i)).length+(if w.size=0 then 1 else 0))->aB d B H3 M->F1 [some (.ref c),some (.ref X),some (.ref d),some (.ref B),some (.ref S),some (.int n0),some (.ref hv),some v'] M by
   clear y
   have no:=g2 _ _ _ (.inl Z) V W b4
   cases w with
   |nil |st=>exact R.elim
   |ask b |wr b b'=>obtain⟨p,rfl,l⟩:=V;exact(jp l Z #[Z,_,Z,aF IP (no)])
   |cl f' U s0 a'=>obtain⟨p,c2,g2,e2,s3,rfl,l,_⟩:=V;exact(jp l Z #[Z,_,Z,aF IP (no)])
   |rd b b'=>
    clear no
    obtain⟨p,rfl,l⟩:=V
    obtain⟨k,hk,nk,lk⟩:=W.h
    obtain⟨j,ej⟩:=W.b
    refine(jp l Z #[Z,_,Z,bJ IP ?_])
    refine ah λF2 f2=>#[_,Z,B,_,_,_,Z,Z,aC.of ej,Z,_,_,Z,Z,_,Z,B,_,_,0,Z,Z,ej,Z,f2 _ _ ?_]
    clear f2
    have b5:aB d B G (af G B (.lst ([.int j].set 0 (.int (j - 1))))):=aB.at
    have j5:af G B (.lst ([.int j].set 0 (.int (j - 1)))) B=some (.lst [.int (j - 1)]):=jc
    have k5:af G B (.lst ([.int j].set 0 (.int (j - 1)))) d=some (.dK k):=by rw[jj Y.ne];exact hk
    have p5:=W.tm b5 _ _ l
    have c5:=b5 _ _ O cb c4
    generalize af G B (.lst ([.int j].set 0 (.int (j - 1))))=M at b5 j5 k5 p5 c5
    have L:HB M d B (m+(cj (s.tops.take i)).length+(if (Sk.rd b b').size=0 then 1 else 0)):=#[#[k,k5,nk,lk],#[_,j5]]
    refine#[_,Z,B,_,_,_,Z,Z,aC.of j5,Z,Z,_,Z,?_]
    by_cases z:j - 1=0
    ·exact aF (by rw[z];rfl) (g2 _ _ _ (.inl Z) #[p,Z,p5] L (b4.trans b5))
    ·refine bJ (by rw[DU (λe=>z (by injection e))];rfl) (jp p5 Z #[_,Z,d,Z,.inl #[_,.inl k5],jp p5 Z #[_,Z,X,Z,.inl #[_,.inl c5],jp p5 Z #[_,dm.k (k:=.inl b) c5,_,dm.k (k:=.inl b) k5,?_]]])
     rw[hN.get,nk.get]
     refine#[dU,λt nt=>?_]
     have s6:ae M (af M t (.tup [.str "read",.int b,.int (look k (.inl b) (look C (.inl b) 0))])):=je nt
     exact g2 (.rd b (look k (.inl b) (look C (.inl b) 0))) (.ref t) _ (.inr #[_,_,_,Z,Z]) #[t,Z,jc] (L.same s6) ((b4.trans b5).trans (aB.of_same s6))
  intro w' v' M nr h7 L b5
  refine y _ _ ?_
  clear y
  clear V W b4 t2 c4
  have c5:=b5 _ _ O cb c3
  have e0:w'.ok false/\w'.dep=w.dep/\w'.size=w.size:=by
   rcases nr with rfl | ⟨_,_,_,rfl,rfl⟩
   ·exact#[R,Z,Z]
   ·exact#[Eh,Z,Z]
  refine ah λF1 y=>?_
  suffices g3:∀w2 v2 N,w2.ok false->w2.dep<=w.dep->w2.size=w.size->dY N w2 v2 []->HB N d B (m+((cj (s.tops.take i)).length+(w.size+1)))->aB d B H3 N->F1 [some (.ref c),some (.ref X),some (.ref d),some (.ref B),some (.ref S),some (.int n0),some (.ref hv),some v2] N by
   clear y
   have ib:m+(cj (s.tops.take i)).length+(if w.size=0 then 1 else 0)<=m+((cj (s.tops.take i)).length+(w.size+1)):=by split<;>omega
   have no:=g3 w' v' M e0.1 (Hh e0.2.1) e0.2.2 h7 (L.up ib) b5
   cases w' with
   |nil |st=>exact e0.1.elim
   |ask b |wr b b' |rd b b'=>obtain⟨p,rfl,l⟩:=h7;exact(jp l Z #[Z,_,Z,aF IP (no)])
   |cl f' U s0 a'=>
    clear no
    have ew:w= .cl f' U s0 a':=by
     rcases nr with e | ⟨_,_,_,_,e⟩
     ·exact e.symm
     ·cases e
    subst ew
    obtain⟨p,c2,g2,e2,s3,rfl,l,k2,k3,k4,k5⟩:=h7
    have d0:s0.dep+1<=s.dep:=d0
    have lb:(cj (s.tops.take i)).length+(s0.flat.length+1)<=s.size:=lb
    have lf:s0.flat.length=s0.size:=lf
    have L:HB M d B (m+(cj (s.tops.take i)).length+1):=L.up (by split<;>omega)
    refine(jp l Z #[Z,_,Z,bJ IP (jp l Z #[_,Z,_,Z,_,Z,X,d,B,_,C,f',U,s0,a',.ref c2,Z,O,c5,hN,L,IM,#[c2,g2,e2,s3,Z,k2,k3,k4,k5],R,IM,λs2 u2 N b0 o2 d2 b1 h8 b6=>#[bn,λt nt=>?_]])])
    obtain⟨c7,g7,e7,b2,rfl,q1,q2,q3,q4⟩:=b0
    have I:ae N (af N t (.tup [.str "call",.ref c7])):=je nt
    exact g3 (.cl f' U s2 a') (.ref t) _ o2 (by show s2.dep+1<=s0.dep+1;omega) b1 #[t,c7,g7,e7,b2,Z,jc,I _ _ q1,I _ _ q2,I _ _ q3,q4.mono (ae.tm I)] ((h8.same I).up (by show _<=m+(_+(s0.size+1));omega)) ((b5.trans b6).trans (aB.of_same I))
  intro w2 v2 N o3 d3 bn c0 h8 b6
  refine y _ _ ?_
  clear y
  have t3:=D.tm b6
  have w0:=b6 _ _ s8 s9 w1
  have l0:=QC w3 y2
  refine#[_,Z,.inl #[Z,_,aC.of w0],_,Z,_,Z,_,Z,dU,λt nt=>#[S,_,_,Z,Z,ap w0 nt,IM,fE _ _ ?_]]
  have I:ae N (af N t (.tup [.int n0,.ref hv,v2])):=je nt
  have t7:af N t (.tup [.int n0,.ref hv,v2]) t=some (.tup [.int n0,.ref hv,v2]):=jc
  have h':=h8.same I
  have b7:=b6.trans (aB.of_same (p:=d) (q:=B) I)
  have a2:=I _ _ w0
  generalize af N t (.tup [.int n0,.ref hv,v2])=H7 at I t7 h' b7 a2
  have b8:ar S H7 (af H7 S (.lst (xs++[.ref t]))):=λb o nb e=>by rw[jj nb];exact e
  have t0:ai H7 (af H7 S (.lst (xs++[.ref t]))):=λb ys e=>b8 _ _ (jG e a2 (by intro z;cases z)) e
  have a3:af H7 S (.lst (xs++[.ref t])) S=some (.lst (xs++[.ref t])):=jc
  have a4:HB (af H7 S (.lst (xs++[.ref t]))) d B (m+((cj (s.tops.take i)).length+(w.size+1))):=#[let #[k,e,r]:=h'.h;#[k,b8 _ _ (Eg s8) e,r],let #[k,e]:=h'.b;#[k,b8 _ _ (Eg s9) e]]
  have b9:aB d B H (af H7 S (.lst (xs++[.ref t]))):=λb o n1 n2 e=>b8 _ _ (ji e n3) ((b3.trans b7) _ _ n1 n2 e)
  generalize af H7 S (.lst (xs++[.ref t]))=H8 at b8 t0 a3 a4 b9
  have t1:ai H3 H8:=λb ys e=>t0 _ _ (ae.tm I _ _ (t3 _ _ e))
  have o8:dY H8 w2 v2 []:=c0.mono λb ys e=>t0 _ _ (ae.tm I _ _ e)
  refine#[_,_,_,Sk.put n0 hs w2 s',xs++[.ref t],Z,a3,Yp (t0 _ _ t7) (t1 _ _ h6) o8 w3 (y2.mono t1),JU o3 w3,JV IM w3 w4,?_,?_,b9]
  ·rw[qZ w3,w5,lw,bn,lf]
  ·rw[lw,lf]
   exact a4
 ·obtain⟨o5,o6,o7,s',xs,rfl,w1,y2,w3,w4,w5,D,b3⟩:=h
  rw[lt,Er,<- ft,fl]at w5 D
  have T:=Y.tm b3
  have g1:=T _ _ h1
  refine#[_,Z,_,Z,c,_,Z,g1,λr1 G a0 s4=>?_]
  have a0:G r1=some (.tup [.str f,.ref g]):=a0
  refine#[_,Z,S,xs,Z,.inl #[aC.of (s4 _ _ w1),λl2 n4=>?_]]
  have s5:ae G (af G l2 (.tup xs)):=je n4
  have l5:af G l2 (.tup xs) l2=some (.tup xs):=jc
  generalize af G l2 (.tup xs)=M at s5 l5 ⊢
  have S5:=s4.trans s5
  refine(jp (S5 _ _ g1) Z #[bn,λt nt=>?_])
  have s6:ae M (af M t (.tup [.ref l2,.int a])):=je nt
  refine#[r1,t,_,_,Z,Z,s6 _ _ (s5 _ _ a0),jc,nO,λr H7 c1 I=>?_]
  have S7:=(S5.trans s6).trans I
  exact q s' (.ref r) H7 #[r,g,l2,xs,Z,c1,S7 _ _ (T _ _ h2),I _ _ (s6 _ _ l5),y2.mono (ae.tm S7)] w3 w4 w5 (D.same S7) (b3.trans (aB.of_same S7))
noncomputable abbrev pH:Stmt:=bE 76
noncomputable abbrev CB:Stmt:=bE 75
noncomputable abbrev lR:Stmt:=bE 77
theorem oE:NX (.lst x):=λa z=>by cases z
theorem Kp.seq{K:Frag}(e:Kp H b)(h:aC K H a x):aC K b a x:=by
 rcases h with (h | ⟨o,h⟩) |h
 ·exact .inl (.inl (e _ _ oE h))
 ·exact .inl (.inr #[o,e _ _ (by intro c z;cases z) h])
 ·exact .inr h
structure Xs(K:Frag)(mg:Str->Option Value)(TL TD:Addr):Prop where
 gL:mg "TooLong"=some (.ref TL)
 hL:clsIn K TL≠none
 tL:typeIn K (.ref TL)=some (.type "type")
 mL:mroIn K TL (.type "BaseException")=some true
 gD:mg "TooDeep"=some (.ref TD)
 hD:clsIn K TD≠none
 tD:typeIn K (.ref TD)=some (.type "type")
 mD:mroIn K TD (.type "BaseException")=some true
 LL:mroIn K TL (.ref TL)=some true
 DL:mroIn K TD (.ref TL)=some false
 DD:mroIn K TD (.ref TD)=some true
theorem xZ{H:Hp}{D:List Df}{n:List Nat}(h:lv H D n){i:Nat}{d:Df}{p:List Str}(a:D[i]?=some d)(c:H d.pa=some (.tup (p.map V.str))):n[i]?=some p.length:=by
 have f:i < D.length:=(List.getElem?_eq_some_iff.mp a).1
 have b:n[i]?=some (n[i]'(by rw[<- h.1];exact f)):=DJ _
 obtain⟨g,e,l,_⟩:=h.2 i d _ a b
 rw[c]at e
 injection e with e
 injection e with e
 have:=EO List.length e
 rw[DK,DK]at this
 rw[b,<- l,this]
theorem vK:NX (.dK x):=λa z=>by cases z
theorem am.kp(B:am H p)(k:Kp H h):am h p:=by
 obtain⟨a,b,c,d,f,e⟩:=B
 exact#[a,b,c,d,f,k _ _ oE e]
def mn:Sp:=λv H Q _=>∃(c:Addr) (C:ba) (f:Str) (i:List Int) (s:Sk) (a:Int) (u:V),v=[u,.ref c]/\H c=some (.dK C)/\NT C/\C.length<=100/\iX H f i s a u/\s.ok true/\s.dep<=15/\s.size<=60/\
 ∀h,ae H h->Q (.bl true) h
def yF(K:Frag):Sp:=λv H Q _=>∃(a c:Addr) (n:List Int) (C:ba),v=[.ref a,.ref c]/\aC K H a (n.map V.int)/\n.length<=63/\H c=some (.dK C)/\GT C/\∀(f:Str) (i:List Int) (s:Sk) (b:Int) (u:V) (h:Hp),iX h f i s b u->s.ok true->s.dep<=15->s.size<=60->Kp H h->Q u h
def mZ(K:Frag):Sp:=λv H Q _=>∃(a:Addr) (n:List Int),v=[.ref a]/\aC K H a (n.map V.int)/\n.length<=63/\∀h,Q (.bl true) h
structure C2(K:Frag):Prop where
 bb:kitOne K (.type "bool") (.type "bool")=some true
theorem yh(h:0<=d)(H:d < 2):∃m:Int,du [V.int 12,.int 50] d=some (.int m)/\0 < m/\m<=50:=by
 rcases(by omega:d=0∨d=1) with rfl |rfl
 ·exact#[12,Z,IL,IL]
 ·exact#[50,Z,IL,IL]
theorem xk:aj P w K mg base ay k f c ["_law_chain_here","_law_cells_here","_law_holds"] (gW 0):=by
 have n:∀{v H Q E},¬gW 0 v H Q E:=by
  rintro v H Q E ⟨d,e,C,k,f,i,s,a,u,_,_,_,_,_,_,_,_,_,z,_⟩
  omega
 exact#[λv H Q E h=>(n h).elim,λA o s H b U v Q E g j l m h=>(n h).elim]
theorem AB(F:aJ K "_law_true" "_law_true" uy f a)(b:aw K a ["_law_chain_here","_law_cells_here","_law_holds"] [])(m:mg "_law_true"=some (.ref f)):∀n,aj P w K mg base ay (n+1) f a ["_law_chain_here","_law_cells_here","_law_holds"] (gW n)
 |0=>xk
 |n+1=>xG F #[(AB F b m n),b,F.kp,m]
theorem xo:aj P w K mg base ay k f c ["_law_chain_here","_law_cells_here","_law_holds","_law_but"] (gY 0):=by
 have n:∀{v H Q E},¬gY 0 v H Q E:=by
  rintro v H Q E ⟨d,e,B,m,C,f,i,s,a,u,_,_,_,_,_,_,_,_,z,_⟩
  omega
 exact#[λv H Q E h=>(n h).elim,λA o s H b U v Q E g j l p h=>(n h).elim]
theorem AC(F:aJ K "_law_mended" "_law_mended" uB f a)(b:aw K a ["_law_chain_here","_law_cells_here","_law_holds","_law_but"] [])(M:mg "_law_mended"=some (.ref f))(m:mg "tuple"=none):∀n,aj P w K mg base ay (n+1) f a ["_law_chain_here","_law_cells_here","_law_holds","_law_but"] (gY n)
 |0=>xo
 |n+1=>xI F #[(AC F b M m n),b,F.kp,M] m
theorem lX:ak ["_law_chain_here","_law_cells_here","_law_kept","_law_found"] ["_law_chain_here","_law_cells_here"] (aa pH):=bq
theorem tS(F:aJ K "_law_told" "_law_told" pH f fd)(T:Cl P w K mg base 36 fT f0 ["chain","cells"] mq "true_of")(cL:Cl P w K mg base 17 fL f2 ["_law_chain_here","_law_cells_here","_law_holds"] (gW 16) "_law_true")(M:mg "isinstance"=none)(x:mg "dict"=none)(mb:mg "bool"=none)(kt:C2 K):aj P w K mg base ay 37 f fd ["_law_chain_here","_law_cells_here"] mn:=by
 refine F.ok lX ?_ λc0 A O s H vs Q E l h=>?_
 ·rintro _ _ _ _ ⟨i,C,f,I,s,a,u,rfl,_⟩
  rfl
 refine aR λGq U=>?_
 obtain⟨i,C,f,I,s,a,u,rfl,d,p,V,y,j,W,X,q⟩:=h
 refine U ?_
 clear U
 refine#[_,(jd (jx 2 lX.nd (jz zO Z x boot_dict (ja (pv 1) jb))) (jd (jx 3 lX.nd (T.e l.m (ja (pv 0) (ja (pv 1) jb)))) (jd (jv (PW.pt (KW (XC (XB (jO Xl Z M boot_isinstance (ja (pv 3) (ja (tY (v:=.ty "bool") Z mb boot_bool Z) jb))))) (Jj (jA KY (pv 3) (cL.e l.m (ja (pv 0) (ja (pv 1) (ja qi jb)))) (aD _))))) (jg (jl (@Ju _ _ _ _))) jm) (jg (jl (yb (qP (xU (HX (kl l))) (pv 1) (pv 2) (aD _)) (ye (qP qK (T.e l.m (ja (pv 0) (ja (pv 1) jb))) (pv 3) (aD _))))))))),?_]
 have b0:=aE
 refine ah λY g=>#[_,Z,i,C,Z,d,λk N=>g _ _ ?_]
 clear g
 have S:ae H (af H k (.dK C)):=je N
 have z:af H k (.dK C) k=some (.dK C):=jc
 generalize af H k (.dK C)=H1 at S z ⊢
 refine ah λY g=>#[_,Z,_,Z,i,C,f,I,s,a,u,Z,S _ _ d,p,V,y.same (ae.tm S),j,W,X,λr B=>g _ _ ?_]
 clear g
 have G:=S.trans B
 have eq:iW s.flat C=hV C s.flat []:=Yq s.flat C [] λc=>(Qs rL _).symm
 refine ah λY g=>#[_,Z,_,_,_,_,_,Z,Z,eS.bl _,kt.bb,_,Z,nF #[_,Z,_,Z,_,Z,λD n=>?_]]
 have J:ae r (af r D (.dK [])):=je n
 have e3:af r D (.dK []) D=some (.dK []):=jc
 generalize af r D (.dK [])=H3 at J e3 ⊢
 have L:=G.trans J
 have R:i≠D:=ji (G _ _ d) n
 refine#[i,D,C,[],f,I,s,a,u,Z,R,L _ _ d,p,e3,NT.nil,by show 0+s.size<=1000;omega,y.same (ae.tm L),j,IM,λH4 b4 _=>#[Z,_,Z,aF (by rw[eq];simp) (g _ _ ?_)]]
 clear g
 have t:ae H H4:=λb o e=>b4 _ _ (ji (G _ _ e) n) (L _ _ e)
 have k4:H4 k=some (.dK C):=b4 _ _ (ji (B _ _ z) n) (J _ _ (B _ _ z))
 refine#[_,Z,_,Z,i,k,_,Z,Z,t _ _ d,k4,p,true,Z,nG #[_,Z,_,Z,i,C,f,I,s,a,u,Z,t _ _ d,p,V,y.same (ae.tm t),j,W,X,λH5 s5=>#[_,Z,Z,?_]]]
 rw[Ea Z]
 exact q H5 (t.trans s5)
theorem gm:ak ["_law_script","_law_cells_here","_law_box_here","_law_chain_here","_law_program","_law_f","_law_args","_law_further"] ["_law_script","_law_cells_here"] (aa CB):=bq
theorem AG(F:aJ K "_law_any_book" "_law_any_book" CB f fd)(cB:Cl P w K mg base 1 fB f3 ["_law_script","_law_k"] (mX K) "_law_box")(cT:Cl P w K mg base 1 fT f4 ["_law_box_here","_law_wide"] aN "_law_take")(cK:Cl P w K mg base 23 fK f5 ["_law_box_here"] l8 "_law_case")(cM:Cl P w K mg base 65 fM f6 ["program"] (ma K nA) "made")(GR:aj P w K mg base (eN P w) 45 fR f0 ["parts","f","args","cells","most"] (rq TL TD nA))(bR:aw K f0 ["parts","f","args","cells","most"] [])(kR:keepIn K (.ref fR)=true)(mR:mg "run"=some (.ref fR))(cY:Cl P w K mg base 37 fY f7 ["_law_box_here"] rh "_law_book")(cE:Cl P w K mg base 17 fE f9 ["_law_chain_here","_law_cells_here","_law_holds","_law_but"] (gY 16) "_law_mended")(X:Xs K mg TL TD):aj P w K mg base ay 66 f fd ["_law_script","_law_cells_here"] (yF K):=by
 refine F.ok gm ?_ λc0 A o1 s H vs Q E j h=>?_
 ·rintro _ _ _ _ ⟨a,R,ns,C,rfl,_⟩
  rfl
 refine aR λGq kq=>?_
 obtain⟨a,R,ns,C,rfl,hS,b3,h0,gC,q⟩:=h
 refine kq ?_
 clear kq
 refine#[_,(jd (jx 2 gm.nd (cB.e j.m (ja (pv 0) (ja jf jb)))) (jd (jx 3 gm.nd (@XA _ _ _)) (jd (jv (kL (cT.e j.m (ja (pv 2) (ja jf jb)))) (jd (kN (cK.e j.m (ja (pv 2) jb)) (zi (n:=3) Z (jy (js (i:=4) gm.nd Z (Or.inl Z)) (jy (js (i:=5) gm.nd Z (Or.inl Z)) (jy (js (i:=6) gm.nd Z (Or.inl Z)) kc))))) (jg (@ui _ _ _ _ _ _ _ _ _ _ _ _ _ _ _ _ _ _ Z Z (@uj _ _ _ _ (3) _ _ gm.nd Z (Or.inl Z) (@oU _ _ _ _ _ _ _ _ _ _ _ _ _ _ GR j.m Z mR kR bR .nil (ja (cM.e j.m (ja (pv 4) jb)) (ja (pv 5) (ja (pv 6) (ja (pv 1) (ja jf jb))))) IL IQ IQ) IQ (by first |exact .inl Z |exact .inr Z)) Z X.gL X.hL X.tL X.mL Z X.gD X.hD X.tD X.mD (λ_=>(jg (jx 3 gm.nd (@XA _ _ _)))) (λ_=>(jg (jx 3 gm.nd (@XA _ _ _)))) IL IL))) jm) (jd (jv (ZK (@ya _ _ _ _ _ (pv 3))) (jd (jx 7 gm.nd (cB.e j.m (ja (pv 0) (ja jf jb)))) (jd (jx 3 gm.nd (cY.e j.m (ja (pv 7) jb))) (jg (jv (kL (cT.e j.m (ja (pv 2) (ja jf jb)))) (jg (jx 3 gm.nd (cE.e j.m (ja (pv 3) (ja (pv 1) (ja qi (ja (jC (ja (cT.e j.m (ja (pv 7) (ja (jr jo (jC (ja jf (ja jf jb))) (cT.e j.m (ja (pv 7) (ja jf jb))) (λ_ _=>Z)) jb))) jb)) jb))))))) jm)))) jm) (jg (jl (pv 3))))))),?_]
 have b4:=aE
 refine ah λF1 g=>#[_,Z,a,ns,1,Z,hS,IL,IL,λp H1 np B1 e1=>g _ _ ?_]
 clear g
 have s1:ae H H1:=λb o e=>by rw[e1 b (ji e np)];exact e
 refine ah λF1 g=>g _ _ ?_
 clear g
 refine ah λF1 g=>?_
 suffices m:(∀(o4 o5 o6 o7:Option V) (k:Hp),am k p->Kp H k->F1 [some (.ref a),some (.ref R),some (.ref p),some .non,o4,o5,o6,o7] k)/\∀(o4 o5 o6 o7:Option V) (f:Str) (I:List Int) (s:Sk) (b:Int) (c:Addr) (k:Hp),iX k f I s b (.ref c)->s.ok true->s.dep<=15->s.size<=60->Kp H k->F1 [some (.ref a),some (.ref R),some (.ref p),some (.ref c),o4,o5,o6,o7] k by
  clear g
  refine#[_,Z,p,3,Z,B1,IL,IL,λd2 H2 d1 d5 B2 q2=>#[Z,_,Z,?_]]
  have s2:ae H H2:=λb o e=>by rw[q2 b (ji e np)];exact s1 _ _ e
  by_cases c:d2=0
  ·refine bJ (Ea (by rw[c])) ?_
   refine ah λF2 S=>#[_,Z,p,Z,B2,λt r v2 v3 ds x0 H3 ht j hD h1 h8 nl hN h2 h6 B3 k3=>#[t,_,Z,aA.of ht,Z,_,_,Z,_,_,Z,_,_,Z,Z,S _ _ ?_]]
   clear S
   have s3:ae H H3:=λb o e=>k3 _ _ (ji e np) (s2 _ _ e)
   obtain⟨d,ps,ta,I,hd,rfl,h7,rfl,h',a0,a1,a2⟩:=h6
   show v0 _ _ _ _ _ _ _ [some (.ref a),some (.ref R),some (.ref p),some .non,some (.ref r),some (.str d.f),some (.ref ta),none] H3
   refine#[_,Z,r,ds,x0,Z,j,hD,IM,λd hd=>(hN.1 d hd).1,λv H4 hv s4=>?_]
   obtain⟨pA,x1,rfl,a3,a4⟩:=JW hv
   have S4:=s3.trans s4
   refine#[_,Z,_,Z,_,Z,?_]
   have T4:=ae.tm s4
   obtain⟨i,hi,ei⟩:=List.mem_iff_getElem.mp hd
   have h3:ds[i]?=some d:=by rw[<- ei];exact DJ hi
   have hP:Ps H4 nA pA ds nl x1:=#[a3,a4,#[x0,hD.mono T4],hN,h2.mono T4]
   have h4:=xZ h2 h3 h7
   rw[<- a0]at h4
   have kS:Kp H H4:=Kp.of_same S4
   have B4:am H4 p:=B3.same s4
   refine#[pA,ta,R,i,C,d,ds,nl,x1,I,Z,hP,h3,h4,T4 _ _ h',a2,S4 _ _ h0,gC,λu sk b H7 hc ok dp sz s7=>?_,?_,?_]
   ·obtain⟨c',z⟩:=id hc
    obtain⟨_,_,_,rfl,_⟩:=z
    exact m.2 _ _ _ _ d.f I sk b c' H7 hc ok dp sz (kS.trans (Kp.of_same s7))
   ·intro _ H7 k7 x C T eC hx hT a5
    cases eC
    refine .inl #[X.LL,λT' Y=>?_]
    have kk:Kp H4 _:=λb o y e=>JT (H:=H) (k7 _ _ y e) y hx Y
    exact m.1 _ _ _ _ _ (B4.kp kk) (kS.trans kk)
   ·intro _ H7 k7 x C T eC hx hT a5
    cases eC
    refine .inr #[X.DL,X.DD,λT' Y=>?_]
    have kk:Kp H4 _:=λb o y e=>JT (H:=H) (k7 _ _ y e) y hx Y
    exact m.1 _ _ _ _ _ (B4.kp kk) (kS.trans kk)
  ·exact aF (DU λz=>c (by injection z)) (m.1 _ _ _ _ _ B2 (Kp.of_same s2))
 refine#[λo4 o5 o6 o7 k BH kH=>g _ _ ?_,λo4 o5 o6 o7 f I s b c k hc ok dp sz kH=>g _ _ ?_]
 ·clear g
  refine ah λF1 g=>#[_,Z,_,Z,bJ (Ea Z) ?_]
  refine ah λF2 S=>#[_,Z,a,ns,3,Z,kH.seq hS,IL,IL,λD H8 G B8 e8=>S _ _ ?_]
  clear S
  refine ah λF2 S=>#[_,Z,D,Z,B8,λf I s b u H9 hc ok dp sz B9 k9=>S _ _ ?_]
  clear S
  have s9:ae k H9:=λb o e=>k9 _ _ (ji e G) (by rw[e8 b (ji e G)];exact e)
  have BP:=BH.same s9
  have pp:D≠p:=BH.ne G
  have k0:Kp H H9:=kH.trans (Kp.of_same s9)
  refine#[_,Z,p,2,Z,BP,IL,IL,λd2 J d1 d5 BA qA=>#[Z,_,Z,?_]]
  have bA:ar p H9 J:=ar.of_eq qA
  have U:=hc.same (bA.tm BP)
  have kA:Kp H J:=λb o y e=>by
   by_cases z:b=p
   ·subst z;rw[np]at e;cases e
   ·rw[qA b z];exact k0 _ _ y e
  by_cases c2:d2=0
  ·refine bJ (Ea (by rw[c2])) ?_
   have B:am J D:=B9.eq (qA _ pp)
   have c9:=kA _ _ vK h0
   refine#[_,Z,_,Z,λL N=>?_]
   have sB:ae J (af J L (.dK [])):=je N
   have eB:af J L (.dK []) L=some (.dK []):=jc
   generalize af J L (.dK [])=M at sB eB ⊢
   refine#[_,Z,bn,λl nl=>?_]
   have sC:ae M (af M l (.lst [.int 12,.int 50])):=je nl
   have eC:af M l (.lst [.int 12,.int 50]) l=some (.lst [.int 12,.int 50]):=jc
   generalize af M l (.lst [.int 12,.int 50])=HC at sC eC ⊢
   have B5:=B.same (sB.trans sC)
   refine#[_,Z,D,2,Z,B5,IL,IL,λd3 HD d6 d7 BD qD=>?_]
   obtain⟨mw,ew,m0,m1⟩:=yh d6 d7
   have lp:l≠D:=λz=>by rw[z]at nl;obtain⟨_,_,_,_,_,e⟩:=B.same sB;rw[nl]at e;cases e
   have eD:HD l=some (.lst [.int 12,.int 50]):=by rw[qD l lp];exact eC
   refine#[l,_,_,_,Z,Z,aC.of eD,ew,D,mw,Z,BD,m0,IM,λd4 W d8 d9 BE qE=>#[lg,λbl O=>?_]]
   have d0:L≠D:=λz=>by rw[z]at N;obtain⟨_,_,_,_,_,e⟩:=B;rw[N]at e;cases e
   have K0:∀b o,b≠D->J b=some o->W b=some o:=λb o nb e=>by rw[qE b nb,qD b nb];exact sC _ _ (sB _ _ e)
   have cE:W R=some (.dK C):=by
    refine K0 _ _ (λz=>?_) c9
    rw[z]at c9
    obtain⟨_,_,_,_,_,e⟩:=B
    rw[c9]at e
    cases e
   have dE:W L=some (.dK []):=by rw[qE _ d0,qD _ d0];exact sC _ _ eB
   have a':iX W f I s b u:=U.same λb X e=>K0 _ _ (λz=>by rw[z]at e;obtain⟨_,_,_,_,_,e2⟩:=B;rw[e]at e2;cases e2) e
   have sF:ae W (af W bl (.lst [.int d4])):=je O
   have h5:HB (af W bl (.lst [.int d4])) L bl 0:=#[#[[],sF _ _ dE,NT.nil,DN _],#[d4,jc]]
   generalize af W bl (.lst [.int d4])=HF at sF h5 ⊢
   have b1:R≠L:=ji c9 N
   have n1:bl≠D:=λz=>by rw[z]at O;obtain⟨_,_,_,_,_,e⟩:=BE;rw[O]at e;cases e
   refine#[R,L,bl,0,C,f,I,s,b,u,Z,b1,sF _ _ cE,gC.nt,h5,IM,a'.same (ae.tm sF),ok,IM,λs' u' HG b2 o2 d' s0 b5 bG=>g _ _ ?_]
   clear g
   refine#[_,Z,q f I s' b u' HG b2 o2 IM IM λb0 o y e=>?_]
   have eA:=kA _ _ y e
   have n0:b0≠D:=λz=>by rw[z]at e;have:=kH _ _ y e;rw[G]at this;cases this
   have eE:=K0 _ _ n0 eA
   exact bG _ _ (ji eA N) (ji eE O) (sF _ _ eE)
  ·refine aF (DU λz=>c2 (by injection z)) (g _ _ ?_)
   clear g
   exact#[_,Z,q f I s b u J U ok dp sz kA]
 ·clear g
  exact ah λF1 g=>#[_,Z,_,Z,aF (DU (by intro z;cases z)) (g _ _ #[_,Z,q f I s b (.ref c) k hc ok dp sz kH])]
theorem Cb:aK (x::a) none (some 1)=[x]:=by
 unfold aK HT.sIx
 simp
theorem NT.drop(h:NT a)(k:aV):NT (gi a k):=λp H=>h p (Za H)
theorem Kj(a:ba)(k:aV):(gi a k).length<=a.length:=FP _ _
def se(H:Hp)(x:V):Prop:=∃(d:Addr) (D:ba),x= .ref d/\H d=some (.dK D)/\NT D/\D.length<=100
theorem se.same(h:se H x)(s:ae H a):se a x:=let #[d,D,e,b,c]:=h;#[d,D,e,s _ _ b,c]
inductive C9(p cA a:Addr)(H:Hp)(i:Nat)(σ:L2.St)(H':Hp):Prop
 |mk (o3:Option V) (C:ba) (e0:σ=[some (.ref a),some (.ref p),some (.ref cA),o3,none,none,none,none,none,none]) (e1:H' cA=some (.dK C)) (e2:GT C) (e3:C.length<=i) (e4:am H' p) (e5:∀b o,H b=some o->H' b=some o):C9 p cA a H i σ H'
theorem en:ak ["_law_script","_law_box_here","_law_cells_here","_law_k","_law_chain_here","_law_more","_law_fewer","_law_cell","_law_nought","_law_some"] ["_law_script"] (aa lR):=bq
theorem xC(F:aJ K "law" "law" lR f fd)(cB:Cl P w K mg base 1 fB f0 ["_law_script","_law_k"] (mX K) "_law_box")(cT:Cl P w K mg base 1 fT f2 ["_law_box_here","_law_wide"] aN "_law_take")(cN:Cl P w K mg base 2 fN f3 ["_law_box_here"] fj "_law_number")(g:Cl P w K mg base 66 fA f4 ["_law_script","_law_cells_here"] (yF K) "_law_any_book")(cO:Cl P w K mg base 37 fO f5 ["_law_chain_here","_law_cells_here"] mn "_law_told")(mr:mg "range"=none)(T:mg "dict"=none)(m2:mg "list"=none):aj P w K mg base ay 67 f fd ["_law_script"] (mZ K):=by
 refine F.ok en ?_ λc2 A o1 s H vs Q E y h=>?_
 ·rintro _ _ _ _ ⟨a,ns,rfl,_⟩
  rfl
 refine aR λGq B=>?_
 obtain⟨a,ns,rfl,hS,h0,q⟩:=h
 refine B ?_
 clear B
 refine#[_,(jd (jx 1 en.nd (cB.e y.m (ja (pv 0) (ja jf jb)))) (jd (jx 2 en.nd qi) (jd (j6 Ej Z (j3 Z mr (ja (cT.e y.m (ja (pv 1) (ja jf jb))) jb)) (js (i:=3) en.nd Z (Or.inl Z)) (jg (ze (kl y) (pv 2) (cT.e y.m (ja (pv 1) (ja jf jb))) (cN.e y.m (ja (pv 1) jb)) Z))) (jd (jx 4 en.nd (g.e y.m (ja (pv 0) (ja (pv 2) jb)))) (jd (jx 5 en.nd (jz zO Z T boot_dict (ja (pv 2) jb))) (jd (ze (kl y) (pv 5) (cT.e y.m (ja (pv 1) (ja jf jb))) (cN.e y.m (ja (pv 1) jb)) Z) (jd (jx 6 en.nd (jz zO Z T boot_dict (ja (pv 2) jb))) (jd (j6 Ej Z (zT (jH kf (jz (X6 Z) Z m2 boot_list (ja (pv 2) jb)) ke (jE jf))) (js (i:=7) en.nd Z (Or.inl Z)) (jg (jL (oQ (pv 6) (pv 7) #[IQ,IQ,IQ,IQ])))) (jd (jx 8 en.nd (jz zO Z T boot_dict (ja (pv 2) jb))) (jd (ze (kl y) (pv 8) jf (@kW _ _ _ _ _ _ _ _ _ (kl y) (pv 8) jf jf #[IQ,IQ,IQ,IQ]) Z) (jd (j6 Ej Z (zT (jC (ja (pv 2) (ja (pv 5) (ja (pv 6) (ja (pv 8) (ja qi (ja (pv 2) jb)))))))) (js (i:=9) en.nd Z (Or.inl Z)) (jg (jv (XC (XB (cO.e y.m (ja (pv 4) (ja (pv 9) jb))))) (jg (jl (@Ju _ _ _ _))) jm))) (jg (jl (@Ju _ _ _ _)))))))))))))),?_]
 have b0:=aE
 refine ah λL l=>#[_,Z,a,ns,2,Z,hS,IL,IL,λp H1 np B1 e1=>l _ _ ?_]
 clear l
 have s1:ae H H1:=λb o e=>by rw[e1 b (ji e np)];exact e
 refine ah λL l=>λg U=>l _ _ ?_
 clear l
 have s2:ae H1 (af H1 g (.dK [])):=je U
 have e2:af H1 g (.dK []) g=some (.dK []):=jc
 generalize af H1 g (.dK [])=H2 at s2 e2
 have cp:g≠p:=B1.ne U
 have B2:=B1.same s2
 have n3:H g=none:=by
  cases z:H g with
  |none=>rfl
  |some o=>have:=s1 _ _ z;rw[U]at this;cases this
 have S2:=s1.trans s2
 refine ah λL l=>dJ λJ j=>#[_,Z,p,7,Z,B2,IL,IL,λd H3 d0 d1 B3 q3=>#[_,Z,IM,IM,j _ _ ?_]]
 clear j
 refine zC (lo:=0) (C9 p g a H) #[none,[],Z,by rw[q3 g cp];exact e2,K29.GT.nil,DN _,B3,λb o e=>by rw[q3 b (ji e np)];exact S2 _ _ e] ?_ (λG I h=>l _ _ ?_)
 ·clear l
  intro E0 _ i G H3 hi fE Gq B h
  obtain⟨o3,C,rfl,hl,gC,lC,B3,k3⟩:=h
  refine B ?_
  clear B
  refine#[_,Z,p,Z,B3,λm H4 m0 m1 B4 q4=>#[_,Z,_,Z,p,6,Z,B4,IL,IL,λc W c0 c1 B5 q5=>?_]]
  have h5:W g=some (.dK C):=by rw[q5 _ cp,q4 _ cp];exact hl
  have pl:=qV C (.inl c) (.int m)
  refine#[g,_,Z,gE.k (k:=.inl c) h5 IM,fE _ _ #[_,_,Z,jc,gC.put _ #[m0,m1],IM,B5.eq (jj (Eg cp)),λb o e=>?_]]
  rw[jj (ji e n3),q5 _ (ji e np),q4 _ (ji e np)]
  exact k3 _ _ e
 obtain⟨o3,C,rfl,X,gC,lC,B3,k3⟩:=h
 clear B2 B1 e2 s2
 generalize I=H4 at X B3 k3
 refine ah λL l=>#[_,Z,_,Z,a,g,ns,C,Z,ae.seq k3 hS,h0,X,gC,λf is s b u W hc ok dp sz k5=>l _ _ ?_]
 clear l
 have B5:=B3.kp k5
 have c5:=k5 _ _ vK X
 have nC:=gC.nt
 refine ah λL l=>#[_,Z,g,C,Z,c5,λM N=>l _ _ ?_]
 clear l
 have s6:ae W (af W M (.dK C)):=je N
 have e6:af W M (.dK C) M=some (.dK C):=jc
 generalize af W M (.dK C)=H6 at s6 e6
 have B6:=B5.same s6
 have mp:M≠p:=B5.ne N
 refine ah λL l=>#[_,Z,p,Z,B6,λm H7 m0 m1 B7 q7=>#[_,Z,_,Z,p,9,Z,B7,IL,IL,λc H8 c0 c1 B8 q8=>?_]]
 have e8:H8 M=some (.dK C):=by rw[q8 _ mp,q7 _ mp];exact e6
 have pl:=qV C (.inl c) (.int m)
 refine#[M,_,Z,gE.k (k:=.inl c) e8 IM,l _ _ ?_]
 clear l
 have c9:af H8 M (.dK (aH C (.inl c) (.int m))) g=some (.dK C):=by rw[jj (ji c5 N),q8 _ cp,q7 _ cp];exact s6 _ _ c5
 have m9:af H8 M (.dK (aH C (.inl c) (.int m))) M=some (.dK (aH C (.inl c) (.int m))):=jc
 have t9:ai W (af H8 M (.dK (aH C (.inl c) (.int m)))):=λb xs e=>by
  have bp:b≠p:=λz=>by rw[z]at e;obtain⟨_,_,_,_,_,e'⟩:=B5;rw[e]at e';cases e'
  rw[jj (ji e N),q8 _ bp,q7 _ bp]
  exact s6 _ _ e
 generalize af H8 M (.dK (aH C (.inl c) (.int m)))=R at c9 m9 t9
 have h4:=hc.same t9
 have dC:se R (.ref g):=#[g,C,Z,c9,nC,IM]
 have dM:se R (.ref M):=#[M,_,Z,m9,nC.put _ _,IM]
 clear hc t9 m9 e8 q8 q7 B8 B7 s6 e6 B6
 refine ah λL l=>#[_,Z,g,C,Z,c9,λr n0=>l _ _ ?_]
 clear l
 have Y:ae R (af R r (.dK C)):=je n0
 have e0:af R r (.dK C) r=some (.dK C):=jc
 generalize af R r (.dK C)=HA at Y e0
 refine ah λL l=>dJ λJ j=>#[_,Z,g,C,Z,Y _ _ c9,λll n4=>#[_,Z,ll,_,Z,aC.of jc,λl2 n5=>#[l2,Z,#[_,aC.of jc],j _ _ ?_]]]
 clear j
 have sB:ae HA (af (af HA ll (.lst (C.map λp=>kV p.1))) l2 (.lst (aK (C.map λp=>kV p.1) none (some 1)))):=(je n4).trans (je n5)
 have eB:af (af HA ll (.lst (C.map λp=>kV p.1))) l2 (.lst (aK (C.map λp=>kV p.1) none (some 1))) l2=some (.lst (aK (C.map λp=>kV p.1) none (some 1))):=jc
 generalize af (af HA ll (.lst (C.map λp=>kV p.1))) l2 (.lst (aK (C.map λp=>kV p.1) none (some 1)))=H0 at sB eB
 have l0:l2≠r:=jG eB (sB _ _ e0) (by intro z;cases z)
 have SB:=Y.trans sB
 refine qq (K:=K) (a:=l2) (xs:=aK (C.map λp=>kV p.1) none (some 1)) (λi G I=>∃o7 D,G=[some (.ref a),some (.ref p),some (.ref g),o3,some u,some (.ref M),some (.ref r),o7,none,none]/\I r=some (.dK D)/\NT D/\D.length<=100/\(i=0->D=C)/\ar r H0 I) #[none,C,Z,sB _ _ e0,nC,IM,λ_=>Z,ar.refl] (λi G I _ h=>?_) ?_ (λG I h=>l _ _ ?_)
 ·obtain⟨_,_,_,_,_,_,_,b⟩:=h
  exact aC.of (b _ _ l0 eB)
 ·clear l
  intro E rt i x G H3 t fE Gq B h
  obtain⟨o7,D,rfl,w1,w2,w3,w4,O⟩:=h
  refine B ?_
  clear B
  cases C with
  |nil=>cases i<;>cases t
  |cons k0 r0=>
   rw[ES,Cb]at t
   cases i with
   |succ i=>cases i<;>cases t
   |zero=>
    cases t
    have w4:=w4 Z
    subst w4
    have dl:=Kj (k0::r0) k0.1
    exact#[_,Z,r,Z,.inl #[_,.inl w1],_,Z,_,k0.1,_,w1,Z,jY Z,fE _ _ #[_,_,Z,jc,w2.drop _,IM,(λz=>by cases z),λb o nb e=>by rw[jj nb];exact O _ _ nb e]]
 obtain⟨o7,D,rfl,w1,w2,w3,_,O⟩:=h
 generalize I=HC at w1 O
 have SC:ae R HC:=λb o e=>O _ _ (ji e n0) (SB _ _ e)
 have dF:se HC (.ref r):=#[r,D,Z,w1,w2,w3]
 refine ah λL l=>#[_,Z,g,C,Z,SC _ _ c9,λn n1=>l _ _ ?_]
 clear l
 have sD:ae HC (af HC n (.dK C)):=je n1
 have eD:af HC n (.dK C) n=some (.dK C):=jc
 generalize af HC n (.dK C)=HD at sD eD
 have p0:=qV C (.inl 5) (.int (look C (.inl 5) 0))
 refine ah λL l=>#[_,Z,n,Z,.inl #[_,.inl eD],_,dm.k (k:=.inl 5) eD,?_]
 rw[nC.get]
 refine#[_,Z,n,_,Z,gE.k (k:=.inl 5) eD IM,l _ _ ?_]
 clear l
 have kE:ar n HD (af HD n (.dK (aH C (.inl 5) (.int (look C (.inl 5) 0))))):=λb o nb e=>by rw[jj nb];exact e
 have eE:af HD n (.dK (aH C (.inl 5) (.int (look C (.inl 5) 0)))) n=some (.dK (aH C (.inl 5) (.int (look C (.inl 5) 0)))):=jc
 generalize af HD n (.dK (aH C (.inl 5) (.int (look C (.inl 5) 0))))=HE at kE eE
 have SE:ae HC HE:=λb o e=>kE _ _ (ji e n1) (sD _ _ e)
 have dN:se HE (.ref n):=#[n,_,Z,eE,nC.put _ _,IM]
 refine ah λL l=>dJ λJ j=>#[_,Z,_,Z,_,Z,_,Z,λv n7=>#[_,Z,(by show 6<=sizeLine;decide),λli n2=>#[li,Z,#[_,aC.of jc],j _ _ ?_]]]
 clear j
 have sF:ae HE (af (af HE v (.dK [])) li (.lst [.ref g,.ref M,.ref r,.ref n,.ref v,.ref g])):=(je n7).trans (je n2)
 have dE:se (af (af HE v (.dK [])) li (.lst [.ref g,.ref M,.ref r,.ref n,.ref v,.ref g])) (.ref v):=#[v,[],Z,ap jc n2,NT.nil,DX _]
 have eF:af (af HE v (.dK [])) li (.lst [.ref g,.ref M,.ref r,.ref n,.ref v,.ref g]) li=some (.lst [.ref g,.ref M,.ref r,.ref n,.ref v,.ref g]):=jc
 generalize af (af HE v (.dK [])) li (.lst [.ref g,.ref M,.ref r,.ref n,.ref v,.ref g])=HF at sF dE eF
 have S:ae R HF:=(SC.trans SE).trans sF
 have all:∀x∈[V.ref g,.ref M,.ref r,.ref n,.ref v,.ref g],se HF x:=by
  intro x hx
  simp only[Fn,Eb,Gz]at hx
  rcases hx with rfl |rfl |rfl |rfl |rfl |rfl
  ·exact dC.same S
  ·exact dM.same S
  ·exact dF.same (SE.trans sF)
  ·exact dN.same sF
  ·exact dE
  ·exact dC.same S
 refine qq (K:=K) (a:=li) (xs:=[.ref g,.ref M,.ref r,.ref n,.ref v,.ref g]) (λi G I=>∃o9,G=[some (.ref a),some (.ref p),some (.ref g),o3,some u,some (.ref M),some (.ref r),o7,some (.ref n),o9]/\ae HF I) #[none,Z,ae.refl _] (λi G I _ h=>?_) ?_ (λG I h=>l _ _ ?_)
 ·obtain⟨_,_,b⟩:=h
  exact aC.of (b _ _ eF)
 ·clear l
  intro E rt i x G H3 t fE Gq B h
  obtain⟨o9,rfl,O⟩:=h
  refine B ?_
  clear B
  obtain⟨dd,D,rfl,h1,h2,h3⟩:=(all x (D5 t)).same O
  exact#[_,Z,_,Z,dd,D,f,is,s,b,u,Z,h1,h2,h3,h4.same (ae.tm (S.trans O)),ok,dp,sz,λH4 s4=>#[_,Z,aF Z (fE _ _ #[_,Z,O.trans s4])]]
 ·obtain⟨o9,rfl,O⟩:=h
  exact q _
@[elab_as_elim] theorem DA{P:List Value->Prop}(u:List Value)(h:u.length=1)(q:∀a,P [a]):P u:=by
 cases u with
 |nil=>cases h
 |cons a r=>
  cases r with
  |nil=>exact q a
  |cons _ _=>cases h
theorem _root_.L2.aJ.b1{K:Frag}{st:Stmt}{p:List Str}(F:aJ K x q st f g)(h:∀(kV d b:Value) (A:Option Addr) (c C a:Value),bindArgs (fnOf x q (bf st) (aY st) (aa st) .none kV d b A c C) #[[a],[]]=pure (p.zip [a]):=by intros;rfl)(e:p.length=1:=by rfl):aw K g p []:=F.binds λkV d b A c C u H=>DA u (H.trans e) λa=>h kV d b A c C a
@[elab_as_elim] theorem DB{P:List Value->Prop}(u:List Value)(h:u.length=2)(q:∀a b,P [a,b]):P u:=by
 cases u with
 |nil=>cases h
 |cons a r=>
  cases r with
  |nil=>cases h
  |cons b R=>
   cases R with
   |nil=>exact q a b
   |cons _ _=>cases h
theorem _root_.L2.aJ.b2{K:Frag}{st:Stmt}{p:List Str}(F:aJ K x q st f i)(h:∀(kV d g:Value) (A:Option Addr) (c C a b:Value),bindArgs (fnOf x q (bf st) (aY st) (aa st) .none kV d g A c C) #[[a,b],[]]=pure (p.zip [a,b]):=by intros;rfl)(e:p.length=2:=by rfl):aw K i p []:=F.binds λkV d g A c C u H=>DB u (H.trans e) λa b=>h kV d g A c C a b
@[elab_as_elim] theorem DC{P:List Value->Prop}(u:List Value)(h:u.length=3)(q:∀a b c,P [a,b,c]):P u:=by
 cases u with
 |nil=>cases h
 |cons a r=>
  cases r with
  |nil=>cases h
  |cons b R=>
   cases R with
   |nil=>cases h
   |cons c d=>
    cases d with
    |nil=>exact q a b c
    |cons _ _=>cases h
theorem _root_.L2.aJ.b3{K:Frag}{st:Stmt}{p:List Str}(F:aJ K x q st f j)(h:∀(kV d g:Value) (A:Option Addr) (C i a b c:Value),bindArgs (fnOf x q (bf st) (aY st) (aa st) .none kV d g A C i) #[[a,b,c],[]]=pure (p.zip [a,b,c]):=by intros;rfl)(e:p.length=3:=by rfl):aw K j p []:=F.binds λkV d g A C i u H=>DC u (H.trans e) λa b c=>h kV d g A C i a b c
@[elab_as_elim] theorem DE{P:List Value->Prop}(u:List Value)(h:u.length=4)(q:∀a b c d,P [a,b,c,d]):P u:=by
 cases u with
 |nil=>cases h
 |cons a r=>
  cases r with
  |nil=>cases h
  |cons b R=>
   cases R with
   |nil=>cases h
   |cons c e=>
    cases e with
    |nil=>cases h
    |cons d f=>
     cases f with
     |nil=>exact q a b c d
     |cons _ _=>cases h
theorem _root_.L2.aJ.b4{K:Frag}{st:Stmt}{p:List Str}(F:aJ K x q st f j)(h:∀(kV D g:Value) (A:Option Addr) (C i a b c d:Value),bindArgs (fnOf x q (bf st) (aY st) (aa st) .none kV D g A C i) #[[a,b,c,d],[]]=pure (p.zip [a,b,c,d]):=by intros;rfl)(e:p.length=4:=by rfl):aw K j p []:=F.binds λkV D g A C i u H=>DE u (H.trans e) λa b c d=>h kV D g A C i a b c d
@[elab_as_elim] theorem DF{P:List Value->Prop}(u:List Value)(h:u.length=5)(q:∀a b c d e,P [a,b,c,d,e]):P u:=by
 cases u with
 |nil=>cases h
 |cons a r=>
  cases r with
  |nil=>cases h
  |cons b R=>
   cases R with
   |nil=>cases h
   |cons c f=>
    cases f with
    |nil=>cases h
    |cons d g=>
     cases g with
     |nil=>cases h
     |cons e i=>
      cases i with
      |nil=>exact q a b c d e
      |cons _ _=>cases h
theorem _root_.L2.aJ.b5{K:Frag}{st:Stmt}{p:List Str}(F:aJ K x q st f j)(h:∀(kV D g:Value) (A:Option Addr) (C i a b c d e:Value),bindArgs (fnOf x q (bf st) (aY st) (aa st) .none kV D g A C i) #[[a,b,c,d,e],[]]=pure (p.zip [a,b,c,d,e]):=by intros;rfl)(e:p.length=5:=by rfl):aw K j p []:=F.binds λkV D g A C i u H=>DF u (H.trans e) λa b c d e=>h kV D g A C i a b c d e
def eu(K:Frag)(p q:Str)(st:Stmt)(f:Addr):Prop:=∃(o:Value) (O:Option Addr) (kV d a:Value) (A:Option Addr) (c C:Value) (s:Array (Option Value)),K.lookup f=some #[o,O,.func (fnOf p q (bf st) (aY st) (aa st) .none kV d a A c C),s]/\codeIn K c q=true/\keepIn K (.ref f)=true
def bV(K:Frag)(p:Str)(st:Stmt)(f:Addr):Prop:=nsIn K mainGlobals p=some (some (.ref f))/\eu K p p st f
section
variable {K:Frag}{py q:Str}{st:Stmt}{f:Addr}{oc:Value}{od:Option Addr}{kV dc pm:Value}{an:Option Addr}{cd ct:Value}{sl:Array (Option Value)}
theorem De(l:K.lookup f=some #[oc,od,.func (fnOf py q (bf st) (aY st) (aa st) .none kV dc pm an cd ct),sl])(c:codeIn K cd q=true)(k:keepIn K (.ref f)=true):eu K py q st f:=#[_,_,_,_,_,_,_,_,_,l,c,k]
theorem CV(a:nsIn K mainGlobals py=some (some (.ref f)))(l:K.lookup f=some #[oc,od,.func (fnOf py py (bf st) (aY st) (aa st) .none kV dc pm an cd ct),sl])(c:codeIn K cd py=true)(k:keepIn K (.ref f)=true):bV K py st f:=#[a,De l c k]
theorem eu.go(h:eu K py q st f):∃F,aJ K py q st f F/\keepIn K (.ref f)=true:=by
 obtain⟨oc,od,kV,dc,pm,an,cd,ct,sl,l,c,k⟩:=h
 exact#[_,ZQ l c k,k]
theorem bV.go{mg:Str->Option Value}(t:bV K py st f)(X:K.In h)(G:h.Ns mainGlobals mg):∃a,aJ K py py st f a/\keepIn K (.ref f)=true/\mg py=some (.ref f):=by
 obtain⟨a,F,k⟩:=t.2.go
 exact#[a,F,k,mg_of X G t.1]
end
theorem wu{l:PySem.W.OpenLaw}{w:World}{K:Frag}{mg:Str->Option Value}(X:K.In h)(G:h.Ns mainGlobals mg)(j0:mg "law"=some (.ref fa))
             
  (t2:bV K "names_in" dR f0)
  (t3:bV K "own_terms" yu j1)
  (t4:bV K "used_behind_terms" pJ T7)
  (t5:bV K "used_ahead_of" uE f1)
  (t7:bV K "used_ahead" uD T8)
  (t8:bV K "bodies_in" yp j2)
  (t9:bV K "many_cuts" pk j5)
  (t':bV K "deed_of" pi l0)
  (l1:bV K "place_of_give" iG f2)
  (l2:bV K "place_of_set" pw l3)
  (l4:bV K "part_made" pq l5)
  (l6:bV K "made" mH l9)
  (l':bV K "_law_box" yq n2)
  (rX:bV K "_law_take" pG n3)
  (n4:bV K "_law_number" iD n5)
  (n7:bV K "_law_names" gM n')
  (o1:bV K "_law_term" mK o2)
  (o3:bV K "_law_spot" px o4)
  (o5:bV K "_law_statement" pC T9)
  (o6:bV K "_law_body" mE o7)
  (o8:bV K "_law_any" yo o9)
  (dG:bV K "_law_op" CD o')
  (p0:bV K "_law_inner" lQ p1)
  (p2:bV K "_law_looped" gq p3)
  (p4:bV K "_law_ticking" eZ p5)
  (p6:bV K "_law_busy" pf p8)
  (p9:bV K "_law_case" mG p')
  (q0:bV K "joined" iA q1)
  (q2:bV K "worth" iH q3)
  (q4:bV K "named" iB q5)
  (q6:bV K "begun" lO q7)
  (q8:bV K "deeper" iw q9)
  (q':bV K "part_of" iF r0)
  (r1:bV K "cut_at" lP r2)
  (r3:bV K "held_at" iz r4)
  (r5:bV K "worths" gr r6)
  (r7:bV K "deed_at" iu r8)
  (r9:bV K "found_in" gK r')
  (s0:bV K "end_of" iy s1)
  (s2:bV K "first_of" gJ s3)
  (s4:bV K "onward" iE s5)
  (s6:bV K "run" yw s7)
  (s8:bV K "whats_at" uG T')
  (s9:bV K "whats_in" uH s')
  (u0:bV K "whats" yx u1)
  (u2:bV K "true_of" pI u3)
  (u4:bV K "_law_what" uA U0)
  (u8:bV K "_law_chain" nK u9)
  (u':bV K "_law_book" yt v2)
  (v3:bV K "_law_mended" uB v4)
  (v5:bV K "_law_true" uy v7)
  (v8:bV K "_law_any_book" CB v9)
  (v':bV K "_law_told" pH w0)
  (tZ:bV K "law" lR fZ)
  (w1:nsIn K mainGlobals "NOUGHT"=some (some (.ref A))) (w2:K.lookup A=some #[.type "tuple",U1,.seq (List.toArray [.str "num" U2,.int 0 U3]) nN,U4]) (w3:nsIn K mainGlobals "Cutting"=some (some (.ref C))) (v1:nsIn K mainGlobals "TOP"=some (some (.int 1000000000000000000 S9))) (vD:nsIn K mainGlobals "DEEPEST"=some (some (.int 15 tD))) (vR:nsIn K mainGlobals "BookRun"=some (some (.ref c))) (vT:nsIn K mainGlobals "Turns"=some (some (.ref c0)))
  (w4:nsIn K mainGlobals "TooLong"=some (some (.ref x)))
  (w5:nsIn K mainGlobals "TooDeep"=some (some (.ref y)))
  (w6:K.lookup x=some #[S',T0,.cls T1,T2]) (t0:typeIn K (.ref x)=some (.type "type")) (m7:mroIn K x (.type "BaseException")=some true) (k4:keepIn K (.ref x)=true)
  (w7:K.lookup y=some #[T3,T4,.cls T5,T6]) (t1:typeIn K (.ref y)=some (.type "type")) (m8:mroIn K y (.type "BaseException")=some true) (k5:keepIn K (.ref y)=true)
  (w8:mroIn K x (.ref x)=some true) (w9:mroIn K y (.ref x)=some false) (w':mroIn K y (.ref y)=some true)
  (e0:excIn K x nD "ValueError.__new__"=true) (e1:excIn K y nD "ValueError.__new__"=true)
  (X':nV K x) (a4:nV K y)
  (rk:RK K c) (x0:Mk K c f3) (tm:we K c0 "__init__" f4) (m9:bN K c "take_turn" f5) (m':bN K c "number_in" f6) (m3:bN K c "chain_of" x1) (a5:bN K c "what_of" x2)
  (ck:CK K C) (mk:Mk K C f7) (a':bN K C "place_of_body" f9) (x3:bN K C "place_of" x4) (x5:bN K C "place_of_cut" x7) (x8:bN K C "ways_of" x9)
  (x':eu K "__init__" "Cutting.__init__" pj f7)
  (y0:eu K "place_of_body" "Cutting.place_of_body" ur f9)
  (y1:eu K "place_of" "Cutting.place_of" uC x4)
  (y2:eu K "place_of_cut" "Cutting.place_of_cut" ut x7)
  (y3:eu K "ways_of" "Cutting.ways_of" uF x9)
  (y4:eu K "__init__" "Turns.__init__" pE f4)
  (y5:eu K "take_turn" "Turns.take_turn" lS f5)
  (z7:eu K "number_in" "Turns.number_in" pF f6)
  (z8:eu K "__init__" "BookRun.__init__" pe f3)
  (z':eu K "chain_of" "BookRun.chain_of" uo x1)
  (A':eu K "what_of" "BookRun.what_of" uq x2)
  (z3:nsIn K mainGlobals "len"=some none)
  (z4:nsIn K mainGlobals "int"=some none)
  (O:nsIn K mainGlobals "range"=some none)
  (z0:nsIn K mainGlobals "list"=some none)
  (q:nsIn K mainGlobals "reversed"=some none)
  (i:nsIn K mainGlobals "isinstance"=some none)
  (Q:nsIn K mainGlobals "tuple"=some none)
  (B:nsIn K mainGlobals "sorted"=some none)
  (z5:nsIn K mainGlobals "set"=some none)
  (z6:nsIn K mainGlobals "zip"=some none)
  (z1:nsIn K mainGlobals "dict"=some none)
  (z2:nsIn K mainGlobals "bool"=some none)
  (o:nsIn K mainGlobals "enumerate"=some none)
  (kt:C2 K)
  :∃fd:FuncData,(∀(s:Shared) (v:Value),BindsTo s fd #[[v],[]] [("_law_script",v)])/\∀base:Heap,K.In base->base.Ns mainGlobals mg->aj l.prog w K mg base ay 67 fa fd ["_law_script"] (mZ K):=by
 have e:=j0.symm.trans (mg_of X G tZ.1)
 cases e
 obtain⟨B1,r,R,M⟩:=t2.go X G
 obtain⟨U5,b0,B2,B3⟩:=t3.go X G
 obtain⟨U6,b6,U7,B4⟩:=t4.go X G
 obtain⟨U8,S,k6,m4⟩:=t5.go X G
 obtain⟨U9,b7,U',B5⟩:=t7.go X G
 obtain⟨V0,b8,B6,B7⟩:=t8.go X G
 obtain⟨V1,F1,k7,b9⟩:=t9.go X G
 obtain⟨V2,b',B8,B9⟩:=t'.go X G
 obtain⟨V3,T,k8,c1⟩:=l1.go X G
 obtain⟨V4,c2,B',C'⟩:=l2.go X G
 obtain⟨V5,c3,D',E1⟩:=l4.go X G
 obtain⟨V6,c4,E2,E3⟩:=l6.go X G
 obtain⟨V7,F2,k9,c5⟩:=l'.go X G
 obtain⟨V8,F,k,m⟩:=rX.go X G
 obtain⟨V9,D,U,V⟩:=n4.go X G
 obtain⟨V',Y,k2,m5⟩:=n7.go X G
 obtain⟨W0,F0,k',m6⟩:=o1.go X G
 obtain⟨W1,c6,E4,E5⟩:=o3.go X G
 obtain⟨W2,c7,W3,E6⟩:=o5.go X G
 obtain⟨W4,F3,E7,c9⟩:=o6.go X G
 obtain⟨W5,c',E8,E9⟩:=o8.go X G
 obtain⟨W6,E,k0,m0⟩:=dG.go X G
 obtain⟨W7,d0,E',H0⟩:=p0.go X G
 obtain⟨W8,d1,H1,H2⟩:=p2.go X G
 obtain⟨W9,d2,H3,H4⟩:=p4.go X G
 obtain⟨W',d3,H5,H6⟩:=p6.go X G
 obtain⟨Y',d4,H7,H8⟩:=p9.go X G
 obtain⟨Z',d5,H9,H'⟩:=q0.go X G
 obtain⟨dWo,I,k3,m1⟩:=q2.go X G
 obtain⟨dNd,F4,d6,d7⟩:=q4.go X G
 obtain⟨dBe,d8,I0,I1⟩:=q6.go X G
 obtain⟨dDp,d9,I2,I3⟩:=q8.go X G
 obtain⟨dPf,d',I4,I5⟩:=q'.go X G
 obtain⟨dCu,J,k1,m2⟩:=r1.go X G
 obtain⟨dHe,F5,e2,e3⟩:=r3.go X G
 obtain⟨dWs,e4,I6,I7⟩:=r5.go X G
 obtain⟨dDa,e5,I8,I9⟩:=r7.go X G
 obtain⟨dFo,e6,I',J0⟩:=r9.go X G
 obtain⟨dEn,F6,e7,e8⟩:=s0.go X G
 obtain⟨dFi,e9,J',K0⟩:=s2.go X G
 obtain⟨dOn,e',K1,K3⟩:=s4.go X G
 obtain⟨dRu,f',K4,K5⟩:=s6.go X G
 obtain⟨dWa,g0,kWa,K'⟩:=s8.go X G
 obtain⟨dWi,F7,L0,g1⟩:=s9.go X G
 obtain⟨dWt,g2,L1,L3⟩:=u0.go X G
 obtain⟨dTr,g4,L4,L5⟩:=u2.go X G
 obtain⟨dLw,g5,kLw,L6⟩:=u4.go X G
 obtain⟨dLc,F9,L7,g6⟩:=u8.go X G
 obtain⟨dLb,g7,L8,L9⟩:=u'.go X G
 obtain⟨dMe,a0,L',g8⟩:=v3.go X G
 obtain⟨dLt,a1,M0,g'⟩:=v5.go X G
 obtain⟨dAb,h0,M3,M4⟩:=v8.go X G
 obtain⟨dTo,h1,M5,M6⟩:=v'.go X G
 obtain⟨dmI,h2,kmI⟩:=x'.go
 obtain⟨dmB,a2,kmB⟩:=y0.go
 obtain⟨dmO,h3,kmO⟩:=y1.go
 obtain⟨dmC,h4,kmC⟩:=y2.go
 obtain⟨dmW,h5,kmW⟩:=y3.go
 obtain⟨dTI,h6,kTI⟩:=y4.go
 obtain⟨dTT,h7,kTT⟩:=y5.go
 obtain⟨dTN,h8,kTN⟩:=z7.go
 obtain⟨dRI,h',kRI⟩:=z8.go
 obtain⟨dRC,a3,kRC⟩:=z'.go
 obtain⟨dRW,i0,kRW⟩:=A'.go
 obtain⟨ocZ,odZ,M7,M8,M9,M',N0,N1,slZ,lZ,cZ,kZ⟩:=tZ.2
 have FZ:=ZQ (st:=lR) lZ cZ kZ
 have b:=FF X G z3
 have u:=FF X G z4
 have a:=FF X G O
 have t:=FF X G z0
 have N:=FF X G q
 have j:=FF X G i
 have n:=FF X G Q
 have d:=FF X G B
 have L:=FF X G z5
 have n0:=FF X G z6
 have f:=FF X G z1
 have n1:=FF X G z2
 have p:=FF X G o
 have i1:lI K A:=λH=>.inr #[_,_,_,w2,Z,Z,bn,(.cons #[_,Z] (.cons #[_,Z] .nil))]
 refine#[fnOf "law" "law" (bf lR) (aY lR) (aa lR) .none M7 M8 M9 M' N0 N1,λs v=>.of_eq Z,λbase _ _=>?_]
 have g:aj l.prog w K mg base ay 1 n3 _ _ aN:=tO F
 have G5:aj l.prog w K mg base ay 1 n2 _ _ (mX K):=xz F2 b u
 have G0:aj l.prog w K mg base ay 2 n5 _ _ fj:=Zn D #[g,F.b2,k,m]
 have G3:aj l.prog w K mg base ay 2 n' _ _ fi:=oK Y g F.b2 k m a
 have G6:aj l.prog w K mg base ay 6 o2 _ _ (cy 4):=wb (P:=l.prog) (w:=w) (base:=base) F0 F0.b3 m6 #[g,F.b2,k,m] #[G0,D.b1,U,V] b 4
 have N2:aj l.prog w K mg base ay 7 o4 _ _ iQ:=tN c6 #[g,F.b2,k,m] #[G6,F0.b3,k',m6]
 have SS:=Be (P:=l.prog) (w:=w) (base:=base) c7 F3 #[g,F.b2,k,m] #[G6,F0.b3,k',m6] #[N2,c6.b2,E4,E5] c7.b5 E6 F3.b5 c9 b n a
 have N3:aj l.prog w K mg base ay 21 o7 _ _ (gU 6):=(SS 6).2
 have N4:aj l.prog w K mg base ay 22 o9 _ _ rf:=xt c' #[g,F.b2,k,m] #[G3,Y.b2,k2,m5] #[N3,F3.b5,E7,c9] b a n u
 have G1:aj l.prog w K mg base ay 2 o' _ _ md:=AN E #[g,F.b2,k,m]
 have N5:aj l.prog w K mg base ay 3 p1 _ _ (de 2):=oJ d0 #[g,F.b2,k,m] #[G1,E.b3,k0,m0]
 have N6:aj l.prog w K mg base ay 3 p3 _ _ (de 1):=Zq d1 #[g,F.b2,k,m] #[G1,E.b3,k0,m0] u n
 have N7:aj l.prog w K mg base ay 3 p5 _ _ (de 1):=Yh d2 #[g,F.b2,k,m] #[G1,E.b3,k0,m0] u n
 have N8:aj l.prog w K mg base ay 4 p8 _ _ l7:=tw d3 #[g,F.b2,k,m] #[G1,E.b3,k0,m0] #[G3,Y.b2,k2,m5] #[N6,d1.b4,H1,H2] #[N7,d2.b4,H3,H4] #[N5,d0.b4,E',H0]
 have N9:aj l.prog w K mg base ay 23 p' _ _ l8:=tE d4 #[g,F.b2,k,m] #[G0,D.b1,U,V] #[N8,d3.b1,H5,H6] #[N4,c'.b3,E8,E9] b n
 have NS:=vJ (P:=l.prog) (w:=w) (base:=base) r r.b1 M L d
 have G7:aj l.prog w K mg base ay 7 f0 _ _ (df 6):=NS 6
 have N':aj l.prog w K mg base ay 7 f0 _ _ (rj K):=xJ (fN:=f0) (fdN:=B1) r #[NS 5,r.b1,R,M] L d
 have O0:aj l.prog w K mg base ay 1 j1 _ _ nh:=xK b0
 have US:=Bp (P:=l.prog) (w:=w) (base:=base) b7 b6 S b7.b2 B5 b6.b2 B4 S.b2 m4 #[O0,b0.b1,B2,B3] #[G7,r.b1,R,M] t L d N
 have O1:aj l.prog w K mg base ay 31 f1 _ _ (gj 7):=(US 7).2
 have O2:aj l.prog w K mg base ay 10 f1 _ _ (gj 0):=(US 0).2
 have O3:aj l.prog w K mg base ay 1 j2 _ _ mV:=xw b8
 have G9:aj l.prog w K mg base ay 2 j5 _ _ gX:=tH F1 #[O3,b8.b1,B6,B7] t
 have O4:aj l.prog w K mg base ay 1 l0 _ _ iM:=tF b'
 have O5:aj l.prog w K mg base ay 8 f2 _ _ gB:=oM T #[G7,r.b1,R,M]
 have O6:aj l.prog w K mg base ay 8 f2 _ _ (rn K):=xM T #[N',r.b1,R,M]
 have O7:aj l.prog w K mg base ay 11 l3 _ _ iP:=tM c2 #[O2,S.b2,k6,m4]
 have O8:aj l.prog w K mg base ay 63 f9 _ _ (me C 8):=Dh (P:=l.prog) (w:=w) (base:=base) ck a2 h3 h4 h5 a2.b3 a' h3.b3 x3 h4.b3 x5 h5.b4 x8 #[G9,F1.b1,k7,b9] #[O1,S.b2,k6,m4] #[O4,b'.b1,B8,B9] #[O5,T.b1,k8,c1] #[O7,c2.b2,B',C'] b n N 8 (DN _)
 have O9:aj l.prog w K mg base ay 3 f7 _ _ (rg C):=xB h2 ck #[G9,F1.b1,k7,b9]
 have O':aj l.prog w K mg base ay 64 l5 _ _ (mh K A):=tJ c3 ck mk O9 h2.b2 (mg_of X G w3) (mg_of X G w1) i1 O8 a2.b3 a' #[O6,T.b1,k8,c1] n N
 have P0:aj l.prog w K mg base ay 65 l9 _ _ (ma K A):=tG c4 #[O',c3.b3,D',E1] n
 have P1:aj l.prog w K mg base ay 1 q1 _ _ iO:=Zs d5 (mg_of X G v1)
 have G4:aj l.prog w K mg base ay 7 q3 _ _ (cn K 6):=rQ (P:=l.prog) (w:=w) (base:=base) I I.b2 m1 #[P1,d5.b3,H9,H'] 6
 have G2:aj l.prog w K mg base ay 1 r2 _ _ (ij A):=oG J
 have G':aj l.prog w K mg base ay 2 r4 _ _ (iN A):=Zu F5 #[G2,J.b2,k1,m2] f n0
 have P4:aj l.prog w K mg base ay 8 r6 _ _ g9:=Zw e4 #[G4,I.b2,k3,m1] n
 have P5:aj l.prog w K mg base ay 9 r8 _ _ (gu A):=Zx e5 #[G',F5.b3,e2,e3] #[G2,J.b2,k1,m2] #[G4,I.b2,k3,m1] #[P4,e4.b2,I6,I7]
 have P6:aj l.prog w K mg base ay 1 r' _ _ fh:=oI e6
 have i2:aj l.prog w K mg base ay 8 s1 _ _ (mY A):=oH F6 #[G2,J.b2,k1,m2] #[G4,I.b2,k3,m1] n i1
 have P7:aj l.prog w K mg base ay 9 s3 _ _ (gw A):=Yj e9 #[i2,F6.b3,e7,e8] f n0
 have P8:aj l.prog w K mg base ay 9 s5 _ _ (uP A):=Zv e' #[G2,J.b2,k1,m2] #[G',F5.b3,e2,e3] #[P6,e6.b1,I',J0] #[i2,F6.b3,e7,e8]
 have P9:clsIn K x≠none:=by
  unfold clsIn
  rw[w6]
  intro z
  cases z
 have P':clsIn K y≠none:=by
  unfold clsIn
  rw[w7]
  intro z
  cases z
 have i3:=mg_of X G w4
 have i4:=mg_of X G w5
 have Q':XM K mg "TooLong" x:=#[e0,k4,X',t0,i3]
 have R0:XM K mg "TooDeep" y:=#[e1,k5,a4,t1,i4]
 have i':aj l.prog w K mg base ay 1 q5 _ _ i9:=Zy F4
 have R1:aj l.prog w K mg base ay 2 r0 _ _ i9:=Zz d' #[i',F4.b2,d6,d7]
 have R3:aj l.prog w K mg base ay 2 q7 _ _ iK:=oF d8 #[i',F4.b2,d6,d7] b
 have R4:aj l.prog w K mg base (eN l.prog w) 1 q9 _ _ (fg y):=ZA d9 (mg_of X G vD) R0
 have R5:aj l.prog w K mg base ay 1 f4 _ _ (mj c):=tQ h6 rk
 have R6:aj l.prog w K mg base (eN l.prog w) 1 f5 _ _ (iR c x):=oN h7 rk Q'
 have R7:aj l.prog w K mg base ay 1 f6 _ _ (gA c):=tR h8 rk
 have R8:aj l.prog w K mg base ay 2 f3 _ _ (mf c):=tK h' rk R5 h6.b3 (mg_of X G vT) tm
 have R9:=Ah (P:=l.prog) (w:=w) (base:=base) rk a3 a3.b4 m3 i0 i0.b3 a5 #[P7,e9.b2,J',K0] #[P5,e5.b3,I8,I9] #[P8,e'.b2,K1,K3] R6 h7.b1 m9 R7 h8.b2 m' (R4) d9.b1 I2 I3 #[R1,d'.b2,I4,I5] n 16
 have R':aj l.prog w K mg base (eN l.prog w) 45 s7 _ _ (rq x y A):=xN f' rk x0 R8 h'.b4 (mg_of X G vR) #[R3,d8.b3,I0,I1] R9 a3.b4 m3
 have S0:aj l.prog w K mg base ay 36 u9 _ _ (gV 16):=AA (P:=l.prog) (w:=w) (base:=base) F9 F9.b4 g6 g5 g5.b4 L6 #[g,F.b2,k,m] #[G0,D.b1,U,V] b a n 16
 have S1:aj l.prog w K mg base ay 37 v2 _ _ rh:=xE g7 #[g,F.b2,k,m] #[G3,Y.b2,k2,m5] #[S0,F9.b4,L7,g6]
 have S2:aj l.prog w K mg base ay 34 s' _ _ (gZ 16):=Bs (P:=l.prog) (w:=w) (base:=base) g0 g0.b2 K' F7 F7.b2 g1 p 16
 have S3:aj l.prog w K mg base ay 35 u1 _ _ rB:=xS g2 #[S2,F7.b2,L0,g1]
 have S4:aj l.prog w K mg base ay 36 u3 _ _ mq:=tU g4 #[S3,g2.b1,L1,L3] f
 have S5:aj l.prog w K mg base ay 17 v7 _ _ (gW 16):=AB (P:=l.prog) (w:=w) (base:=base) a1 a1.b3 g' 16
 have S6:aj l.prog w K mg base ay 17 v4 _ _ (gY 16):=AC (P:=l.prog) (w:=w) (base:=base) a0 a0.b4 g8 n 16
 have S7:aj l.prog w K mg base ay 37 w0 _ _ mn:=tS h1 #[S4,g4.b2,L4,L5] #[S5,a1.b3,M0,g'] j f n1 kt
 have S8:aj l.prog w K mg base ay 66 v9 _ _ (yF K):=AG h0 #[G5,F2.b2,k9,c5] #[g,F.b2,k,m] #[N9,d4.b1,H7,H8] #[P0,c4.b1,E2,E3] (R') f'.b5 K4 K5 #[S1,g7.b1,L8,L9] #[S6,a0.b4,L',g8] #[i3,P9,t0,m7,i4,P',t1,m8,w8,w9,w']
 exact xC FZ #[G5,F2.b2,k9,c5] #[g,F.b2,k,m] #[G0,D.b1,U,V] #[S8,h0.b2,M3,M4] #[S7,h1.b2,M5,M6] a f t
theorem CY{l:PySem.W.OpenLaw}{Y:World->Heap->Prop}{d:DefRec}{K:Params->Frag}(e:l.most=some 63)(H:d.params.defaults=[])
  (g:∀(w:World) (h:Heap),Y w h->(K w.params).In h)
  (F:∀(w:World) (mg:Str->Option Value) (b:Addr) (h:Heap),(K w.params).In h->h.Ns mainGlobals mg->mg d.name=some (.ref b)->
   ∃c:FuncData,(∀(s:Shared) (u:Value),BindsTo s c #[[u],[]] [("_law_script",u)])/\∀base:Heap,(K w.params).In base->base.Ns mainGlobals mg->aj l.prog w (K w.params) mg base ay 67 b c ["_law_script"] (mZ (K w.params))):
  PySem.W.WalkO q L m Y l.row.toRowW d [] (λf v=>PySem.call f v):=
 L2.uX (n:=63) (k:=67) (x:="_law_script") (CX:=λ_=>ay) (sp:=λw=>mZ (K w.params)) e IL H #[Z,IL,IL] g F (λ_ _ a N i _ j=>#[a,N,Z,j,i,λ_=>Z]) λ_ _ _ _ _ z=>z
end K29
namespace PySem.W.Fast
def tw7300549571653670289:=0
def tw15507134941517818933:=0
def tw3936395638598674022:=0
def tw8017275242028666286:=0
def tw13171923364520218416:=0
def tw12717898727267928738:=0
def tw16572642054080673203:=0
def tw2670035551003511986:=0
def tw18251482549093480388:=0
def tw17147553333973356374:=0
def tw13153007702226424755:=0
def tw7849101143169403131:=0
def tw3382647128932830534:=0
def tw17980138896008941072:=0
def tw2944107251562521558:=0
def tw361252511227952123:=0
def tw8827105035993964802:=0
def tw17898369306114330578:=0
def tw4996158952732809716:=0
def tw2642634778237393408:=0
def tw10636188807023700123:=0
def tw6215738285276371528:=0
def tw1612543878031832529:=0
def tw13054246792829004533:=0
def tw10746136306245554338:=0
def tw1991623028507601178:=0
def tw11014551958761960510:=0
def tw17220189721046408615:=0
def tw15284703762794691825:=0
def tw3944165426663748452:=0
def tw14964861222641827477:=0
def tw196854432511097509:=0
def tw8976764451236020128:=0
def tw14068651543552217431:=0
def tw3918308889891388235:=0
def tw160447002328859367:=0
def tw1796456560635405896:=0
def tw15234983078673880143:=0
def tw10745815303223206197:=0
def tw16203069732248659648:=0
def tw13569481797820937657:=0
def tw8165891710654099585:=0
def tw6983013887149234043:=0
def tw15955417973532775078:=0
def tw14242105031028537239:=0
def tw1875030705376127063:=0
def tw10063696219290496372:=0
def tw8645987599712819944:=0
def tw8437109321727787824:=0
def tw17109361271035647766:=0
def tw5088162790470796240:=0
def tw6769879507574847552:=0
def tw12770594375379336664:=0
def tw16035960193758879640:=0
def tw3146705120478775259:=0
def tw7402674298474155620:=0
def tw13270196185527640495:=0
def tw12715978025363729424:=0
def tw13714742998216983034:=0
def tw6094225151471909584:=0
def tw13759057263800988900:=0
def tw10621267291977961689:=0
def tw17789864370455288638:=0
def tw13707692985451838223:=0
def tw5147730652015058743:=0
def tw10901754437632583580:=0
def tw5364241257610158165:=0
def tw586901869373613322:=0
def tw6577464834538404806:=0
def tw10549172452470918782:=0
def tw3965487886211975583:=0
def tw9348534503411254316:=0
def tw7458419045637958573:=0
def tw16924229255034551868:=0
def tw6463381632375014297:=0
def tw16930348328076851108:=0
def tw11241338080372749132:=0
def tw1307450418996592260:=0
def tw10094605531503409550:=0
def tw13192116003963718662:=0
def tw13944095065884179758:=0
def tw14817201729760680679:=0
def tw13332313738626237194:=0
def tw2150824466833234918:=0
def tw1342528065903231110:=0
def tw7879678826924749971:=0
def tw10079570051954076767:=0
def tw482162407050391102:=0
def tw1050716736480205045:=0
def tw9758188391795514297:=0
def tw14904140273207854314:=0
def tw9321109546868234415:=0
def tw7511971434586515681:=0
def tw15966916796346069455:=0
def tw85691494879936391:=0
def tw17892536456057964232:=0
def tw15513867729534375167:=0
def tw14684498494013121854:=0
def tw13478632648907881174:=0
def tw10638772427066035856:=0
def tw1957698491680212844:=0
def tw6694719016620066482:=0
def tw3068986711425735483:=0
def tw17729721659062094161:=0
def tw10537080371537573733:=0
def tw16520603503740471705:=0
def tw939869643409348273:=0
def tw8935300044256044103:=0
def tw2462444939635156922:=0
def tw2882488074160466847:=0
def tw17199317694497902275:=0
def tw11858206597691583621:=0
def tw14689143034239196445:=0
def tw9363118644173087442:=0
def tw945883136576920369:=0
def tw10553066895148534175:=0
def tw11404384378008842498:=0
def tw5503448946968192889:=0
def tw11319979802102595153:=0
def tw17263503201522164282:=0
def tw15347951149530288161:=0
def tw14106890970972739302:=0
def tw14212490717290020178:=0
def tw10558214920587712749:=0
def tw15953934009528230398:=0
def tw7084327665779086378:=0
def tw2143770004523467996:=0
def tw3305837623234580122:=0
def tw16097643064974457686:=0
def tw3695590925267779816:=0
def tw12582571916596578808:=0
def tw15640712067833064505:=0
def tw7883029376284488896:=0
def tw4079273756643223930:=0
def tw9073414484502181035:=0
def tw12581151056853915671:=0
def tw3284486643267245097:=0
def tw16529736981748917522:=0
def tw2173531239047826069:=0
def tw12453915735551314289:=0
def tw1348847470912242396:=0
def tw6724226491531383282:=0
def tw5886978339289030864:=0
def tw5273122559090953950:=0
def tw2761643426130681802:=0
def tw8023826396954176073:=0
def tw213332489863383982:=0
def tw5293551897320008800:=0
def tw6624541470403225700:=0
def tw7345359700836579447:=0
def tw12337636842312013929:=0
def tw709336211797499246:=0
def tw12319641090785343107:=0
def tw13590774687860801079:=0
def tw8379369367531814202:=0
def tw8812117829680491177:=0
def tw302120976753630435:=0
def tw5135522145831791328:=0
def tw2290972838556710:=0
def tw1826944427790228381:=0
def tw15389787173392623134:=0
def tw10081374307896474550:=0
def tw3205018020257958674:=0
def tw5841880648433225678:=0
def tw5788296694538774563:=0
def tw18382192415381105435:=0
def tw4462560347574174747:=0
def tw16389387668094005442:=0
def tw831188874174133672:=0
def tw7599130056978191007:=0
def tw2301955180883564293:=0
def tw15310555672606224297:=0
def tw14688598998554579807:=0
def tw16449182234387806440:=0
def tw4032100458099559176:=0
def tw6443067718381050438:=0
def tw14456127955329279407:=0
def tw12722467410335708594:=0
def tw1232836461936535592:=0
def tw13007159125263251263:=0
def tw6106089980065505921:=0
def tw3621612977865810477:=0
def tw11567389651641770382:=0
def tw889776592196087965:=0
def tw14402916829630275793:=0
def tw16579749559177597127:=0
def tw11776512935236901443:=0
def tw10492813299292037140:=0
def tw13774547237341436335:=0
def tw15281768931449532607:=0
def tw8142262807636687600:=0
def tw16263685136458409751:=0
def tw13789361197642859539:=0
def tw11798873344168919199:=0
def tw816741065233820310:=0
def tw13753650232062290338:=0
def tw2793166137396096978:=0
def tw13972138111878419805:=0
def tw10188389553746278773:=0
def tw5243742544633035633:=0
def tw6862172359417742840:=0
def tw10000643740741114227:=0
def tw11110753489545725486:=0
def tw15909465261509823987:=0
def tw13714241962869568908:=0
def tw14300408112800377693:=0
def tw13260235481984432126:=0
def tw10750765346121024266:=0
def tw8447482435612921925:=0
def tw12829252110804355576:=0
def tw5042166469350420114:=0
def tw15503466087154466540:=0
def tw5055867544900642827:=0
def tw14868774133448094402:=0
def tw6453383036137795395:=0
def tw11338338320424560666:=0
def tw5223484937323300307:=0
def tw14659708509307065608:=0
def tw4047469093621206210:=0
def tw2270553623683396940:=0
def tw11712660774991684557:=0
def tw1388433753636059269:=0
def tw13145476137815966243:=0
def tw14452744668631178149:=0
def tw8052321441274748788:=0
def tw10952994115970091320:=0
def tw1798618051475531905:=0
def tw8336204183878147891:=0
def tw10635753832405423290:=0
def tw4766917034285065978:=0
def tw13487057776083014958:=0
def tw13442991463553842466:=0
def tw8542985936285256724:=0
def tw11522541318933615835:=0
def tw14702065666147558956:=0
def tw5426237004483385046:=0
def tw16416828848477530784:=0
def tw5399890092714100301:=0
def tw11644716585042509649:=0
def tw6958662243519712178:=0
def tw5443643721086328483:=0
def tw3872226600841937419:=0
def tw17284008706333920577:=0
def tw4434820239253181056:=0
def tw3598946065735008057:=0
def tw16008036629598383217:=0
def tw6844498133134652461:=0
def tw4450052031379830759:=0
def tw16519358847503313365:=0
def tw16616224193831115765:=0
def tw16290334917977596627:=0
def tw12453325706515692485:=0
def tw14626631056081412671:=0
def tw6247170521774326079:=0
def tw7001464625268942560:=0
def tw11426182178706491754:=0
def tw10130172911166701092:=0
def tw18407622305796898078:=0
def tw457201081464117719:=0
def tw10325314493388949185:=0
def tw1178454215809286250:=0
def tw14778300309766620370:=0
def tw1071736651818818951:=0
def tw17201948087221790397:=0
def tw16182825330168700948:=0
def tw72981293029334603:=0
def tw6080908797490732014:=0
def tw8252989400927796029:=0
def tw15999632765598072255:=0
def tw10294290720374983700:=0
def tw8141598556133995767:=0
def tw9159396783406413101:=0
def tw1343098691664957721:=0
def tw2901446876902109312:=0
def tw14069766164062165838:=0
def tw1509995636918202900:=0
def tw7194622434164970031:=0
def tw8299952704556686379:=0
def tw11836240738054577442:=0
def tw7105265745240624151:=0
def tw5950214594319233715:=0
def tw1977833752788967911:=0
def tw12233877202757909743:=0
def tw15429412558764386217:=0
def tw5209391138201162846:=0
def tw15744387923188497077:=0
def tw15441332268596284619:=0
def tw6040147852530772492:=0
def tw113611515928210071:=0
def tw8316142889732509067:=0
def tw13715005910982954888:=0
def tw2917984257240260051:=0
def tw11779322897064452696:=0
def tw3379341920269152187:=0
def tw8435765977777198727:=0
def tw16946972836543667395:=0
def tw12801444535530201571:=0
def tw1436901823868226539:=0
def tw11982401835208024342:=0
def tw11860788928493920410:=0
def tw931850427040783794:=0
def tw8155762807361102873:=0
def tw14416247122447234178:=0
def tw1893091363399715550:=0
def tw11409621935691510440:=0
def tw5411340043214542204:=0
def tw7833156662294649973:=0
def tw13917649377002342773:=0
def tw18383451211386841612:=0
def tw4411484201059804127:=0
def tw11875684449751505407:=0
def tw8658585447075488769:=0
def tw8193687865088386707:=0
def tw13497592409883315390:=0
def tw11725453805539948875:=0
def tw6420505163281632381:=0
def tw7834147754822468900:=0
def tw15463603620990378817:=0
def tw1906749690205103609:=0
def tw4318991103044223467:=0
def tw12809752445175111580:=0
def tw16559110336781759608:=0
def tw10467547410492804367:=0
def tw9856937436230395691:=0
def tw3400796251449329405:=0
def tw11023890697352286414:=0
def tw16629735312957399615:=0
def tw1926967686305828838:=0
def tw13251038804338700466:=0
def tw8579934675246614494:=0
def tw10461405826535117472:=0
def tw4586740289997744396:=0
def tw2441749446765458991:=0
def tw2718932412456939501:=0
def tw12587259761482124440:=0
def tw10649470777500095821:=0
def tw4512120206713845676:=0
def tw2951827501194200347:=0
def tw5518927747752279061:=0
def tw7674860386010530908:=0
def tw15155846757095169057:=0
def tw9426546558267923327:=0
def tw1473230733649103837:=0
def tw10783462081801792244:=0
def tw8338258279852460123:=0
def tw13981193710046314313:=0
def tw1469395975052233046:=0
def tw15066736699520408694:=0
def tw2697134064106388373:=0
def tw12878314780866192198:=0
def tw12049655810642379554:=0
def tw1419319478618746785:=0
def tw12422932665149092492:=0
def tw3362266126423319371:=0
def tw10777616465088176808:=0
def tw336502142018558845:=0
def tw6272313661261636498:=0
def tw13477034165475502753:=0
def tw1753837992490927257:=0
def tw13160355816589177847:=0
def tw952061426116941453:=0
def tw14025972294031476042:=0
def tw17237261587203265287:=0
def tw12870066986074418474:=0
def tw6372179705664696488:=0
def tw1426304031080385982:=0
def tw4094880704578111299:=0
def tw10318689302272697353:=0
def tw15768139471810255958:=0
def tw17572169674338659269:=0
def tw8597690390671624703:=0
def tw7188831099877046224:=0
def tw9399594133620445103:=0
def tw6648999727245217742:=0
def tw9734858900161500411:=0
def tw4419365512486130995:=0
def tw4553853733977359178:=0
def tw3941529741278069585:=0
def tw5911017476406659228:=0
def tw13265048429275185846:=0
def tw7509519036651216741:=0
def tw13271108148983789558:=0
def tw9299546711060510066:=0
end PySem.W.Fast
open PySem PySem.W PyProof.Rows PySem.W.X
theorem K29.Br {q : Program} {loose : List PySem.Str} {XP : (PySem.Str → Option Value) → Heap → Prop} {K : Params → Frag} {as : List Addr} {n t : Nat} {r : RowW} {d : DefRec} {kwd : List (PySem.Str × PySem.Expr)} {run : Value → List Value → Sem Value}
    (e : ∀ P, as = (K P).map (·.1)) (h : WalkO q loose XP (InK K) r d kwd run) : WalkX q loose XP (obsZ as) (valZ K n t) r d kwd run :=
  fun w s₀ s₁ mg mb G Y a o pm cd doc dV kV h1 h2 h3 h4 h5 h6 args vals as' L => h w s₀ s₁ mg mb G (InK.keeps w _ _ (z_facts e Y).2.1 L.keeps) a o pm cd doc dV kV h1 h2 h3 h4 h5 h6 args vals as'
set_option maxRecDepth 100000 in
set_option maxHeartbeats 0 in
theorem PySem.Challenge.cw_againbook_k29_true_of_cells_holds : PySem.Challenge.rw_againbook_k29_true_of_cells.Holds := by
  w_on; o_law; z_head; (case hw => w_witness2)
  refine K29.Br (fun _ => by rfl) (K29.CY (l := PySem.Challenge.rw_againbook_k29_true_of_cells) rfl rfl (fun w h Y => Y) ?F)
  case F =>
    intro w mg fa h KX G hmg
    apply K29.wu KX G hmg
    iterate 54 (apply K29.CV;iterate 4 k_is)
    iterate 20 k_is
    iterate 2 k_exc
    iterate 2 (constructor<;>k_is)
    refine ⟨⟨?_,?_,?_,?_⟩,?_,?_,?_,?_,?_⟩;iterate 4 k_is
    iterate 5 (unfold L2.bj;k_is)
    iterate 2 (constructor;iterate 4 k_is)
    iterate 4 (constructor;iterate 3 k_is)
    refine ⟨⟨?_,?_,?_,?_⟩,?_,?_⟩;iterate 4 k_is
    iterate 2 (unfold L2.bj;k_is)
    constructor;iterate 4 k_is
    iterate 4 (constructor;iterate 3 k_is)
    iterate 11 (apply K29.De;iterate 3 k_is)
    iterate 13 k_is
    constructor;kit_is
