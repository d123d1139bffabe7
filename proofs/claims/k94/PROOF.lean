import PyProof.Rows.All
import Wide.All
import OpenK.AllK
import Wide.FinOn
import Lean
import PyProof.EqAt
import PyProof.EqKinds
import PyProof.TupleCall
import KE.KMinKey
import PySem.Challenge.RW_evenhub_k94_whole_counterweights_as_valu
set_option Elab.async false
set_option linter.all false
set_option maxRecDepth 100000
open List renaming replicate→ş, length_map→š, mem_map→ţ, mem_cons→ũ, range→ŭ, getElem_of_mem→ų, mem_append→ŵ, length_take→ŷ, size_toArray→ź, zipWith→ž, mem_singleton→ñ, mem_or_eq_of_mem_set→ó, mem_iff_getElem→ø, length_range→û, mem_cons_of_mem→ÿ, lookup→č, mem_cons_self→ē, map_cons→ĕ, length_mapIdx→ģ, not_mem_nil→ĭ, length_cons→į, range'→ĵ, length→ķ, map_append→Ć, dropLast_concat_getLast→Ĉ, map_take→Ď, map_drop→Đ, filterMap_cons→Ĝ, mem_filterMap→Ģ, foldl→Ĥ, length_set→Ĺ
open Nat renaming lt_succ_iff_lt_or_eq→ť, lt_or_ge→ů, eq_zero_or_pos→õ, zero_le→ý, le_add_right→ā, lcm→ă, gcd→ą, le_trans→ĉ, le_add_left→ď, exists_eq_add_of_le→ě, strongRecOn→ğ, one_pos→Ą, zero_mul→Ĕ, le_refl→Ě, lt_or_gt_of_ne→Ĩ, lt_or_eq_of_le→Ī, lt_trichotomy→Ĭ, dvd_lcm_right→Į, dvd_lcm_left→Ķ
open Int renaming toNat_natCast→ŧ, lt_or_le→ū, gcd→ż, dvd_of_emod_eq_zero→ò, eq_ofNat_of_zero_le→ü, gcd_dvd_right→ė, mul_ediv_cancel_left→ę, gcd_dvd_left→ĝ, mul_assoc→ĥ, mul_left_comm→ĩ, fmod→ī, ofNat→Ă, natAbs→Ċ, eq_of_mul_eq_mul_right→Č, mul_zero→Ė, dvd_self_sub_emod→Ę, fdiv→Ğ, lt_trichotomy→İ
open Prod renaming fst→ű
open False renaming elim→ô
open Classical renaming axiomOfChoice→ö
open Option renaming getD_some→ù, none→Ē, getD_none→Ġ
open Bool renaming false→ú, true→đ, false_ne_true→Ħ, and_eq_true→Ĵ, or_eq_true→Ļ
open Array renaming mk→þ, length_toList→ġ, toList→ħ
open Or renaming inl→ć, inr→ċ
abbrev ĸ:=List (List Int)
abbrev ĺ:=List ((Int×Int)×Int)
abbrev ļ:=List (Int×Int×Int)
abbrev ľ:=List (Int×Int)
abbrev ł:=List (PySem.Addr×PySem.Obj)
abbrev ń:=List Int
abbrev ņ:=List PySem.Value
abbrev ŋ:=List PySem.Addr
abbrev ō:=List PySem.Str
abbrev ŏ:=List Nat
abbrev ő:=List PySem.Expr
abbrev ŕ:=Option Int
abbrev ŗ:=Int->Int->Int
abbrev ř:=Int->Int
abbrev ś:=PySem.Str->Option PySem.Value
abbrev ŝ:=PySem.Value->PySem.Shared->Prop
abbrev zfq:=PySem.W.Frag
theorem O{p:Prop}(h:p:=by lia):p:=h
theorem L{p:Prop}(h:p:=by decide):p:=h
theorem lD{p:Prop}(h:p:=by rfl):p:=h
theorem lh{p:Prop}(h:p:=by decide +kernel):p:=h
theorem lC{p:Prop}(h:p:=by omega):p:=h
theorem lB{p:Prop}(h:p:=by simp):p:=h
theorem lR{p:Prop}(h:p:=by show 2 ≤ PySem.sizeLine; decide):p:=h
theorem lI{p:Prop}(h:p:=by show 1 ≤ PySem.sizeLine; decide):p:=h
theorem me{p:Prop}(h:p:=by show 3 ≤ PySem.sizeLine; decide):p:=h
theorem mC{p:Prop}(h:p:=by show 4 ≤ PySem.sizeLine; decide):p:=h
theorem zoh{p:Prop}(h:p:=by rw [aa]; lia):p:=h
theorem zoi{p:Prop}(h:p:=by rw [af, Rx.nR O]; rfl):p:=h
theorem zoj{p:Prop}(h:p:=by show 1 * _ ≤ _; exact pO O):p:=h
theorem zok{p:Prop}(h:p:=by kernel_rfl):p:=h
theorem zol{p:Prop}(h:p:=by rw [cG]; exact bx _):p:=h
theorem zom{p:Prop}(h:p:=by rw [aa, aa]):p:=h
theorem zon{p:Prop}(h:p:=by rw [aa, Rx.qF]; lia):p:=h
theorem Z{α:Sort _}{a:α}:a=a:=rfl
def aa:=@List.length_map
def ae:=@Int.toNat_natCast
def af:=@List.getElem?_map
def ah:=@if_neg
def ak:=@List.getD_eq_getElem?_getD
def ao:=@List.mem_of_getElem?
def aq:=@List.mem_cons_of_mem
def ar:=@Int.mul_le_mul_of_nonneg_right
def av:=@List.mem_cons_self
def ax:=@Int.dvd_mul_of_dvd_right
def ay:=@Int.mul_comm
def az:=@List.getElem?_eq_getElem
def aA:=@if_pos
def aB:=@Int.mul_le_mul_of_nonneg_left
def aC:=@Int.mul_ediv_cancel_left
def aD:=@Int.dvd_mul_of_dvd_left
def aE:=@Int.mul_assoc
def aF:=@Int.emod_lt_of_pos
def aG:=@Nat.le_refl
def aH:=@Int.emod_nonneg
def aI:=@Int.natCast_mul
def aJ:=@List.getElem?_eq_some_iff
def aK:=@Int.emod_eq_emod_iff_emod_sub_eq_zero
def aL:=@Int.eq_of_mul_eq_mul_left
def aM:=@PySem.Heap.get?_push_of_some
def aO:=@PySem.PassesOwn.never
def aP:=@List.length_append
def aQ:=@List.map_append
def aR:=@Int.natAbs_mul
def aS:=@Nat.le_trans
def aT:=@Int.emod_eq_of_lt
def aU:=@Int.natAbs_dvd_natAbs
def aW:=@Int.le_of_dvd
def aX:=@Int.emod_emod_of_dvd
def aY:=@Int.dvd_of_emod_eq_zero
def aZ:=@Int.zero_mul
def bi:=@Int.mul_zero
def bj:=@Int.pow_succ
def bn:=@Classical.byContradiction
def bq:=@List.length_replicate
def bu:=@Int.dvd_trans
def bx:=@Int.dvd_zero
def bB:=@Int.emod_eq_zero_of_dvd
def bE:=@Int.dvd_sub
def bF:=@Int.mul_nonneg
def bI:=@PySem.wpAny_bind
def bJ:=@List.length_cons
def bK:=@Nat.lt_of_lt_of_le
def bL:=@Nat.lt_of_le_of_lt
def bO:=@Option.some.inj
def bP:=@List.mem_append_right
def bQ:=@Nat.lt_succ_self
def bR:=@Nat.pow_le_pow_right
def bS:=@Nat.not_lt_zero
def bT:=@Nat.lt_succ_of_lt
def bU:=@Int.emod_add_mul_ediv
def bV:=@PySem.Heap.get?_push_size
def bX:=@Int.mul_one
def bY:=@Int.dvd_add
def bZ:=@PySem.Heap.lt_size
def b3:=@Bool.false_ne_true
def b5:=@List.take_length
def b8:=@Int.mul_ediv_cancel'
def b9:=@Nat.mul_le_mul_right
def cf:=@List.size_toArray
def cm:=@List.mem_singleton
def cq:=@Int.dvd_refl
def cx:=@Int.ediv_le_self
def cy:=@List.getElem?_zipWith
def cA:=@congrArg
def cB:=@decide_eq_true
def cD:=@Int.natAbs_natCast
def cF:=@List.getElem?_eq_none
def cG:=@Int.sub_self
def cH:=@List.length_drop
def cI:=@List.length_set
def cJ:=@List.getElem_mem
def cK:=@Nat.le_of_lt
def cL:=@Int.mul_sub
def cM:=@Nat.le_mul_of_pos_left
def cO:=@PySem.F.slot_list_append
def cP:=@PySem.F.type_list_append
def cQ:=@PyProof.Rows.callWith_type1
def cR:=@Int.toNat_of_nonneg
def cS:=@Int.sub_zero
def cT:=@List.length_take
def cU:=@Nat.mul_le_mul
def cV:=@Int.add_mul_emod_self_left
def cW:=@PySem.F.plainAttrs_list
def cX:=@List.mem_append_left
def cY:=@Int.one_mul
def cZ:=@Int.sub_mul
def c9:=@Nat.ne_of_lt
def de:=@Int.ediv_nonneg
def df:=@Int.mul_le_mul
def dh:=@PySem.wpAny_pure
def dj:=@List.getElem?_range
def dr:=@Int.sub_emod
def dC:=@Int.dvd_mul_right
def dD:=@Int.mul_left_comm
def dE:=@Int.natCast_dvd_natCast
def dF:=@Int.fmod_eq_emod_of_nonneg
def dH:=@List.getElem?_append_right
def dI:=@Nat.mul_pos
def dJ:=@Nat.mul_comm
def dL:=@Int.add_zero
def dM:=@List.getElem?_append_left
def dO:=@List.pairwise_iff_getElem
def dQ:=@List.replicate_succ
def dR:=@Ne.symm
def dS:=@List.take_add_one
def dU:=@List.mem_map
def dW:=@Nat.zero_le
def dX:=@Nat.pow_succ
def dY:=@Nat.mul_le_mul_left
def dZ:=@Int.dvd_neg
def eC:=@List.length_singleton
def eD:=@List.map_cons
def eI:=@Int.zero_add
def eL:=@Int.le_refl
def eM:=@List.getElem?_cons_succ
def eO:=@Int.natCast_pow
def eQ:=@List.length_zipWith
def eR:=@congrFun
def eT:=@Int.mul_emod
def eU:=@Int.pow_zero
def eV:=@Nat.zero_add
def eY:=@PySem.F.slot_int_bit_length
def eZ:=@PySem.F.type_int_bit_length
def e8:=@False
def fe:=@Int.pow_add
def fi:=@List.all_eq_true
def fj:=@List.mem_range
def fk:=@Int.fdiv_eq_ediv_of_nonneg
def fq:=@decide_eq_false
def fv:=@Nat.succ_mul
def fD:=@Nat.lt_irrefl
def fE:=@Int.zero_emod
def fG:=@Nat.le_of_dvd
def fH:=@Nat.Coprime.dvd_of_dvd_mul_left
def fI:=@List.getElem?_replicate
def fJ:=@Int.dvd_mul_left
def fK:=@PySem.Paired.length
def fL:=@PySem.wpAny_mono
def fO:=@Nat.pow_add
def fQ:=@Int.add_mul
def fR:=@Int.mul_emod_right
def fS:=@PySem.F.plainAttrs_int
def fT:=@Bool.eq_iff_iff
def fU:=@List.nodup_cons
def fV:=@Int.mul_eq_zero
def fW:=@Int.add_mul_ediv_left
def fX:=@List.flatten_cons
def fY:=@of_decide_eq_true
def fZ:=@List.length_range
def ga:=@Int.add_mul_emod_self_right
def ge:=@PySem.wpAny_passesOwn
def gf:=@List.pairwise_append
def gh:=@Int.mul_neg
def gi:=@Int.mul_add
def gk:=@Nat.pow_pos
def gn:=@Nat.le_of_not_lt
def gu:=@Nat.eq_of_mul_eq_mul_left
def gz:=@PySem.mem_of_lookup
def gA:=@Int.mul_ediv_cancel
def gC:=@List.mem_cons
def gE:=@PySem.F.slot_tuple_iterator_next
def gF:=@PySem.W.kia_one
def gH:=@List.append_nil
def gI:=@Int.natCast_add
def gJ:=@List.mem_replicate
def gK:=@List.pairwise_cons
def gL:=@decide_eq_true_iff
def gN:=@Nat.le_succ
def gO:=@Nat.one_mul
def gP:=@Int.pow_pos
def gQ:=@List.getElem?_set_self
def gR:=@PySem.intBits_le_64
def gS:=@Int.zero_dvd
def gT:=@Nat.min_self
def gU:=@Int.ediv_eq_zero_of_lt
def gV:=@PySem.wpAny_Call_Name_kw
def gX:=@Bool.and_eq_true
def gY:=@List.getElem?_set_ne
def gZ:=@PySem.wpAny_truthy_bool
def g4:=@PySem.Heap.size_push
def g5:=@Bool.and_eq_true_iff
def g6:=@Prod.ext
def g7:=@Int.one_dvd
def g8:=@List.mem_of_mem_take
def g9:=@List.mem_append
def hI:=@beq_eq_false_iff_ne
def hV:=@Int.ediv_mul_cancel
def hZ:=@Nat.mul_zero
def ia:=@Int.mul_lt_mul_of_pos_left
def ib:=@Int.dvd_natAbs
def ie:=@List.map_singleton
def ig:=@Nat.mul_div_cancel
def ii:=@List.append_assoc
def io:=@Nat.log2_lt
def ip:=@Nat.mul_one
def ir:=@Int.natAbs_add_le
def iu:=@Nat.mul_assoc
def iw:=@Int.dvd_iff_emod_eq_zero
def iy:=@List.pairwise_singleton
def iz:=@Int.gcd_mul_left
def iA:=@Nat.mod_lt
def iB:=@PySem.wpAny_pyIter_enum
def iC:=@List.range_succ
def iD:=@Nat.div_add_mod
def iE:=@PySem.wpAny_getItem_list_slice
def iF:=@Int.ediv_lt_of_lt_mul
def iG:=@Nat.le_of_ble_eq_true
def iH:=@Nat.div_lt_of_lt_mul
def iI:=@Int.natAbs_neg
def iJ:=@PySem.wpAny_callSpecial?_slot
def iK:=@List.mem_of_mem_drop
def iL:=@List.filterMap_cons
def iM:=@PySem.W.plainGet_of
def iN:=@PySem.W.shaped_ints
def iO:=@Nat.pow_le_pow_left
def iP:=@PySem.wpAny_execs_nil
def iQ:=@PySem.wpAny_loadPart'
def iR:=@beq_iff_eq
def iS:=@PySem.W.callWith_K
def iT:=@Nat.ne_of_gt
def iU:=@Int.le_of_lt
def iV:=@List.ext_getElem?
def iW:=@Int.add_comm
def iX:=@Nat.pow_zero
def iY:=@Nat.sub_self
def iZ:=@List.getElem_take
def i4:=@List.nodup_append
def i5:=@PySem.wpAny_field
def i6:=@PySem.Paired.snoc
def i7:=@List.lookup_cons
def i8:=@Nat.mod_eq_of_lt
def i9:=@Option.getD_some
def ja:=@PySem.evalPart_none
def jb:=@List.eq_nil_of_length_eq_zero
def jc:=@Int.mul_pos
def jd:=@True
def je:=@List.mem_filter
def jf:=@PySem.Heap.IsSliceOf.new
def jg:=@List.nil_append
def jh:=@Nat.min_eq_left
def jj:=@Int.dvd_coe_gcd
def jm:=@Int.mul_neg_one
def jo:=@Option.map_some
def jp:=@PySem.wpAny_pyIter_tuple
def jq:=@Int.dvd_of_mul_dvd_mul_left
def jr:=@PySem.codeAny_mono
def js:=@PySem.wpAny_newObj_type
def jt:=@List.take_zero
def ju:=@PySem.IntMulOk.of_right
def jv:=@Nat.le_of_mul_le_mul_left
def jw:=@List.drop_eq_getElem_cons
def jx:=@PySem.wpAny_execs_cons
def jy:=@Option.isSome_iff_exists
def jz:=@List.getElem?_take_of_lt
def jA:=@PyProof.noPylong_of_log2
def jB:=@PySem.wpAny_call_entry
def jC:=@Nat.dvd_mul_left_of_dvd
def jD:=@Nat.le_mul_of_pos_right
def jE:=@Nat.le_of_eq
def jF:=@PySem.W.cellsFrom_some
def jG:=@List.map_nil
def jH:=@List.take_of_length_le
def jI:=@List.map_map
def jJ:=@PyProof.noPylong_small
def jK:=@Nat.lt_trans
def jL:=@List.drop_of_length_le
def jM:=@Nat.gcd_comm
def jO:=@Int.emod_def
def jP:=@Nat.succ_pos
def jQ:=@Nat.div_div_eq_div_mul
def jR:=@Nat.dvd_refl
def jS:=@Int.add_mul_ediv_right
def jT:=@PySem.F.args_tuple_iterator_next_1
def jU:=@List.length_filter_le
def jV:=@PySem.F.entry_tuple_iterator_next
def jW:=@PySem.Calls.Name_function_global
def jX:=@PySem.wpAny_letOwnedTupleGo_enum
def jY:=@Nat.pow_lt_pow_right
def jZ:=@Nat.Coprime.pow_left
def j4:=@Int.neg_mul
def j5:=@Nat.add_mul_div_left
def j6:=@Nat.mod_mod
def j7:=@Nat.pow_lt_pow_left
def j8:=@List.map_congr_left
def j9:=@Array.append_assoc
def kd:=@PySem.wpAny_holding
def ke:=@PySem.wpAny_standAt
def kf:=@Int.natCast_nonneg
def kg:=@List.filter_append
def kh:=@Int.ofNat_dvd_left
def ki:=@PySem.W.kitx_list
def ko:=@PySem.W.kitx_dict
def kq:=@Int.mul_emod_left
def ks:=@Int.emod_add_emod
def ku:=@Int.gcd_dvd_right
def ky:=@PySem.wpAny_pyNext_range_end
def kC:=@PySem.wpAny_pyIter_rangeiter
def kD:=@PySem.seqIndex_neg
def kE:=@PySem.Heap.get?_update_other
def kG:=@PySem.Calls.callWith_builtin
def kJ:=@Nat.succ_ne_self
def kK:=@Nat.div_eq_of_lt
def kL:=@Nat.succ_lt_succ
def kM:=@Int.natCast_succ
def kN:=@Int.lt_of_not_ge
def kO:=@List.getElem_map
def kP:=@List.drop_length
def kQ:=@Int.gcd_dvd_left
def kR:=@List.filter_cons
def kS:=@List.of_mem_zip
def kT:=@PySem.Heap.get?_update_self
def kU:=@List.sum_append
def kW:=@PySem.F.slot_enumerate_next
def kX:=@PySem.IsRange.new
def kY:=@PySem.wpAny_Slice
def kZ:=@PySem.seqIndex_of
def k5:=@List.take_succ
def k7:=@Int.natAbs_pow
def k9:=@Nat.add_le_add
namespace L2
theorem qx {α:Type}{a b:α}{l:List α}{n:Nat}:(a::l).set (n+1) b=a::l.set n b:=rfl
theorem qu {α:Type}{a b:α}{l:List α}:(a::l).set 0 b=b::l:=rfl
open PySem PySem.Spec PyProof.Rows
abbrev Key:=Sum Int Str
def O4:Key->Value->Bool
 | .inl k,v=>Value.isInt k v
 | .inr x,v=>Value.isStrOf x v
def Y6 (w:World):Key->Int
 | .inl k=>hashInt k
 | .inr x=>hashStr w x
def oa:∀{k:Key}{v:Value},O4 k v=true->(∃i t,k=Sum.inl i/\v=Value.int i t)\/(∃x t,k=Sum.inr x/\v=Value.str x t)
 | .inl i,v,h=>by
  obtain⟨t,e⟩:=Value.isInt_shape (k:=i) (v:=v) h;exact .inl ⟨i,t,Z,e⟩
 | .inr x,v,h=>by
  obtain⟨t,e⟩:=Value.isStrOf_shape (x:=x) (v:=v) h;exact .inr ⟨x,t,Z,e⟩
def QX (a b:Int):decide ((Sum.inl a:Key)=Sum.inl b)=(a == b):=by
 by_cases e:a=b
 .subst e;simp
 .have h:¬(Sum.inl a:Key)=Sum.inl b:=fun q=>e (Sum.inl.inj q);rw[fq h];exact(hI.mpr e).symm
def Qs (a b:Str):decide ((Sum.inr a:Key)=Sum.inr b)=decide (a=b):=by
 by_cases e:a=b
 .subst e;simp
 .have h:¬(Sum.inr a:Key)=Sum.inr b:=fun q=>e (Sum.inr.inj q);rw[fq h,fq e]
def QC (a:Int)(b:Str):decide ((Sum.inl a:Key)=Sum.inr b)=false:=fq (fun q=>nomatch q)
def Qx (a:Str)(b:Int):decide ((Sum.inr a:Key)=Sum.inl b)=false:=fq (fun q=>nomatch q)
def Gv (prog:Program)(w:World):PySem.KeyKind prog w Key where
 is:=O4
 hash:=Y6 w
 inj:=fun v a b ha hb=>by
  rcases oa ha with ⟨i,t,rfl,rfl⟩ | ⟨x,t,rfl,rfl⟩
  .rcases oa hb with ⟨j,u,rfl,e⟩ | ⟨y,u,rfl,e⟩
   .injection e with e1 _;rw[e1]
   .exact nomatch e
  .rcases oa hb with ⟨j,u,rfl,e⟩ | ⟨y,u,rfl,e⟩
   .exact nomatch e
   .injection e with e1 _;rw[e1]
 byValue:=fun k v h=>by
  rcases oa h with ⟨i,t,rfl,rfl⟩ | ⟨x,t,rfl,rfl⟩<;>rfl
 pyHash:=fun hv h=>by
  rcases oa hv with ⟨i,t,rfl,rfl⟩ | ⟨x,t,rfl,rfl⟩
  .exact wpAny_pyHash_int h
  .exact wpAny_pyHash_str h
 eqBool:=fun hu hv h=>by
  rcases oa hu with ⟨i,t,rfl,rfl⟩ | ⟨x,t,rfl,rfl⟩
  .rcases oa hv with ⟨j,u,rfl,rfl⟩ | ⟨y,u,rfl,rfl⟩
   .rw[QX] at h;exact wpAny_eqBool_int h
   .rw[QC] at h;exact SeqAt.EqAt.int_str i t y u _ _ _ _ h
  .rcases oa hv with ⟨j,u,rfl,rfl⟩ | ⟨y,u,rfl,rfl⟩
   .rw[Qx] at h;exact SeqAt.EqAt.str_int x t j u _ _ _ _ h
   .rw[Qs] at h;exact wpAny_eqBool_str h
 «strs»:=fun k x t v h=>by
  rcases oa h with ⟨i,u,rfl,e⟩ | ⟨y,u,rfl,e⟩
  .exact nomatch e
  .injection e with e1 _;subst e1;cases v<;>rfl
inductive V where
 | non | bl (b:Bool) | int (i:Int) | str (x:Str) | byt (b:Array UInt8) | flt (b:UInt64) | ref (a:Addr) | ty (n:String)
 deriving DecidableEq
abbrev _root_.ň:=List V
abbrev _root_.œ:=Option V
def RelV:V->Value->Prop
 | .non,u=>u=Value.none
 | .bl b,u=>u=Value.bool b
 | .int i,u=>∃t,u=Value.int i t
 | .str x,u=>∃t,u=Value.str x t
 | .byt b,u=>∃t,u=Value.bytes b t
 | .flt b,u=>∃t,u=Value.float b t
 | .ref a,u=>u=Value.ref a
 | .ty n,u=>u=Value.type n
abbrev Vals:ň->ņ->Prop:=Paired RelV
def Vals.length {xs:ň}{us:ņ}(r:Vals xs us):xs.length=us.length:=fK r
def Vals.get:∀{xs:ň}{us:ņ}{i:Nat}{x:V},Vals xs us->xs[i]?=some x->∃u,us[i]?=some u/\RelV x u
 | _,_,_,_,.nil,e=>by simp at e
 | _,_,0,_,.cons r _,e=>by simp at e;subst e;exact⟨_,Z,r⟩
 | _,_,i+1,x,.cons _ t,e=>by
  obtain⟨u,h1,h2⟩:=Vals.get (i:=i) (x:=x) t (by simpa using e);exact⟨u,by simpa using h1,h2⟩
def Vals.set {x:V}{u:Value}(r:RelV x u):∀{xs:ň}{us:ņ}(i:Nat),Vals xs us->Vals (xs.set i x) (us.set i u)
 | _,_,_,.nil=>.nil
 | _,_,0,.cons _ t=>.cons r t
 | _,_,i+1,.cons q t=>.cons q (Vals.set r i t)
def Vals.append:∀{xs ys:ň}{us ws:ņ},Vals xs us->Vals ys ws->Vals (xs++ys) (us++ws)
 | _,_,_,_,.nil,s=>s
 | _,_,_,_,.cons r t,s=>.cons r (Vals.append t s)
def Vals.take:∀{xs:ň}{us:ņ}(n:Nat),Vals xs us->Vals (xs.take n) (us.take n)
 | _,_,0,_=>.nil
 | _,_,_+1,.nil=>.nil
 | _,_,n+1,.cons r t=>.cons r (Vals.take n t)
def Vals.drop:∀{xs:ň}{us:ņ}(n:Nat),Vals xs us->Vals (xs.drop n) (us.drop n)
 | _,_,0,r=>r
 | _,_,_+1,.nil=>.nil
 | _,_,n+1,.cons _ t=>Vals.drop n t
def vD:œ->Option Value->Prop
 | some v,some u=>RelV v u
 | none,none=>jd
 | _,_=>e8
def KV {κ:Type}:List (κ×V)->List (κ×Value)->Prop:=Paired fun (p:κ×V)(q:κ×Value)=>p.1=q.1/\RelV p.2 q.2
def kV:Key->V
 | .inl i=>.int i
 | .inr x=>.str x
inductive HO where
 /-- a list -/
 | lst (xs:ň)
 /-- a tuple (never changes) -/
 | tup (xs:ň)
 /-- a dict whose keys are ints and texts;one whose keys are tuples of ints and texts (the empty one is both) -/
 | dK (kvs:List (Key×V)) | dT (kvs:List (List Key×V))
 /-- a set of ints: its members,its size -/
 | set (S:Int->Bool)(n:Nat)
 /-- an instance of the class at C,its dict at dx,its attributes -/
 | ins (C dx:Addr)(fs:List (Str×V))
 /-- the dict of the instance at x -/
 | own (x:Addr)
 /-- the dict of an exception -/
 | xd (fs:List (Str×V))
 /-- a bound method,f of x -/
 | met (f x:Addr)
 /-- a range object lo,lo+1,.. below hi -/
 | CD (lo hi:Int)
 /-- a thing that is known to the object (the script;a dict while a loop walks it): read,never written while it is so -/
 | frz (o:Obj)(u:HO)
 /-- a code object's table -/
 | tbl (ps:Array Value)
 /-- any other thing,by what is true of its one object (a def of one's own: SetO a S n:=HO.ext fun h=>..) -/
 | ext (φ:Heap->Prop)
abbrev Hp:=Addr->Option HO
def upd (H:Hp)(a:Addr)(o:HO):Hp:=fun b=>if b=a then some o else H b
def lH {H:Hp}{a:Addr}{o:HO}:upd H a o a=some o:=by unfold upd;rw[if_pos Z]
def mi {H:Hp}{a b:Addr}{o:HO}(h:b≠a):upd H a o b=H b:=by unfold upd;rw[if_neg h]
def p7 {H:Hp}{a b:Addr}{o u:HO}(h:H a=some o)(h':H b=some u)(d:o≠u):a≠b:=by
 intro e;subst e;rw[h] at h';exact d (bO h')
def mh {H:Hp}{a b:Addr}{o:HO}(h:H a=some o)(h':H b=none):a≠b:=by
 intro e;subst e;rw[h] at h';cases h'
section
variable (P:Program)(w:World)
def pL (H:Hp)(h:Heap)(a:Addr):HO->Prop
 | .lst xs=>xs.length<=sizeLine/\∃(its:ņ)(n:Nat),Vals xs its/\h.get? a=some { cls:=.type "list",data:=.seq its.toArray n }
 | .tup xs=>xs.length<=sizeLine/\∃its:ņ,Vals xs its/\IsTup h a its.toArray
 | .dK kvs=>kvs.length<=sizeLine/\(a == sysModules)=false/\∃vs,KV kvs vs/\h.DictOf (Gv P w) a vs
 | .dT kvs=>kvs.length<=sizeLine/\(a == sysModules)=false/\∃xs:List (List Key×Addr×Value),
   Paired (fun (p:List Key×V)(q:List Key×Addr×Value)=>p.1=q.1/\H q.2.1=some (.tup (p.1.map kV))/\RelV p.2 q.2.2) kvs xs /\
   ∃o es ep,h.get? a=some o/\o.ExactDict/\o.data=.dict es ep/\es.toList=xs.map (entryOfKey (tupleKind (Gv P w)))/\(xs.map (·.1)).Nodup
 | .set S n=>h.SetOf (intKind P w) a S n
 | .ins C dx fs=>H dx=some (.own a)/\fs.length<=1000/\dx≠a/\h.get? a=some (PySem.W.instObj C dx) /\
   ∃mA,h.Ns1 dx mA/\(∀f,vD (fs.lookup f) (mA f))/\PySem.Within mA (fs.map (·.1))
 | .own _=>∃o,h.get? a=some o
 | .xd fs=>∃mA,h.Ns1 a mA/\∀f,vD (fs.lookup f) (mA f)
 | .CD lo hi=>∃t u v,h.get? a=some { cls:=.type "range",data:=.fields #[.int lo t,.int hi u,.int 1 v] }
 | .frz o u=>h.get? a=some o/\pL H h a u
 | .tbl ps=>h.get? a=some { cls:=.none,data:=.fields ps }
 | .met f x=>h.get? a=some (PySem.W.methodObj (.ref f) (.ref x))
 | .ext φ=>φ h/\(∃o,h.get? a=some o)/\∀h1 h2:Heap,φ h1->(∀o,h1.get? a=some o->h2.get? a=some o)->φ h2
def xL (H:Hp)(h:Heap):Prop:=∀a o,H a=some o->pL P w H h a o
end
section
variable {P:Program}{w:World}{H H':Hp}{h h':Heap}{a:Addr}{o:HO}
def pL.lt (x:pL P w H h a o):a<h.objs.size:=by
 cases o with
 | lst xs=>obtain⟨_,_,_,_,e⟩:=x;exact Heap.lt_size e
 | tup xs=>obtain⟨_,_,_,p⟩:=x;exact p.lt
 | dK kvs=>obtain⟨_,_,_,_,o,_,_,e,_⟩:=x;exact Heap.lt_size e
 | dT kvs=>obtain⟨_,_,_,_,o,_,_,e,_⟩:=x;exact Heap.lt_size e
 | set S n=>obtain⟨o,_,_,_,e,_⟩:=x;exact Heap.lt_size e
 | ins C dx fs=>obtain⟨_,_,_,e,_⟩:=x;exact Heap.lt_size e
 | own y=>obtain⟨_,e⟩:=x;exact Heap.lt_size e
 | xd fs=>obtain⟨_,⟨_,_,_,e,_⟩,_⟩:=x;exact Heap.lt_size e
 | CD lo hi=>obtain⟨_,_,_,e⟩:=x;exact Heap.lt_size e
 | frz ob u=>obtain⟨e,_⟩:=x;exact Heap.lt_size e
 | tbl ps=>exact bZ (show h.get? a=some _ from x)
 | met f y=>exact bZ (show h.get? a=some _ from x)
 | ext φ=>obtain⟨_,⟨_,e⟩,_⟩:=x;exact Heap.lt_size e
def Paired.uB {α β:Type}{F G:α->β->Prop}:∀{L3:List α}{L4:List β},Paired F L3 L4->(∀a b,F a b->G a b)->Paired G L3 L4
 | _,_,.nil,_=>.nil
 | _,_,.cons r t,f=>.cons (f _ _ r) (Paired.uB t f)
def pL.EF (x:pL P w H h a o)(k:∀b u,(b=a\/H b=some (.own a))->h.get? b=some u->h'.get? b=some u)
  (ho:∀b,H b=some (.own a)->H' b=some (.own a))(ht:∀b xs,H b=some (.tup xs)->H' b=some (.tup xs)):pL P w H' h' a o:=by
 induction o with
 | lst xs=>obtain⟨z,its,n,r,e⟩:=x;exact⟨z,its,n,r,k _ _ (.inl rfl) e⟩
 | tup xs=>obtain⟨z,its,r,ob,e,c⟩:=x;exact⟨z,its,r,ob,k _ _ (.inl rfl) e,c⟩
 | dK kvs=>obtain⟨z,y,vs,r,ob,es,ep,e,c⟩:=x;exact⟨z,y,vs,r,ob,es,ep,k _ _ (.inl rfl) e,c⟩
 | dT kvs =>
  obtain⟨z,y,xs,r,ob,es,ep,e,c⟩:=x;exact⟨z,y,xs,Paired.uB r fun p q z=>⟨z.1,ht _ _ z.2.1,z.2.2⟩,ob,es,ep,k _ _ (.inl Z) e,c⟩
 | set S n=>obtain⟨ob,es,ep,t,e,c⟩:=x;exact⟨ob,es,ep,t,k _ _ (.inl rfl) e,c⟩
 | ins C dx fs =>
  obtain⟨d,z,ne,e,mA,⟨od,es,ep,e2,c⟩,r⟩:=x;exact⟨ho _ d,z,ne,k _ _ (.inl Z) e,mA,⟨od,es,ep,k _ _ (.inr d) e2,c⟩,r⟩
 | own y=>obtain⟨ob,e⟩:=x;exact⟨ob,k _ _ (.inl rfl) e⟩
 | xd fs=>obtain⟨mA,⟨od,es,ep,e,c⟩,r⟩:=x;exact⟨mA,⟨od,es,ep,k _ _ (.inl rfl) e,c⟩,r⟩
 | CD lo hi=>obtain⟨t,u,v,e⟩:=x;exact⟨t,u,v,k _ _ (.inl rfl) e⟩
 | frz ob u ih=>obtain⟨e,q⟩:=x;exact⟨k _ _ (.inl rfl) e,ih q⟩
 | tbl ps =>
  have e:h.get? a=some { cls:=.none,data:=.fields ps }:=x;show h'.get? a=some { cls:=.none,data:=.fields ps }
  exact k a _ (.inl Z) e
 | met f y =>
  have e:h.get? a=some (PySem.W.methodObj (.ref f) (.ref y)):=x;show h'.get? a=some (PySem.W.methodObj (.ref f) (.ref y))
  exact k a _ (.inl Z) e
 | ext φ=>obtain⟨p,⟨o,e⟩,st⟩:=x;exact⟨st _ _ p fun o q=>k _ _ (.inl rfl) q,⟨o,k _ _ (.inl rfl) e⟩,st⟩
def xL.lt (x:xL P w H h)(e:H a=some o):a<h.objs.size:=(x a o e).lt
def xL.fresh (x:xL P w H h)(e:h.objs.size<=a):H a=none:=by
 cases q:H a with
 | none=>rfl
 | some u=>exact absurd (bK (x.lt q) e) (fD _)
def xL.kept (x:xL P w H h)(k:∀b u,h.get? b=some u->h'.get? b=some u):xL P w H h':=fun a o e =>
 (x a o e).EF (fun b u _ q=>k b u q) (fun _ q=>q) fun _ _ q=>q
def xL.laid (x:xL P w H h)(k:∀b u,h.get? b=some u->h'.get? b=some u)(hp:h.objs.size<=a)(new:pL P w (upd H a o) h' a o):xL P w (upd H a o) h':=fun b u e=>by
 have hn:=x.fresh hp
 by_cases hb:b=a
 .subst hb;rw[lH] at e;cases e;exact new
 .rw[mi hb] at e;exact(x b u e).EF (fun c v _ q=>k c v q) (fun c q=>by rw[mi (mh q hn)];exact q) fun c xs q=>by rw[mi (mh q hn)];exact q
end
def Rd (H:Hp)(a:Addr)(u:HO):Prop:=H a=some u\/∃o,H a=some (.frz o u)
def Rd.of {H:Hp}{a:Addr}{u:HO}(h:H a=some u):Rd H a u:=.inl h
def Rd.ok {P:Program}{w:World}{H:Hp}{h:Heap}{a:Addr}{u:HO}(r:Rd H a u)(x:xL P w H h):pL P w H h a u:=by
 rcases r with r | ⟨o,r⟩
 .exact x a u r
 .obtain⟨_,q⟩:=x a _ r;exact q
def Wy:Option HO->Prop
 | some (.lst _)=>jd
 | some (.dK _)=>jd
 | some (.dT _)=>jd
 | some (.set _ _)=>jd
 | some (.ins _ _ _)=>jd
 | some (.ext _)=>jd
 | _=>e8
section
variable {P:Program}{w:World}{H:Hp}{h h':Heap}{x e:Addr}{o':HO}
def xL.write (ok:xL P w H h)(mu:Wy (H x))(he:e=x\/H e=some (.own x))(k:∀b u,b≠e->h.get? b=some u->h'.get? b=some u)(R8:∃u,h'.get? e=some u)
  (new:pL P w (upd H x o') h' x o'):xL P w (upd H x o') h':=fun b u q=>by
 have UU:∀c y,H c=some (.own y)->c≠x:=fun c y r z=>by subst z;rw[r] at mu;exact mu
 have zaF:∀c xs,H c=some (.tup xs)->c≠x:=fun c xs r z=>by subst z;rw[r] at mu;exact mu
 by_cases hb:b=x
 .subst hb;rw[lH] at q;cases q;exact new
 .rw[mi hb] at q
  by_cases Ro:b=e
  .have q':H b=some (.own x):=by
    rcases he with z | z
    .exact absurd (Ro.trans z) hb
    .rw[Ro];exact z
   rw[q] at q';cases q';obtain⟨v,hv⟩:=R8;exact⟨v,by rw[Ro];exact hv⟩
  .refine(ok b u q).EF (fun c v hc r=>k c v ?_ r) (fun c r=>by rw[mi (UU c b r)];exact r) fun c xs r=>by rw[mi (zaF c xs r)];exact r
   rcases hc with rfl | hc
   .exact Ro
   .rintro rfl;rcases he with z | z
    .exact UU c b hc z
    .rw[hc] at z;cases z;exact hb Z
end
structure Un (fs ex:ŋ)(H H':Hp)(h h':Heap):Prop where
 keep:∀b o,h.get? b=some o->H b=none->b∉fs->b∉ex->h'.get? b=some o
 slot:∀b o,h.get? b=some o->H b=none->b∈fs->b∉ex->∃sl,h'.get? b=some { o with slots:=sl }
 free:∀b o,h.get? b=some o->H b=none->b∉ex->H' b=none
 there:∀b o,h.get? b=some o->b∉ex->∃o',h'.get? b=some o'
 tups:∀b xs,H b=some (.tup xs)->H' b=some (.tup xs)
 frzs:∀b o u,H b=some (.frz o u)->H' b=some (.frz o u)
 tbls:∀b ps,H b=some (.tbl ps)->∃more,H' b=some (.tbl (ps++more))
section
variable {fs ex:ŋ}{H H1 H2:Hp}{h h1 h2 h':Heap}{a x e:Addr}{o:HO}
def Un.any (u:Un fs ex H H1 h h1){b:Addr}{ob:Obj}(q:h.get? b=some ob)(n:H b=none)(hx:b∉ex):∃sl,h1.get? b=some { ob with slots:=sl }:=by
 by_cases hb:b∈fs
 .exact u.slot b ob q n hb hx
 .exact⟨ob.slots,u.keep b ob q n hb hx⟩
def Un.trans (a:Un fs ex H H1 h h1)(b:Un fs ex H1 H2 h1 h2):Un fs ex H H2 h h2 where
 keep:=fun c ob q n hc hx=>b.keep c ob (a.keep c ob q n hc hx) (a.free c ob q n hx) hc hx
 slot:=fun c ob q n hc hx=>by
  obtain⟨sl,e1⟩:=a.slot c ob q n hc hx;obtain⟨sl',e2⟩:=b.slot c _ e1 (a.free c ob q n hx) hc hx;exact⟨sl',e2⟩
 free:=fun c ob q n hx=>by
  obtain⟨o',e1⟩:=a.there c ob q hx;exact b.free c o' e1 (a.free c ob q n hx) hx
 there:=fun c ob q hx=>by
  obtain⟨o',e1⟩:=a.there c ob q hx;exact b.there c o' e1 hx
 tups:=fun c xs q=>b.tups c xs (a.tups c xs q)
 frzs:=fun c ob xs q=>b.frzs c ob xs (a.frzs c ob xs q)
 tbls:=fun c ps q=>by
  obtain⟨m1,e1⟩:=a.tbls c ps q;obtain⟨m2,e2⟩:=b.tbls c _ e1;exact⟨m1++m2,by rw[e2,j9]⟩
def Un.kept (k:∀b u,h.get? b=some u->h'.get? b=some u):Un fs ex H H h h' :=
 ⟨fun b ob q _ _ _=>k b ob q,fun b ob q _ _ _=>⟨ob.slots,k b ob q⟩,fun _ _ _ n _=>n,fun b ob q _=>⟨ob,k b ob q⟩,fun _ _ q=>q,fun _ _ _ q=>q,fun _ ps q=>⟨#[],by rw[q];simp⟩⟩
def Un.refl:Un fs ex H H h h:=Un.kept fun _ _ q=>q
def Un.laid (k:∀b u,h.get? b=some u->h'.get? b=some u)(hp:h.objs.size<=a)(hn:H a=none):Un fs ex H (upd H a o) h h' where
 keep:=fun b u q _ _ _=>k b u q
 slot:=fun b u q _ _ _=>⟨u.slots,k b u q⟩
 free:=fun b u q n _=>by rw[mi (c9 (bK (bZ q) hp))];exact n
 there:=fun b u q _=>⟨u,k b u q⟩
 tups:=fun b xs q=>by rw[mi (mh q hn)];exact q
 frzs:=fun b u xs q=>by rw[mi (mh q hn)];exact q
 tbls:=fun b ps q=>⟨#[],by rw[mi (mh q hn),q];simp⟩
def Un.write (mu:Wy (H x))(he:e=x\/H e=some (.own x))(k:∀b u,b≠e->h.get? b=some u->h'.get? b=some u)(R8:∃u,h'.get? e=some u):Un fs ex H (upd H x o) h h':=by
 have hx:∀b,H b=none->b≠x:=fun b n z=>by subst z;rw[n] at mu;exact mu
 have hb:∀b,H b=none->b≠e:=fun b n z=>by
  subst z;rcases he with r | r
  .exact hx b n r
  .rw[n] at r;cases r
 have hm:∀b u,H b=some u->¬Wy (some u)->b≠x:=fun b u q nm z=>by subst z;rw[q] at mu;exact nm mu
 refine⟨fun b u q n _ _=>k b u (hb b n) q,fun b u q n _ _=>⟨u.slots,k b u (hb b n) q⟩,fun b u q n _=>by rw[mi (hx b n)];exact n,fun b u q _=>?_,
  fun b xs q=>by rw[mi (hm b _ q fun z=>z)];exact q,fun b u xs q=>by rw[mi (hm b _ q fun z=>z)];exact q,fun b ps q=>⟨#[],by rw[mi (hm b _ q fun z=>z),q];simp⟩⟩
 by_cases Ro:b=e
 .subst Ro;exact R8
 .exact⟨u,k b u Ro q⟩
end
def Ww (h:Heap)(H:Hp):ŋ:=(ŭ h.objs.size).filter fun a=>(H a).isSome
def B7 (h:Heap)(H:Hp):Heap:=PySem.W.hideAll h (Ww h H)
def HL (h:Heap)(H:Hp):(B7 h H).objs.size=h.objs.size:=PySem.W.hideAll_size _ _
def Ke {h:Heap}{H:Hp}{b:Addr}{o:Obj}(e:h.get? b=some o)(n:H b=none):(B7 h H).get? b=some o :=
 PySem.W.hideAll_get _ e fun hm=>by
  have q:(H b).isSome=true:=(je.mp hm).2;rw[n] at q;simp at q
def MG {h:Heap}{H:Hp}{b:Addr}{o:Obj}(e:(B7 h H).get? b=some o):h.get? b=some o/\H b=none:=by
 have e':h.get? b=some o:=PySem.W.of_hideAll (Ww h H) e;refine⟨e',?_⟩;cases q:H b with
 | none=>rfl
 | some x =>
  have hm:b∈Ww h H:=je.mpr ⟨fj.mpr (bZ e'),by simp[q]⟩;have z:(B7 h H).get? b=none:=PySem.W.hideAll_none (Ww h H) hm;rw[z] at e;cases e
def MT (g h:Heap)(zog:Addr):ł:=(ŭ h.objs.size).filterMap fun a=>if a=zog\/(g.get? a).isSome=true then none else (h.get? a).map fun o=>(a,o)
def rest (g h:Heap)(zog d:Addr):ł:=(MT g h zog).filter fun p=>decide (p.1≠d)
structure Mod (K:zfq)(mg:ś)(base:Heap):Prop where
 kin:K.In base
 glob:base.Ns mainGlobals mg
 blt:∃mb,base.Ns builtinsNs mb/\∀x:Str,x≠"__name__"->mb x=bootBuiltins x
 nolimit:base.NoLimit
structure Cx where
 prog:Program
 w:World
 K:zfq
 mg:Str->Option Value
 base:Heap
 A:Around
 N:ō
 s₀:Shared
 H₀:Hp
 env:Env
 outer:List Env
 stack:List Env
 ex:ŋ
 fn:Str->Bool
 calm:Bool
 pn:ł
 xe:Value->Shared->Prop
def Iy (l:List Env):ŋ:=l.filterMap (·.frame)
abbrev Cx.fs (X:Cx):ŋ:=Iy X.outer
def Wv (sc:Scope)(x:Str):Prop:=sc.names.lookup x=some .local\/sc.names.lookup x=some .cell\/sc.names.lookup x=some .free
def Loc (sc:Scope)(x:Str):Prop:=sc.names.lookup x=some .local\/sc.names.lookup x=some .cell
def Look (env:Env)(h:Heap)(m:ś)(x:Str)(u:Value):Prop :=
 (env.kindOf x=some .local/\m x=some u)\/((env.kindOf x=some .cell\/env.kindOf x=some .free)/\∃c,env.cells.lookup x=some c/\h.IsCell c (some u))
structure Cx.Ok (X:Cx):Prop where
 mod:Mod X.K X.mg X.base
 kind:X.env.scope.kind=.function
 glob:X.env.globals=mainGlobals
 blt:X.env.builtins=builtinsNs
 above:X.s₀.heap.objs.size<=X.env.locals
 inj:∀x y c,X.env.cells.lookup x=some c->X.env.cells.lookup y=some c->x=y
 has:∀x,(X.env.kindOf x=some .cell\/X.env.kindOf x=some .free)->∃c,X.env.cells.lookup x=some c
 cab:∀x c,X.fn x=true->X.env.cells.lookup x=some c->X.s₀.heap.objs.size<=c
 hd:X.calm=true->X.A.handled=none
 frames:X.A.frames=some X.stack
 stk:X.stack=X.outer\/(X.stack=X.env::X.outer/\X.env.frame=some X.env.locals)
 exf:∀b∈X.ex,b≠X.env.locals/\∀x c,X.env.cells.lookup x=some c->c≠b
 bs:∀b o,X.base.get? b=some o->X.s₀.heap.get? b=some o/\X.H₀ b=none
 bsz:X.base.objs.size<=X.s₀.heap.objs.size
 noex:∀b o,X.base.get? b=some o->b∉X.ex
 exfs:∀b∈X.ex,b∉X.fs
 vU:X.s₀.heap.FunFrames X.base X.outer
 frf:∀b∈X.fs,X.H₀ b=none
structure Inv (X:Cx)(â:ł)(σ:List (œ))(H:Hp)(s:Shared):Prop where
 ok:X.Ok
 os:s.os=X.s₀.os
 bare:AllBare s.gens
 base:Un X.fs X.ex X.H₀ H X.s₀.heap s.heap
 loc:∃m,s.heap.Ns X.env.locals m/\∀(i:Nat)(x:Str)(v:V),X.N[i]?=some x->σ[i]?=some (some v)->Wv X.env.scope x->∃u,RelV v u/\Look X.env s.heap m x u
 cell:∀x c,X.env.cells.lookup x=some c->∃v,s.heap.IsCell c v
 free:H X.env.locals=none
 freeC:∀x c,X.env.cells.lookup x=some c->H c=none
 pin:∀p∈X.pn++â,s.heap.get? p.1=some p.2/\H p.1=none/\p.1≠X.env.locals/\p.1∉X.fs/\∀v,p.2.data≠.cell v
 hok:xL X.prog X.w H s.heap
 len:σ.length=X.N.length
section
variable {g':Array GenState}{t':Nat}{ch:ŋ}{E:ŝ}{Q:Unit->Shared->Prop}
variable {X:Cx}{â:ł}{σ:List (œ)}{H H':Hp}{s:Shared}{h':Heap}
def Cx.Ok.YT (ok:X.Ok){b:Addr}{o:Obj}(e:X.base.get? b=some o):b∉X.fs:=fun hb=>by
 have:=(ok.vU.mem hb).1;rw[e] at this;cases this
def Inv.bs (I:Inv X â σ H s):∀b o,X.base.get? b=some o->s.heap.get? b=some o/\H b=none:=fun b o e =>
 ⟨I.base.keep b o (I.ok.bs b o e).1 (I.ok.bs b o e).2 (I.ok.YT e) (I.ok.noex b o e),I.base.free b o (I.ok.bs b o e).1 (I.ok.bs b o e).2 (I.ok.noex b o e)⟩
def Inv.bk (I:Inv X â σ H s):∀b o,X.base.get? b=some o->s.heap.get? b=some o:=fun b o e=>(I.bs b o e).1
def Inv.mod (I:Inv X â σ H s):Mod X.K X.mg X.base:=I.ok.mod
def Inv.xO (I:Inv X â σ H s):X.K.In s.heap:=I.ok.mod.kin.keeps I.bk
def Inv.fr (I:Inv X â σ H s):∃m,Fr X.base X.env.locals s.heap m :=
 let ⟨m,hn,_⟩:=I.loc
 ⟨m,hn,I.bk,aS I.ok.bsz I.ok.above⟩
def Inv.lt (I:Inv X â σ H s):X.env.locals<s.heap.objs.size:=let ⟨_,hn,_⟩:=I.loc;hn.lt
def Inv.sz (I:Inv X â σ H s):X.s₀.heap.objs.size<=s.heap.objs.size:=aS I.ok.above (cK I.lt)
def Inv.XA (I:Inv X â σ H s){a:Addr}(h:s.heap.objs.size<=a):a∉X.fs:=fun hb=>by
 obtain⟨_,o,ho,_⟩:=I.ok.vU.mem hb;exact absurd (bK (bZ ho) (aS I.sz h)) (fD _)
def Inv.P2 (I:Inv X â σ H s):∀x c,X.env.cells.lookup x=some c->c≠X.env.locals:=fun x c e z=>by
 obtain⟨v,o,ho,hd⟩:=I.cell x c e;obtain⟨m,⟨o',es,ep,E8,GS,_⟩,_⟩:=I.loc;rw[z,E8] at ho;cases ho;rw[GS] at hd;cases hd
def Inv.vU (I:Inv X â σ H s):s.heap.FunFrames X.base X.outer:=by
 have all:∀(l:List Env),(∀b∈Iy l,b∈X.fs)->X.s₀.heap.FunFrames X.base l->s.heap.FunFrames X.base l:=by
  intro l
  induction l with
  | nil=>intro _ _;trivial
  | cons env r ih =>
   intro hs hl;obtain⟨hk,⟨zog,o,hf,hn,ho,hd⟩,hr⟩:=hl;have hL:zog∈X.fs:=hs zog (by unfold Iy;rw[Ĝ,hf];exact ē);obtain⟨sl,e⟩:=I.base.slot zog o ho (I.ok.frf zog hL) hL fun z=>I.ok.exfs zog z hL;exact⟨hk,⟨zog,_,hf,hn,e,hd⟩,ih (fun b hb=>hs b (by unfold Iy;rw[Ĝ,hf];exact ÿ _ hb)) hr⟩
 exact all X.outer (fun _ hb=>hb) I.ok.vU
def Inv.stack (I:Inv X â σ H s):s.heap.FunFrames X.base X.stack:=by
 rcases I.ok.stk with e | ⟨e,hf⟩
 .rw[e];exact I.vU
 .rw[e];obtain⟨m,hn,_⟩:=I.loc;refine .cons (by rw[I.ok.kind];decide) hf hn ?_ I.vU;exact Heap.get?_none_of_le (aS I.ok.bsz I.ok.above)
def Inv.EY (I:Inv X â σ H s):∀b∈Iy X.stack,b∈X.env.locals::X.fs:=fun b hb=>by
 rcases I.ok.stk with e | ⟨e,hf⟩
 .rw[e] at hb;exact aq _ hb
 .rw[e] at hb;unfold Iy at hb;rw[iL,hf] at hb;exact hb
def Inv.GI (I:Inv X â σ H s):∀b∈Iy X.stack,H b=none:=fun b hb=>by
 rcases ũ.mp (I.EY b hb) with e | hb
 .rw[e];exact I.free
 .obtain⟨_,o,ho,_⟩:=I.ok.vU.mem hb;exact I.base.free b o ho (I.ok.frf b hb) fun z=>I.ok.exfs b z hb
def Inv.step {d':Drawn}(I:Inv X â σ H s)
 (Ci:∀b∈ch,(b∈X.ex\/X.s₀.heap.objs.size<=b)/\b≠X.env.locals/\(∀x c,X.env.cells.lookup x=some c->c≠b)/\∀p∈X.pn++â,p.1≠b)
 (keep:∀b o,b≠X.env.locals->b∉X.fs->b∉ch->s.heap.get? b=some o->H b=none->h'.get? b=some o)
 (slot:∀b o,b≠X.env.locals->b∈X.fs->b∉ch->s.heap.get? b=some o->H b=none->∃sl,h'.get? b=some { o with slots:=sl })(free:∀b o,b∉ch->s.heap.get? b=some o->H b=none->H' b=none)
 (there:∀b o,b∉ch->s.heap.get? b=some o->∃o',h'.get? b=some o')
 (tups:∀b xs,H b=some (.tup xs)->H' b=some (.tup xs))(frzs:∀b o u,H b=some (.frz o u)->H' b=some (.frz o u))(tbls:∀b ps,H b=some (.tbl ps)->∃more,H' b=some (.tbl (ps++more)))
 (ns:∀m,s.heap.Ns X.env.locals m->h'.Ns X.env.locals m)(hok:xL X.prog X.w H' h')(hg:AllBare g') :
    Inv X â σ H' { s with heap:=h',gens:=g',drawn:=d',toks:=t' }:=by
  have neL:∀b o,X.s₀.heap.get? b=some o->b≠X.env.locals:=fun b o e=>c9 (bK (bZ e) I.ok.above);have WC:∀b o,X.s₀.heap.get? b=some o->b∉X.ex->b∉ch:=fun b o e hx hb=>by
    rcases (Ci b hb).1 with z | z
    · exact hx z
    · exact absurd (bK (bZ e) z) (fD _)
  have cellK:∀x c,X.env.cells.lookup x=some c->∀v,s.heap.IsCell c v->h'.IsCell c v:=fun x c e v ⟨o,ho,hd⟩=>by
    have UV:c∉ch:=fun z=>(Ci c z).2.2.1 x c e Z
    by_cases hc:c∈X.fs
    · obtain⟨sl,q⟩:=slot c o (I.P2 x c e) hc UV ho (I.freeC x c e)
      exact⟨_,q,hd⟩
    · exact⟨o,keep c o (I.P2 x c e) hc UV ho (I.freeC x c e),hd⟩
  refine⟨I.ok,I.os,hg,⟨fun b o e n hb hx=>?_,fun b o e n hb hx=>?_,fun b o e n hx=>?_,fun b o e hx=>?_,fun b xs e=>tups b xs (I.base.tups b xs e),fun b o xs e=>frzs b o xs (I.base.frzs b o xs e),fun b ps e=>?_⟩,?_,fun x c e=>?_,?_,fun x c e=>?_,fun p hp=>?_,hok,I.len⟩
  · exact keep b o (neL b o e) hb (WC b o e hx) (I.base.keep b o e n hb hx) (I.base.free b o e n hx)
  · obtain⟨sl,e1⟩:=I.base.slot b o e n hb hx
    obtain⟨sl',e2⟩:=slot b _ (neL b o e) hb (WC b o e hx) e1 (I.base.free b o e n hx);exact⟨sl',e2⟩
  · obtain⟨o',e1⟩:=I.base.there b o e hx
    exact free b o' (WC b o e hx) e1 (I.base.free b o e n hx)
  · obtain⟨o',e1⟩:=I.base.there b o e hx
    exact there b o' (WC b o e hx) e1
  · obtain⟨m1,e1⟩:=I.base.tbls b ps e
    obtain⟨m2,e2⟩:=tbls b _ e1;exact⟨m1++m2,by rw[e2,j9]⟩
  · obtain⟨m,hn,hl⟩:=I.loc
    refine⟨m,ns m hn,fun i x v e1 e2 e3=>?_⟩;obtain⟨u,r,l⟩:=hl i x v e1 e2 e3;refine⟨u,r,?_⟩;rcases l with l | ⟨k,c,e,z⟩
    · exact .inl l
    · exact .inr ⟨k,c,e,cellK x c e _ z⟩
  · obtain⟨v,z⟩:=I.cell x c e
    exact⟨v,cellK x c e v z⟩
  · obtain⟨m,⟨o,_,_,ho,_⟩,_⟩:=I.loc
    exact free _ o (fun z=>(Ci _ z).2.1 Z) ho I.free
  · obtain⟨v,o,ho,hd⟩:=I.cell x c e
    exact free c o (fun z=>(Ci c z).2.2.1 x c e Z) ho (I.freeC x c e)
  · obtain⟨e,n,ne,nf,d⟩:=I.pin p hp
    have UV:p.1∉ch:=fun z=>(Ci p.1 z).2.2.2 p hp Z;exact⟨keep p.1 p.2 ne nf UV e n,free p.1 p.2 UV e n,ne,nf,d⟩
def Inv.un (I:Inv X â σ H s)(u:Un X.fs [] H H' s.heap h')(hok:xL X.prog X.w H' h'):Inv X â σ H' { s with heap:=h',toks:=t' }:=by
 obtain⟨m,⟨o,es,ep,ho,r⟩,_⟩:=id I.loc;obtain⟨sl,hL⟩:=u.any ho I.free lB;exact I.step (g':=s.gens) (d':=s.drawn) (ch:=[]) (fun _ z=>nomatch z) (fun b o _ hb _ e n=>u.keep b o e n hb lB) (fun b o _ hb _ e n=>u.slot b o e n hb lB) (fun b o _ e n=>u.free b o e n lB) (fun b o _ e=>u.there b o e lB) u.tups u.frzs u.tbls (fun m' hm=>by
  obtain⟨o',es',ep',E8,r'⟩:=hm;rw[ho] at E8;cases E8;exact⟨_,es',ep',hL,r'⟩) hok I.bare
def Inv.call {d':Drawn}(I:Inv X â σ H s)(u:Un (Iy X.stack) ch H H' s.heap h')(hok:xL X.prog X.w H' h')(hg:AllBare g')
 (Ci:∀b∈ch,(b∈X.ex\/X.s₀.heap.objs.size<=b)/\b≠X.env.locals/\(∀x c,X.env.cells.lookup x=some c->c≠b)/\∀p∈X.pn++â,p.1≠b) :
    Inv X â σ H' { s with heap:=h',gens:=g',drawn:=d',toks:=t' }:=by
  obtain⟨m,⟨o,es,ep,ho,r⟩,_⟩:=id I.loc;obtain⟨sl,hL⟩:=u.any ho I.free fun z=>(Ci _ z).2.1 Z;exact I.step (ch:=ch) Ci (fun b o hL hb hc e n=>u.keep b o e n (fun z=>(gC.mp (I.EY b z)).elim hL hb) hc) (fun b o _ _ hc e n=>u.any e n hc) (fun b o hc e n=>u.free b o e n hc) (fun b o hc e=>u.there b o e hc) u.tups u.frzs u.tbls (fun m' hm=>by
    obtain⟨o',es',ep',E8,r'⟩:=hm;rw[ho] at E8;cases E8;exact⟨_,es',ep',hL,r'⟩) hok hg
def Inv.turned {it:Addr}(I:Inv X â σ H s)(k:∀b o,b≠it->s.heap.get? b=some o->h'.get? b=some o)(hn:H it=none)(hL:it≠X.env.locals)
 (h1:it∈X.ex\/X.s₀.heap.objs.size<=it)(h2:∀x c,X.env.cells.lookup x=some c->c≠it)(h3:∀p∈X.pn++â,p.1≠it):Inv X â σ H { s with heap:=h',toks:=t' }:=by
  have UW:∀b u,H b=some u->b≠it:=fun b u e z=>by rw[z,hn] at e;cases e
  refine I.step (g':=s.gens) (d':=s.drawn) (ch:=[it]) (fun b hb=>?_) (fun b o _ _ hc e _=>k b o (fun z=>hc (by simp[z])) e) (fun b o _ _ hc e _=>⟨o.slots,k b o (fun z=>hc (by simp[z])) e⟩) (fun _ _ _ _ n=>n)
    (fun b o hc e=>⟨o,k b o (fun z=>hc (by simp[z])) e⟩) (fun _ _ e=>e) (fun _ _ _ e=>e) (fun b ps e=>⟨#[],by rw[e];simp⟩) (fun m hm=>?_) (fun b u e=>?_) I.bare
  · have e:b=it:=by simpa using hb
    subst e;exact⟨h1,hL,h2,h3⟩
  · obtain⟨o,es,ep,ho,r⟩:=hm
    exact⟨o,es,ep,k _ o (dR hL) ho,r⟩
  · refine(I.hok b u e).EF (fun c v hc q=>k c v ?_ q) (fun _ q=>q) fun _ _ q=>q
    rcases hc with z | z
    · rw[z];exact UW b u e
    · exact UW c _ z
def Inv.tok (I:Inv X â σ H s)(t:Nat):Inv X â σ H { s with toks:=t }:=I.un (h':=s.heap) (t':=t) Un.refl I.hok
def Inv.kept {t':Nat}(I:Inv X â σ H s)(k:∀b u,s.heap.get? b=some u->h'.get? b=some u):Inv X â σ H { s with heap:=h',toks:=t' }:=I.un (Un.kept k) (I.hok.kept k)
def Inv.laid {a:Addr}{o:HO}{t':Nat}(I:Inv X â σ H s)(k:∀b u,s.heap.get? b=some u->h'.get? b=some u)(hp:s.heap.objs.size<=a)(new:pL X.prog X.w (upd H a o) h' a o) :
  Inv X â σ (upd H a o) { s with heap:=h',toks:=t' }:=I.un (Un.laid k hp (I.hok.fresh hp)) (I.hok.laid k hp new)
def Inv.write {x e:Addr}{o:HO}{t':Nat}(I:Inv X â σ H s)(mu:Wy (H x))(he:e=x\/H e=some (.own x))(k:∀b u,b≠e->s.heap.get? b=some u->h'.get? b=some u)(R8:∃u,h'.get? e=some u)
  (new:pL X.prog X.w (upd H x o) h' x o):Inv X â σ (upd H x o) { s with heap:=h',toks:=t' }:=I.un (Un.write mu he k R8) (I.hok.write mu he k R8 new)
def Inv.weak {nC:List (œ)}(I:Inv X â σ H s)(hl:nC.length=σ.length)(w:∀(i:Nat) v,nC[i]?=some (some v)->σ[i]?=some (some v)):Inv X â nC H s :=
 ⟨I.ok,I.os,I.bare,I.base,let ⟨m,hn,hl'⟩:=I.loc;⟨m,hn,fun i x v e1 e2 e3=>hl' i x v e1 (w i v e2) e3⟩,I.cell,I.free,I.freeC,I.pin,I.hok,hl.trans I.len⟩
def Inv.vz {Pf:ł}(I:Inv X â σ H s)(h:∀p∈Pf,s.heap.get? p.1=some p.2/\H p.1=none/\p.1≠X.env.locals/\p.1∉X.fs/\∀v,p.2.data≠.cell v):Inv X Pf σ H s :=
 ⟨I.ok,I.os,I.bare,I.base,I.loc,I.cell,I.free,I.freeC,fun p hp=>(g9.mp hp).elim (fun z=>I.pin p (cX _ z)) (h p),I.hok,I.len⟩
def Dz {N:ō}(hN:N.Nodup){i j:Nat}{x:Str}(a:N[i]?=some x)(b:N[j]?=some x):i=j:=by
 obtain⟨h1,e1⟩:=List.getElem?_eq_some_iff.mp a;obtain⟨h2,e2⟩:=List.getElem?_eq_some_iff.mp b;exact(List.getElem_inj hN).mp (e1.trans e2.symm)
def AF {M:Model}{A:Around}{i:Nat}{x:Str}{v:V}{u:Value}(I:Inv X â σ H s)(hN:X.N.Nodup)(hi:X.N[i]?=some x)(hx:Loc X.env.scope x)(r:RelV v u)
 (h:∀s',Inv X â (σ.set i (some v)) H s'->(∃a,Heap.SameBut a s.heap s'.heap/\(a=X.env.locals\/X.env.cells.lookup x=some a))->Q () s')(hf:X.fn x=true\/X.env.scope.names.lookup x=some .local:=by first | exact .inl Z | exact .inr Z | assumption):wpAny M A (storeName X.env x u) Q E s:=by
  obtain⟨m,hn,hl⟩:=id I.loc;have zaJ:(X.env.scope.kind == .class || (X.env.scope.kind == .module && X.env.locals != X.env.globals))=false:=by rw[I.ok.kind];rfl
  have UX:i<σ.length:=by rw[I.len];exact(aJ.mp hi).1
  have P2:=I.P2;have tracked:∀{a:Addr}{h':Heap},(∃o,s.heap.get? a=some o/\H a=none)->Heap.SameBut a s.heap h'->xL X.prog X.w H h':=fun {a h'} ha hs b ob e=>by
    obtain⟨_,_,tF⟩:=ha;refine(I.hok b ob e).EF (fun c w' hc q=>(hs.2 c ?_).trans q) (fun _ q=>q) fun _ _ q=>q;rintro rfl;rcases hc with rfl | hc
    · rw[tF] at e;cases e
    · rw[tF] at hc;cases hc
  rcases hx with hk | hk
  · refine wpAny_storeName_local hk hn (fun h' hn' hs=>?_) zaJ
    obtain⟨oL,_,_,hoL,_⟩:=id hn;refine h _ ⟨I.ok,I.os,I.bare,⟨fun b o e n hb hx=>?_,fun b o e n hb hx=>?_,I.base.free,fun b o e hx=>?_,I.base.tups,I.base.frzs,I.base.tbls⟩,⟨_,hn',fun j y v' e1 e2 e3=>?_⟩,fun y c e=>?_,I.free,I.freeC,fun p hp=>?_,tracked ⟨oL,hoL,I.free⟩ hs,by simpa using I.len⟩ ⟨_,hs,.inl Z⟩
    · exact(hs.2 b (c9 (bK (bZ e) I.ok.above))).trans (I.base.keep b o e n hb hx)
    · obtain⟨sl,e1⟩:=I.base.slot b o e n hb hx
      exact⟨sl,(hs.2 b (c9 (bK (bZ e) I.ok.above))).trans e1⟩
    · obtain⟨o',e1⟩:=I.base.there b o e hx
      exact⟨o',(hs.2 b (c9 (bK (bZ e) I.ok.above))).trans e1⟩
    · by_cases hj:j=i
      · subst hj
        rw[hi] at e1;cases e1;rw[gQ UX] at e2;cases e2;exact⟨u,r,.inl ⟨hk,lB⟩⟩
      · rw[gY (dR hj)] at e2
        obtain⟨u',r',q⟩:=hl j y v' e1 e2 e3;refine⟨u',r',?_⟩;rcases q with ⟨k,e⟩ | ⟨k,c,e,z⟩
        · refine .inl ⟨k,?_⟩
          have:y≠x:=fun e=>hj (Dz hN e1 (e▸hi));simp[this,e]
        · exact .inr ⟨k,c,e,z.sameBut hs (P2 y c e)⟩
    · obtain⟨w',z⟩:=I.cell y c e
      exact⟨w',z.sameBut hs (P2 y c e)⟩
    · obtain⟨e,n,ne,nf,d⟩:=I.pin p hp
      exact⟨(hs.2 p.1 ne).trans e,n,ne,nf,d⟩
  · have hfn:X.fn x=true:=by
      rcases hf with z | z
      · exact z
      · rw[z] at hk;cases hk
    obtain⟨c,hc⟩:=I.ok.has x (.inl hk);obtain⟨w',z⟩:=I.cell x c hc;refine wpAny_storeName_cell I.ok.kind hk hc z (fun h' wQ hs=>?_);obtain⟨oc,hoc,zaL⟩:=id z;refine h { s with heap:=h' } ⟨I.ok,I.os,I.bare,⟨fun b o e n hb hx=>?_,fun b o e n hb hx=>?_,I.base.free,fun b o e hx=>?_,I.base.tups,I.base.frzs,I.base.tbls⟩,⟨m,hn.sameBut hs (dR (P2 x c hc)),fun j y v' e1 e2 e3=>?_⟩,fun y c' e=>?_,I.free,I.freeC,fun p hp=>?_,tracked ⟨oc,hoc,I.freeC x c hc⟩ hs,by simpa using I.len⟩ ⟨c,hs,.inr hc⟩
    · exact(hs.2 b (c9 (bK (bZ e) (I.ok.cab x c hfn hc)))).trans (I.base.keep b o e n hb hx)
    · obtain⟨sl,e1⟩:=I.base.slot b o e n hb hx
      exact⟨sl,(hs.2 b (c9 (bK (bZ e) (I.ok.cab x c hfn hc)))).trans e1⟩
    · obtain⟨o',e1⟩:=I.base.there b o e hx
      exact⟨o',(hs.2 b (c9 (bK (bZ e) (I.ok.cab x c hfn hc)))).trans e1⟩
    · by_cases hj:j=i
      · subst hj
        rw[hi] at e1;cases e1;rw[gQ UX] at e2;cases e2;exact⟨u,r,.inr ⟨.inl hk,c,hc,wQ⟩⟩
      · rw[gY (dR hj)] at e2
        obtain⟨u',r',q⟩:=hl j y v' e1 e2 e3;refine⟨u',r',?_⟩;rcases q with q | ⟨k,c',e,z'⟩
        · exact .inl q
        · refine .inr ⟨k,c',e,z'.sameBut hs ?_⟩
          rintro rfl;exact hj (Dz hN e1 (I.ok.inj _ _ _ e hc▸hi))
    · by_cases UY:c'=c
      · subst UY;exact⟨_,wQ⟩
      · obtain⟨w2,z2⟩:=I.cell y c' e
        exact⟨w2,z2.sameBut hs UY⟩
    · obtain⟨e,n,ne,nf,d⟩:=I.pin p hp
      refine⟨(hs.2 p.1 ?_).trans e,n,ne,nf,d⟩;intro q;rw[q,hoc] at e;have q':oc=p.2:=bO e;exact d w' (by rw[<-q'];exact zaL)
def C5 {M:Model}{A:Around}{i:Nat}{x:Str}{v:V}{u:Value}(I:Inv X â σ H s)(hN:X.N.Nodup)(hi:X.N[i]?=some x)(hx:Loc X.env.scope x)(r:RelV v u)
 (h:∀s',Inv X â (σ.set i (some v)) H s'->Q () s')(hf:X.fn x=true\/X.env.scope.names.lookup x=some .local:=by first | exact .inl Z | exact .inr Z | assumption):wpAny M A (storeName X.env x u) Q E s :=
  AF I hN hi hx r (fun s' I' _=>h s' I') hf
def Inv.UE {s':Shared}(I:Inv X â σ H s)(ho:s'.os=s.os)(u:Un (Iy X.stack) ch H H' s.heap s'.heap)(hok:xL X.prog X.w H' s'.heap)(hg:AllBare s'.gens)
 (Ci:∀b∈ch,(b∈X.ex\/X.s₀.heap.objs.size<=b)/\b≠X.env.locals/\(∀x c,X.env.cells.lookup x=some c->c≠b)/\∀p∈X.pn++â,p.1≠b):Inv X â σ H' s':=by
  obtain⟨h',g',d',t',o'⟩:=s';have e:o'=s.os:=ho;subst e;exact I.call (g':=g') (t':=t') (d':=d') u hok hg Ci
end
abbrev XK:=Value->Option Addr->Hp->Prop
abbrev St:=List (œ)
abbrev VK:=V->Hp->Prop
abbrev TE:=St->Hp->VK->Prop
abbrev TT:=St->Hp->(Bool->Hp->Prop)->Prop
abbrev TA:=St->Hp->(ň->Hp->Prop)->Prop
structure Ends where
 nx:St->Hp->Prop
 rt:VK
 bk:St->Hp->Prop:=fun _ _=>e8
 ct:St->Hp->Prop:=fun _ _=>e8
abbrev TS:=Ends->St->Hp->Prop
def EP (X:Cx)(â:ł)(σ:St)(Q:VK)(u:Value)(s':Shared):Prop:=∃v H',Inv X â σ H' s'/\RelV v u/\Q v H'
def TP (X:Cx)(â:ł)(σ:St)(Q:Bool->Hp->Prop)(b:Bool)(s':Shared):Prop:=∃H',Inv X â σ H' s'/\Q b H'
def AP (X:Cx)(â:ł)(σ:St)(Q:ň->Hp->Prop)(us:ņ)(s':Shared):Prop:=∃vs H',Inv X â σ H' s'/\Vals vs us/\Q vs H'
def SP (X:Cx)(â:ł)(D:Ends)(f:Flow)(s':Shared):Prop :=
 match f with
 | .next=>∃nC H',Inv X â nC H' s'/\D.nx nC H'
 | .brk=>∃nC H',Inv X â nC H' s'/\D.bk nC H'
 | .cont=>∃nC H',Inv X â nC H' s'/\D.ct nC H'
 | .ret u=>∃v nC H',Inv X â nC H' s'/\RelV v u/\D.rt v H'
def PE (X:Cx)(e:Expr)(t:TE):Prop :=
 ∀(â:ł)(s:Shared)(σ:St)(H:Hp)(Q:VK),Inv X â σ H s->t σ H Q->wpAny (model X.prog X.w) X.A (eval e X.env) (EP X â σ Q) X.xe s
def PT (X:Cx)(e:Expr)(t:TT):Prop :=
 ∀(â:ł)(s:Shared)(σ:St)(H:Hp)(Q:Bool->Hp->Prop),Inv X â σ H s->t σ H Q->wpAny (model X.prog X.w) X.A (isTrue e X.env (eval e X.env)) (TP X â σ Q) X.xe s
def PW (X:Cx)(e:Expr)(t:TT):Prop :=
 ∀(whole:Sem Value)(â:ł)(s:Shared)(σ:St)(H:Hp)(Q:Bool->Hp->Prop),Inv X â σ H s->t σ H Q->wpAny (model X.prog X.w) X.A (isTrue e X.env whole) (TP X â σ Q) X.xe s
def PW.pt {X:Cx}{e:Expr}{t:TT}(h:PW X e t):PT X e t:=h _
def PA (X:Cx)(es:ő)(t:TA):Prop :=
 ∀(pos:Pos)(â:ł)(s:Shared)(σ:St)(H:Hp)(Q:ň->Hp->Prop),Inv X â σ H s->t σ H Q->wpAny (model X.prog X.w) X.A (spliced (backTo pos (starEach es X.env))) (AP X â σ Q) X.xe s
def PS (X:Cx)(st:Stmt)(t:TS):Prop :=
 ∀(â:ł)(s:Shared)(σ:St)(H:Hp)(D:Ends),Inv X â σ H s->t D σ H->wpAny (model X.prog X.w) X.A (exec st X.env) (SP X â D) X.xe s
def xc (X:Cx)(st:List Stmt)(t:TS):Prop :=
 ∀(â:ł)(s:Shared)(σ:St)(H:Hp)(D:Ends),Inv X â σ H s->t D σ H->wpAny (model X.prog X.w) X.A (execs st X.env) (SP X â D) X.xe s
def oR {α:Type}{t:Sem α}{Q Q':α->Shared->Prop}{M:Model}{A:Around}{E:ŝ}{s:Shared}(h:wpAny M A t Q E s)(hQ:∀a s,Q a s->Q' a s):wpAny M A t Q' E s:=fL h hQ fun _ _ x=>x
section
variable {x:Str}{E Q:ŝ}{â:ł}{u:Value}
variable {X:Cx}
def Tq (i:Nat):TE:=fun σ H Q=>∃v,σ[i]?=some (some v)/\Q v H
def tC (v:V):TE:=fun _ H Q=>Q v H
def QH {i:Nat}{pos:Pos}(hN:X.N[i]?=some x)(hv:Wv X.env.scope x)(hd:(x == ("__debug__":Str))=false:=by decide)(GT:(x == ("__classdict__":Str))=false:=by decide):PE X (.Name x pos) (Tq i):=by
 intro â s σ H Q I h;obtain⟨v,e,h⟩:=h;obtain⟨m,hn,hl⟩:=I.loc;obtain⟨u,r,l⟩:=hl i x v hN e hv;have fin:EP X â σ Q u s:=⟨v,H,I,r,h⟩;rcases l with ⟨hk,hm⟩ | ⟨hk,c,hc,sw⟩
 .exact wpAny_Name (wpAny_loadName_local I.ok.kind hk hn hm fin) hd
 .rcases hk with hk | hk
  .exact wpAny_Name (wpAny_loadName_cell I.ok.kind hk hc sw fin) hd
  .exact wpAny_Name (wpAny_loadName_free I.ok.kind hk hc sw fin GT) hd
def lJ {i j pos}:PE X (.Constant (.int i) j pos) (tC (.int i)):=fun _ _ _ H _ I h=>wpAny_Constant_int ⟨.int i,H,I.tok _,⟨_,Z⟩,h⟩
def uV {b j pos}:PE X (.Constant (.bool b) j pos) (tC (.bl b)):=fun _ _ _ H _ I h=>Constant_bool ⟨.bl b,H,I,Z,h⟩
def t5 {j pos}:PE X (.Constant .none j pos) (tC .non):=fun _ _ _ H _ I h=>Constant_none ⟨.non,H,I,Z,h⟩
def rV {x j pos}:PE X (.Constant (.str x) j pos) (tC (.str x)):=fun _ _ _ H _ I h=>Calls.Constant_str ⟨.str x,H,I.tok _,⟨_,Z⟩,h⟩
def Gl (X:Cx)(x:Str):Prop:=X.env.kindOf x=some .globalImplicit
def A3 {s:Shared}{σ:St}{H:Hp}{pos:Pos}(I:Inv X â σ H s)(hg:Gl X x)(hm:X.mg x=some u)(h:Q u s)
 (hd:(x == ("__debug__":Str))=false:=by decide):wpAny (model X.prog X.w) X.A (eval (.Name x pos) X.env) Q E s :=
  jW I.ok.kind hg (Calls.loadGlobal_global (by rw[I.ok.glob];exact I.mod.glob.keeps I.bk) hm h) hd
def rT {s:Shared}{σ:St}{H:Hp}{pos:Pos}(I:Inv X â σ H s)(hg:Gl X x)(hm:X.mg x=none)(hv:bootBuiltins x=some u)(h:Q u s)
 (hn:x≠"__name__":=by decide)(hd:(x == ("__debug__":Str))=false:=by decide):wpAny (model X.prog X.w) X.A (eval (.Name x pos) X.env) Q E s:=by
  obtain⟨mb,h1,h2⟩:=I.mod.blt;exact jW I.ok.kind hg (Calls.loadGlobal_builtin (by rw[I.ok.glob];exact I.mod.glob.keeps I.bk) hm (by rw[I.ok.blt];exact h1.keeps I.bk) ((h2 x hn).trans hv) h) hd
def uk {v:V}{pos:Pos}(hg:Gl X x)(hm:X.mg x=some u)(r:RelV v u)(hd:(x == ("__debug__":Str))=false:=by decide):PE X (.Name x pos) (tC v) :=
 fun _ _ _ H _ I h=>A3 I hg hm ⟨v,H,I,r,h⟩ hd
def ut {v:V}{pos:Pos}(hg:Gl X x)(hm:X.mg x=none)(hv:bootBuiltins x=some u)(r:RelV v u)(hn:x≠"__name__":=by decide)(hd:(x == ("__debug__":Str))=false:=by decide):PE X (.Name x pos) (tC v) :=
 fun _ _ _ H _ I h=>rT I hg hm hv ⟨v,H,I,r,h⟩ hn hd
variable {a b:Expr}{ta tb:TE}{pos:Pos}
def tB (t:TE):TT:=fun σ H Q=>t σ H fun x H1=>∃c,x=.bl c/\Q c H1
def pJ {e:Expr}{t:TE}(h:PE X e t)(he:∀whole,isTrue e X.env whole=(do let v <-whole;standAt e.pos;holding [v] (truthy v)):=by intro _;rfl):PT X e (tB t):=by
 intro â s σ H Q I hw;refine isTrue_plain (oR (h â s σ H _ I hw) fun v s1 ⟨x,H1,I1,r1,q1⟩=>?_) (he _);obtain⟨d,rfl,q⟩:=q1;cases r1;exact gZ ⟨H1,I1,q⟩
variable {tA tB':TT}{rest:ő}
def tOr (t u:TT):TT:=fun σ H Q=>t σ H fun c H1=>if c=true then Q true H1 else u σ H1 Q
def YI (t:TT):TT:=fun σ H Q=>t σ H fun c H1=>Q (!c) H1
def yF (ha:PT X a tA):PW X (.BoolOp .Or [a] pos) tA:=by
 intro wh â s σ H Q I h;refine isTrue_or (oR (ha â s σ H Q I h) fun c s1 e=>?_);cases c with
 | false=>exact isTrue_or_nil e
 | true=>exact e
def vw (ha:PT X a tA)(hb:PW X (.BoolOp .Or (b::rest) pos) tB'):PW X (.BoolOp .Or (a::b::rest) pos) (tOr tA tB'):=by
 intro wh â s σ H Q I h;refine isTrue_or (oR (ha â s σ H _ I h) fun c s1 ⟨H1,I1,q1⟩=>?_);cases c with
 | true=>exact⟨H1,I1,q1⟩
 | false=>exact hb wh â s1 σ H1 Q I1 q1
def qD (ha:PT X a tA):PT X (.UnaryOp .Not a pos) (YI tA):=by
 intro â s σ H Q I h;exact isTrue_not (ha â s σ H (fun c H1=>Q (!c) H1) I h)
def UK (ta tb:TE):TE:=fun σ H Q=>ta σ H fun x H1=>∃c,x=.bl c/\if c=true then tb σ H1 Q else Q (.bl false) H1
def SV (ta:TE):TE:=fun σ H Q=>ta σ H fun x H1=>∃c,x=.bl c/\Q (.bl (!c)) H1
def B8 {op}{t:TE}(h:PE X a t):PE X (.BoolOp op [a] pos) t:=fun â s σ H Q I hw=>BoolOp_one (h â s σ H Q I hw)
def wb (ha:PE X a ta)(hb:PE X (.BoolOp .And (b::rest) pos) tb):PE X (.BoolOp .And (a::b::rest) pos) (UK ta tb):=by
 intro â s σ H Q I h;refine BoolOp_and (oR (ha â s σ H _ I h) fun v s1 ⟨x,H1,I1,r1,q1⟩=>?_);obtain⟨c,rfl,q1⟩:=q1;cases r1;refine gZ ?_;cases c with
 | true=>exact hb â s1 σ H1 Q I1 q1
 | false=>exact⟨.bl false,H1,I1,Z,q1⟩
def Le (ha:PE X a ta):PE X (.UnaryOp .Not a pos) (SV ta):=by
 intro â s σ H Q I h;refine UnaryOp_ (oR (ha â s σ H _ I h) fun v s1 ⟨x,H1,I1,r1,q1⟩=>?_);obtain⟨c,rfl,q1⟩:=q1;cases r1;exact not_of (gZ ⟨.bl (!c),H1,I1,Z,q1⟩)
def tIf (t:TT)(ta tb:TE):TE:=fun σ H Q=>t σ H fun c H1=>if c=true then ta σ H1 Q else tb σ H1 Q
def LX {c:Expr}(hc:PT X c tA)(ha:PE X a ta)(hb:PE X b tb):PE X (.IfExp c a b pos) (tIf tA ta tb):=by
 intro â s σ H Q I h;refine wpAny_IfExp (oR (hc â s σ H _ I h) fun d s1 ⟨H1,I1,q1⟩=>?_);cases d with
 | true=>exact ha â s1 σ H1 Q I1 q1
 | false=>exact hb â s1 σ H1 Q I1 q1
end
def mj (K:zfq)(H:Hp)(a:Addr)(xs:ň):Prop :=
 Rd H a (.lst xs) \/
  ∃(o:Obj)(its:Array Value)(n:Nat),K.lookup a=some o/\o.cls=.type "list"/\o.dict=none/\o.data=.seq its n/\its.size<=sizeLine/\Vals xs its.toList
def mW (K:zfq)(H:Hp)(a:Addr)(xs:ň):Prop :=
 Rd H a (.tup xs) \/
  ∃(o:Obj)(its:Array Value)(n:Nat),K.lookup a=some o/\o.cls=.type "tuple"/\o.data=.seq its n/\its.size<=sizeLine/\Vals xs its.toList
def Yh:Value->œ
 | .none=>some .non
 | .bool b=>some (.bl b)
 | .int i _=>some (.int i)
 | .str x _=>some (.str x)
 | .bytes b _=>some (.byt b)
 | .float b _=>some (.flt b)
 | .ref a=>some (.ref a)
 | .type n=>some (.ty n)
 | _=>none
def RelV.abs {x:V}{u:Value}(r:RelV x u):Yh u=some x:=by
 cases x with
 | non=>cases r;rfl
 | bl _=>cases r;rfl
 | int _=>obtain⟨t,rfl⟩:=r;rfl
 | str _=>obtain⟨t,rfl⟩:=r;rfl
 | byt _=>obtain⟨t,rfl⟩:=r;rfl
 | flt _=>obtain⟨t,rfl⟩:=r;rfl
 | ref _=>cases r;rfl
 | ty _=>cases r;rfl
def RelV.inj {x y:V}{u:Value}(r:RelV x u)(q:RelV y u):x=y:=bO (r.abs.symm.trans q.abs)
def Vals.inj:∀{xs ys:ň}{us:ņ},Vals xs us->Vals ys us->xs=ys
 | _,_,_,.nil,.nil=>rfl
 | _,_,_,.cons r t,.cons r' t'=>by rw[r.inj r',Vals.inj t t']
section
variable {X:Cx}{â:ł}{σ:St}{H:Hp}{s:Shared}{a:Addr}{xs ys:ň}
def mj.of {K:zfq}(h:H a=some (.lst xs)):mj K H a xs:=.inl (.inl h)
def mW.of {K:zfq}(h:H a=some (.tup xs)):mW K H a xs:=.inl (.inl h)
def Inv.list (I:Inv X â σ H s)(h:mj X.K H a xs):∃its:ņ,Vals xs its/\PlainL s.heap a its.toArray/\xs.length<=sizeLine:=by
 rcases h with h | ⟨o,its,n,hk,hc,hd,hs,hz,r⟩
 .obtain⟨z,its,n,r,e⟩:=h.ok I.hok;exact⟨its,r,⟨_,n,e,Z,Z,Z⟩,z⟩
 .refine⟨its.toList,r,⟨o,n,I.xO a o hk,hc,hd,by simpa using hs⟩,?_⟩;have e:=r.length;simp only[ġ] at e;omega
def Inv.tuple (I:Inv X â σ H s)(h:mW X.K H a xs):∃its:ņ,Vals xs its/\IsTup s.heap a its.toArray/\xs.length<=sizeLine:=by
 rcases h with h | ⟨o,its,n,hk,hc,hs,hz,r⟩
 .obtain⟨z,its,r,p⟩:=h.ok I.hok;exact⟨its,r,p,z⟩
 .refine⟨its.toList,r,⟨o,I.xO a o hk,hc,n,by simpa using hs⟩,?_⟩;have e:=r.length;simp only[ġ] at e;omega
def Inv.vO (I:Inv X â σ H s)(h:mj X.K H a xs)(h':mj X.K H a ys):xs=ys:=by
 obtain⟨its,r,⟨o,n,e,_,_,d⟩,_⟩:=I.list h;obtain⟨its',r',⟨o',n',e',_,_,d'⟩,_⟩:=I.list h';rw[e] at e';cases e';rw[d] at d';injection d' with d1 _;have:its=its':=by simpa using congrArg ħ d1
 subst this;exact r.inj r'
def Inv.Ij (I:Inv X â σ H s)(h:mW X.K H a xs)(h':mW X.K H a ys):xs=ys:=by
 obtain⟨its,r,⟨o,e,_,n,d⟩,_⟩:=I.tuple h;obtain⟨its',r',⟨o',e',_,n',d'⟩,_⟩:=I.tuple h';rw[e] at e';cases e';rw[d] at d';injection d' with d1 _;have:its=its':=by simpa using congrArg ħ d1
 subst this;exact r.inj r'
end
abbrev Cx.xC (X:Cx)(E:ŝ):Cx:={ X with xe:=E }
abbrev Cx.IH (X:Cx):Cx:=X.xC fun _ _=>e8
def Cx.Ok.xC {X:Cx}(ok:X.Ok)(E:ŝ):(X.xC E).Ok :=
 ⟨ok.mod,ok.kind,ok.glob,ok.blt,ok.above,ok.inj,ok.has,ok.cab,ok.hd,ok.frames,ok.stk,ok.exf,ok.bs,ok.bsz,ok.noex,ok.exfs,ok.vU,ok.frf⟩
def Cx.Ok.rS {X:Cx}{E:ŝ}(ok:(X.xC E).Ok):X.Ok :=
 ⟨ok.mod,ok.kind,ok.glob,ok.blt,ok.above,ok.inj,ok.has,ok.cab,ok.hd,ok.frames,ok.stk,ok.exf,ok.bs,ok.bsz,ok.noex,ok.exfs,ok.vU,ok.frf⟩
section
variable {X:Cx}{â:ł}{σ:St}{H:Hp}{s:Shared}{E:ŝ}
def Inv.xC (I:Inv X â σ H s)(E:ŝ):Inv (X.xC E) â σ H s:=⟨I.ok.xC E,I.os,I.bare,I.base,I.loc,I.cell,I.free,I.freeC,I.pin,I.hok,I.len⟩
def Inv.rS (I:Inv (X.xC E) â σ H s):Inv X â σ H s:=⟨I.ok.rS,I.os,I.bare,I.base,I.loc,I.cell,I.free,I.freeC,I.pin,I.hok,I.len⟩
def SP.rS {D:Ends}{f:Flow}{s':Shared}(h:SP (X.xC E) â D f s'):SP X â D f s':=by
 cases f with
 | next=>obtain⟨nC,H',I,q⟩:=h;exact⟨nC,H',I.rS,q⟩
 | brk=>obtain⟨nC,H',I,q⟩:=h;exact⟨nC,H',I.rS,q⟩
 | cont=>obtain⟨nC,H',I,q⟩:=h;exact⟨nC,H',I.rS,q⟩
 | ret u=>obtain⟨v,nC,H',I,r,q⟩:=h;exact⟨v,nC,H',I.rS,r,q⟩
def PE.IH {e:Expr}{t:TE}(h:PE X.IH e t):PE X e t:=fun â s σ H Q I hw =>
 fL (h â s σ H Q (I.xC _) hw) (fun _ _ ⟨v,H',I',r,q⟩=>⟨v,H',I'.rS,r,q⟩) fun _ _ z=>ô z
def PT.IH {e:Expr}{t:TT}(h:PT X.IH e t):PT X e t:=fun â s σ H Q I hw =>
 fL (h â s σ H Q (I.xC _) hw) (fun _ _ ⟨H',I',q⟩=>⟨H',I'.rS,q⟩) fun _ _ z=>ô z
def xc.IH {st:List Stmt}{t:TS}(h:xc X.IH st t):xc X st t:=fun â s σ H D I hw =>
 fL (h â s σ H D (I.xC _) hw) (fun _ _ q=>q.rS) fun _ _ z=>ô z
end
section
variable {X:Cx}{st:Stmt}{rest:List Stmt}{t u:TS}{e:Expr}{te:TE}{pos:Pos}
def TX:TS:=fun D σ H=>D.nx σ H
def nX (t u:TS):TS:=fun D σ H=>t { D with nx:=u D } σ H
def mR:xc X [] TX:=fun _ _ σ H _ I h=>iP ⟨σ,H,I,h⟩
def lE (h1:PS X st t)(h2:xc X rest u):xc X (st::rest) (nX t u):=by
 intro â s σ H D I h;refine jx (oR (h1 â s σ H { D with nx:=u D } I h) fun f s1 q=>?_);cases f with
 | next =>
  obtain⟨nC,H',I',q⟩:=q;exact h2 â s1 nC H' D I' q
 | ret v=>exact q
 | brk=>exact q
 | cont=>exact q
def lL (h1:PS X st t):xc X [st] t:=by
 intro â s σ H D I h;refine jx (oR (h1 â s σ H D I h) fun f s1 q=>?_);cases f with
 | next=>exact iP q
 | ret v=>exact q
 | brk=>exact q
 | cont=>exact q
def Inv.quiet {â:ł}{σ:St}{H:Hp}{s:Shared}(I:Inv X â σ H s):interactive X.env=false:=by simp[interactive,I.ok.kind]
def SO (te:TE):TS:=fun D σ H=>te σ H fun _ H1=>D.nx σ H1
def oO (he:PE X e te)(hs:swapsWith e none pos.line X.env=pure false:=by rfl):PS X (.Expr e pos) (SO te):=by
 intro â s σ H D I h;exact wpAny_Expr_any (oR (he â s σ H _ I h) fun v s1 ⟨x,H1,I1,r1,q1⟩=>⟨σ,H1,I1,q1⟩) I.quiet hs
def X2 (te:TE):TS:=fun D σ H=>te σ H D.rt
def ma (he:PE X e te):PS X (.Return (some e) pos) (X2 te):=by
 intro â s σ H D I h;exact wpAny_Return_some (oR (he â s σ H _ I h) fun v s1 ⟨x,H1,I1,r1,q1⟩=>⟨x,σ,H1,I1,r1,q1⟩)
def YW (c:TT)(t u:TS):TS:=fun D σ H=>c σ H fun b H1=>if b=true then t D σ H1 else u D σ H1
def nw {c:Expr}{a b:List Stmt}{tc:TT}(hc:PT X c tc)(ha:xc X a t)(hb:xc X b u):PS X (.If c a b pos) (YW tc t u):=by
 intro â s σ H D I h;refine wpAny_If (oR (hc â s σ H _ I h) fun d s1 ⟨H1,I1,q1⟩=>?_);cases d with
 | true=>exact ha â s1 σ H1 D I1 q1
 | false=>exact hb â s1 σ H1 D I1 q1
def Ra:TS:=fun _ _ _=>e8
def rj:PS X st Ra:=fun _ _ _ _ _ _ h=>h.elim
end
abbrev TG:=V->St->Hp->(St->Hp->Prop)->Prop
abbrev Qa:=ň->St->Hp->(St->Hp->Prop)->Prop
def PG (X:Cx)(target:Expr)(t:TG):Prop :=
 ∀(â:ł)(s:Shared)(σ:St)(H:Hp)(v:V)(u:Value)(Q:St->Hp->Prop),Inv X â σ H s->RelV v u->t v σ H Q ->
  wpAny (model X.prog X.w) X.A (assign target X.env u) (fun _ s'=>∃nC H',Inv X â nC H' s'/\Q nC H') X.xe s
def Wu (X:Cx)(ts:ő)(t:Qa):Prop :=
 ∀(â:ł)(s:Shared)(σ:St)(H:Hp)(vs:ň)(us:ņ)(Q:St->Hp->Prop),Inv X â σ H s->Vals vs us->t vs σ H Q ->
  wpAny (model X.prog X.w) X.A (assignInOrder ((assignEach ts X.env).map (·.2)) us) (fun _ s'=>∃nC H',Inv X â nC H' s'/\Q nC H') X.xe s
abbrev Rk:=V->V->V->Hp->(Hp->Prop)->Prop
def Tt (X:Cx)(t:Rk):Prop :=
 ∀(â:ł)(s:Shared)(σ:St)(H:Hp)(o i v:V)(ov iv u:Value)(Q:Hp->Prop),Inv X â σ H s->RelV o ov->RelV i iv->RelV v u->t o i v H Q ->
  wpAny (model X.prog X.w) X.A (setItem ov iv u) (fun _ s'=>∃H',Inv X â σ H' s'/\Q H') X.xe s
section
variable {X:Cx}{pos:Pos}
def nu (i:Nat):TG:=fun v σ H Q=>Q (σ.set i (some v)) H
def qH {i:Nat}{x:Str}(hN:X.N.Nodup)(hi:X.N[i]?=some x)(hx:Loc X.env.scope x)(hf:X.fn x=true\/X.env.scope.names.lookup x=some .local:=by first | exact .inl Z | exact .inr Z | assumption):PG X (.Name x pos) (nu i):=by
 intro â s σ H v u Q I r h;exact wpAny_assign_Name (C5 I hN hi hx r (fun s' I'=>⟨_,H,I',h⟩) hf)
def M4:Qa:=fun vs σ H Q=>vs=[]/\Q σ H
def xk (t:TG)(u:Qa):Qa:=fun vs σ H Q=>∃v r,vs=v::r/\t v σ H fun nC H'=>u r nC H' Q
def oe:Wu X [] M4:=by
 intro â s σ H vs us Q I r h;obtain⟨e,h⟩:=h;subst e;cases r;exact assignInOrder_nil ⟨σ,H,I,h⟩
def mI {e:Expr}{es:ő}{t:TG}{u:Qa}(h1:PG X e t)(h2:Wu X es u)
  (hs:(assignEach (e::es) X.env).map (·.2)=assign e X.env::(assignEach es X.env).map (·.2):=by rfl):Wu X (e::es) (xk t u):=by
 intro â s σ H vs us Q I r h;obtain⟨v,vr,e1,h⟩:=h;subst e1;cases r with
 | cons r rr =>
  rw[hs];refine assignInOrder_cons (oR (h1 â s σ H _ _ _ I r h) fun _ s1 ⟨R9,H1,I1,q1⟩=>?_);exact h2 â s1 R9 H1 _ _ Q I1 rr q1
def M7 (K:zfq)(n:Nat)(t:Qa):TG:=fun v σ H Q=>∃a xs,v=.ref a/\mW K H a xs/\xs.length=n/\t xs σ H Q
def oY {es:ő}{k:Nat}{t:Qa}{n:Nat}(hc:X.calm=true)(h:Wu X es t)
  (hn:(assignEach es X.env).length=n:=by rfl)(uX:(assignEach es X.env).findIdx? (·.1)=none:=by rfl):PG X (.Tuple es k pos) (M7 X.K n t):=by
 intro â s σ H v u Q I r hw;obtain⟨a,xs,e1,hq,hl,hw⟩:=hw;subst e1;cases r;obtain⟨its,rv,ht,hz⟩:=I.tuple hq;refine assign_Tuple_tuple (I.ok.hd hc) ht (by simp[hn,<-hl,rv.length]) uX fun h' hx=>?_;have I1:Inv X â σ H { s with heap:=h' }:=I.kept (t':=s.toks) fun b o e=>hx b o (c9 (bZ e)) e;exact h â _ σ H xs _ Q I1 (by simpa using rv) hw
def Z4 (to ti:TE)(t:Rk):TG:=fun v σ H Q=>to σ H fun o H1=>ti σ H1 fun i H2=>t o i v H2 fun H3=>Q σ H3
def qZ {o i:Expr}{to ti:TE}{t:Rk}(ho:PE X o to)(hi:PE X i ti)(hs:Tt X t)
  (ha:∀v,assign (.Subscript o i pos) X.env v=(do
   let ov <-holding [v] (eval o X.env)
   let iv <-holding [v,ov] (eval i X.env)
   standAt pos
   holding [v,ov,iv] (setItem ov iv v)
   release [v,ov,iv] []):=by intro _;rfl):PG X (.Subscript o i pos) (Z4 to ti t):=by
 intro â s σ H v u Q I r h;rw[ha];refine bI (kd (oR (ho â s σ H _ I h) fun ov s1 ⟨x,H1,I1,r1,q1⟩=>?_));refine bI (kd (oR (hi â s1 σ H1 _ I1 q1) fun iv s2 ⟨y,H2,I2,r2,q2⟩=>?_));refine bI (ke (bI (kd (oR (hs â s2 σ H2 x y v ov iv u _ I2 r1 r2 r q2) fun _ s3 ⟨H3,I3,q3⟩=>?_))));exact wpAny_release ⟨σ,H3,I3,q3⟩
def JU (te:TE)(g:TG):TS:=fun D σ H=>te σ H fun x H1=>g x σ H1 D.nx
def rz {tg e:Expr}{te:TE}{g:TG}(he:PE X e te)(hg:PG X tg g)(hs:swapsWithSole [tg] e pos.line X.env=pure false:=by rfl)(hw:swappedStores [tg] e X.env=pure none:=by rfl)
  (h1:(assignEach [tg] X.env).map (·.2)=[assign tg X.env]:=by rfl):PS X (.Assign [tg] e pos) (JU te g):=by
 intro â s σ H D I h;refine wpAny_Assign_stores (oR (he â s σ H _ I h) fun v s1 ⟨x,H1,I1,r1,q1⟩=>?_) hs hw;rw[h1];exact oR (hg â s1 σ H1 x v _ I1 r1 q1) fun _ s2 q=>q
def Q8 {i:Nat}{x:Str}{e:Expr}{te:TE}{pos':Pos}(hN:X.N.Nodup)(hi:X.N[i]?=some x)(hx:Loc X.env.scope x)(he:PE X e te)(hs:swapsWith e (some (.Name x pos')) pos.line X.env=pure false:=by rfl)(hf:X.fn x=true\/X.env.scope.names.lookup x=some .local:=by first | exact .inl Z | exact .inr Z | assumption) :
  PS X (.Assign [.Name x pos'] e pos) (JU te (nu i)):=by
 intro â s σ H D I h;refine wpAny_Assign_Name (oR (he â s σ H _ I h) fun v s1 ⟨y,H1,I1,r1,q1⟩=>?_) hs;exact C5 I1 hN hi hx r1 (fun s2 I2=>⟨_,H1,I2,q1⟩) hf
end
section
variable {X:Cx}{pos:Pos}
def PX (c:TT)(tb:TS):TS:=fun D σ H=>∃W:Nat->St->Hp->Prop,(∃m,W m σ H)/\∀m σ H,W m σ H ->
 c σ H fun b H1=>if b=true then ∃N:St->Hp->Prop,(∀nC H',N nC H'->∃m',m'<m/\W m' nC H')/\tb { D with nx:=N,ct:=N,bk:=D.nx } σ H1 else D.nx σ H1
def oV {c:Expr}{body:List Stmt}{tc:TT}{tb:TS}(hp:PassesOwn (model X.prog X.w) X.A X.env X.xe)(hc:PT X c tc)(hb:xc X body tb):PS X (.While c body [] pos) (PX tc tb):=by
 intro â s σ H D I h;obtain⟨W,⟨m0,w0⟩,turn⟩:=h;refine wpAny_While (codeAny_whileLoop (fun n s'=>∃nC H',Inv X â nC H' s'/\W n nC H') ?_ m0 ⟨σ,H,I,w0⟩);rintro n s1 ⟨R9,H1,I1,w1⟩;refine ge hp (oR (hc â s1 R9 H1 _ I1 (turn n R9 H1 w1)) fun b s2 ⟨H2,I2,q2⟩=>?_);cases b with
 | true =>
  obtain⟨N,hN,q2⟩:=q2;rw[aA Z];refine ge hp (oR (hb â s2 R9 H2 _ I2 q2) fun f s3 q3=>?_);cases f with
  | next =>
   obtain⟨L5,H3,I3,n3⟩:=q3;obtain⟨m',hm,w3⟩:=hN L5 H3 n3;exact⟨m',hm,L5,H3,I3,w3⟩
  | cont =>
   obtain⟨L5,H3,I3,n3⟩:=q3;obtain⟨m',hm,w3⟩:=hN L5 H3 n3;exact⟨m',hm,L5,H3,I3,w3⟩
  | brk=>exact q3
  | ret v=>exact q3
 | false =>
  rw[ah b3];exact iP ⟨R9,H2,I2,q2⟩
end
structure It where
 go:Nat->Hp->Prop
 yld:Nat->Hp->V->Hp->Prop
 stop:Nat->Hp->Prop
def BD (X:Cx)(â:ł)(H:Hp)(b:Addr):Prop :=
 H b=none/\b≠X.env.locals/\b∉X.fs/\(b∈X.ex\/X.s₀.heap.objs.size<=b)/\(∀x c,X.env.cells.lookup x=some c->c≠b)/\∀p∈X.pn++â,p.1≠b
def Inv.Dy {X:Cx}{â:ł}{σ:St}{H H':Hp}{s:Shared}{b:Addr}(I:Inv X â σ H s)(hb:s.heap.objs.size<=b)(hn:H' b=none):BD X â H' b:=by
 refine⟨hn,iT (bK I.lt hb),I.XA hb,.inr (aS I.sz hb),fun x c e z=>?_,fun p hp z=>?_⟩
 .obtain⟨v,q⟩:=I.cell x c e;exact absurd (bK q.lt (by rw[z];exact hb)) (fD _)
 .exact absurd (bK (bZ (I.pin p hp).1) (by rw[z];exact hb)) (fD _)
structure Turn (P:Program)(w:World)(K:zfq)(tg:Expr)(J:It)(fp:ŋ)(it:Addr)(tn:Nat->Heap->Prop):Prop where
 mem:it∈fp
 obj:∀i h,tn i h->∀b∈fp,∃o,h.get? b=some o/\∀v,o.data≠.cell v
 keep:∀i h h',tn i h->(∀b∈fp,∀o,h.get? b=some o->h'.get? b=some o)->tn i h'
 item:∀(X:Cx),X.prog=P->X.w=w->X.K=K->X.calm=true->∀(i:Nat)(â:ł)(s:Shared)(σ:St)(H:Hp)(E:ŝ),Inv X â σ H s->(∀b∈fp,BD X â H b)->tn i s.heap->J.go i H ->
  wpAny (model P w) X.A (pyNext (.ref it)) (fun r s1=>∃u,r=some u /\
   wpAny (model P w) X.A (letOwnedTupleGo tg (.ref it) u) (fun _ s2=>∃x H',Inv X â σ H' s2/\RelV x u/\J.yld i H x H'/\tn (i+1) s2.heap/\∀b∈fp,H' b=none) E s1) E s
 done:∀(X:Cx),X.prog=P->X.w=w->X.K=K->X.calm=true->∀(i:Nat)(â:ł)(s:Shared)(σ:St)(H:Hp)(E:ŝ),Inv X â σ H s->(∀b∈fp,BD X â H b)->tn i s.heap->J.stop i H ->
  wpAny (model P w) X.A (pyNext (.ref it)) (fun r s1=>r=none/\Inv X â σ H s1) E s
 self:∀(A:Around)(i:Nat)(s:Shared)(Q:ŝ)(E:ŝ),tn i s.heap->Q (.ref it) s->wpAny (model P w) A (pyIter (.ref it)) Q E s
abbrev TI:=St->Hp->(It->Hp->Prop)->Prop
def PIE (X:Cx)(â:ł)(σ:St)(tg:Expr)(R:It->Hp->Prop)(Pi:Value)(s2:Shared):Prop :=
 ∃(it:Addr)(fp:ŋ)(tn:Nat->Heap->Prop)(J:It)(H':Hp),Pi=.ref it/\Inv X â σ H' s2/\Turn X.prog X.w X.K tg J fp it tn/\tn 0 s2.heap/\(∀b∈fp,BD X â H' b)/\R J H'
def PI (X:Cx)(tg iter:Expr)(wi:TI):Prop :=
 ∀(â:ł)(s:Shared)(σ:St)(H:Hp)(R:It->Hp->Prop),Inv X â σ H s->wi σ H R ->
  wpAny (model X.prog X.w) X.A (eval iter X.env) (fun v s1=>wpAny (model X.prog X.w) X.A (pyIter v) (PIE X â σ tg R) X.xe s1) X.xe s
def KN {M:Model}{A:Around}{E:ŝ}{s:Shared}{tg:Expr}{it:Addr}{u:Value}{o:Obj}{n:String}{vs:Array Value}{Q:Unit->Shared->Prop}(ho:s.heap.get? it=some o)(hc:o.cls=.type n)(hd:o.data=.fields vs)
    (hn:["enumerate","zip","dict_itemiterator","dict_reverseitemiterator","odict_iterator","itertools.zip_longest","itertools.pairwise"].contains n=false)(hQ:Q () s):wpAny M A (letOwnedTupleGo tg (.ref it) u) Q E s:=by
  unfold letOwnedTupleGo;cases tg<;>first
    | exact dh hQ
    | (cases u<;>first
        | exact dh hQ
        | (refine bI (wpAny_load ho ?_)
           rw[hc,hd];show wpAny M A (if (["enumerate","zip","dict_itemiterator","dict_reverseitemiterator","odict_iterator","itertools.zip_longest","itertools.pairwise"].contains n && vs[0]? == some (rawInt _))=true then _ else _) Q E s
           rw[ah (by intro h;rw[hn,Bool.false_and] at h;cases h)];exact dh hQ))
def N8 (K:zfq)(a:Addr):It :=
 ⟨fun i H=>∃xs x,mj K H a xs/\xs[i]?=some x,fun i H x H'=>H'=H/\∀xs,mj K H a xs->xs[i]?=some x,fun i H=>∃xs,mj K H a xs/\xs.length<=i⟩
def Ie (lo:Int)(n:Nat):It:=⟨fun i _=>i<n,fun i H x H'=>H'=H/\x=.int (lo+i),fun i _=>n<=i⟩
def HR {P:Program}{w:World}{K:zfq}{tg:Expr}(a it:Addr):Turn P w K tg (N8 K a) [it] it (fun i h=>h.IsListIter it a i) where
 mem:=by simp
 obj:=fun i h st b hb=>by
  have e:b=it:=by simpa using hb
  subst e;obtain⟨o,e,c,d⟩:=st;exact⟨o,e,fun v z=>by rw[d] at z;cases z⟩
 keep:=fun i h h' st k=>st.at fun o e=>k it lB o e
 item:=by
  intro X hP hw hK hc i â s σ H E I hf st hg;subst hP hw hK;obtain⟨xs,x,hq,hx⟩:=hg;obtain⟨its,rv,p,hz⟩:=I.list hq;obtain⟨u,hu,ru⟩:=rv.get hx;obtain⟨f0,f1,f2,f3,f4,f5⟩:=hf it lB;refine wpAny_pyNext_list_item st p.isList (x:=u) (by simpa using hu) fun h' Rp sb=>?_;have I1:Inv X â σ H { s with heap:=h' }:=I.turned (t':=s.toks) (fun b o hb e=>(sb.2 b hb).trans e) f0 f1 f3 f4 f5;obtain⟨o,e,c,d⟩:=id Rp;exact⟨u,Z,KN (s:={ s with heap:=h' }) e c d L ⟨x,H,I1,ru,⟨Z,fun ys hy=>by rw[I.vO hy hq];exact hx⟩,Rp,fun b hb=>(hf b hb).1⟩⟩
 done:=by
  intro X hP hw hK hc i â s σ H E I hf st hg;subst hP hw hK;obtain⟨xs,hq,hx⟩:=hg;obtain⟨its,rv,p,hz⟩:=I.list hq;obtain⟨f0,f1,f2,f3,f4,f5⟩:=hf it lB;have hl:=rv.length;exact wpAny_pyNext_list_end (I.ok.hd hc) st p.isList (by simp;omega) fun h' eb=>⟨Z,I.turned (t':=s.toks) (fun b o hb e=>eb b o hb e) f0 f1 f3 f4 f5⟩
 self:=fun _ _ _ _ _ st h=>wpAny_pyIter_listiter st h
def ES {P:Program}{w:World}{K:zfq}{tg:Expr}(it:Addr)(lo:Int)(n:Nat):Turn P w K tg (Ie lo n) [it] it (fun i h=>IsRangeIter h it (lo+(i:Nat)*1) ((n:Int)-(i:Nat)) 1) where
 mem:=by simp
 obj:=fun i h st b hb=>by
  have e:b=it:=by simpa using hb
  subst e;exact⟨_,st,fun v z=>by
   have z':Data.fields _=Data.cell v:=z;cases z'⟩
 keep:=fun i h h' st k=>k it lB _ st
 item:=by
  intro X hP hw hK hc i â s σ H E I hf st hg;subst hP hw hK;obtain⟨f0,f1,f2,f3,f4,f5⟩:=hf it lB;have W:=Walks.range (prog:=X.prog) (w:=X.w) (I.ok.hd hc) it lo 1 n;refine W.item i s _ _ hg st fun v h' tk hv Rp kk=>?_;obtain⟨t,rfl⟩:=hv;have I1:Inv X â σ H { s with heap:=h',toks:=tk }:=I.turned (fun b o hb e=>kk b o (by simpa using hb) e) f0 f1 f3 f4 f5;refine⟨_,Z,KN (s:={ s with heap:=h',toks:=tk }) (n:="range_iterator") Rp Z Z L ⟨.int (lo+i),H,I1,⟨t,?_⟩,⟨Z,Z⟩,Rp,fun b hb=>(hf b hb).1⟩⟩;rw[bX]
 done:=by
  intro X hP hw hK hc i â s σ H E I hf st hg;subst hP hw hK;obtain⟨f0,f1,f2,f3,f4,f5⟩:=hf it lB;exact ky (I.ok.hd hc) st (by have:n<=i:=hg;omega) fun h' eb=>⟨Z,I.turned (t':=s.toks) (fun b o hb e=>eb b o hb e) f0 f1 f3 f4 f5⟩
 self:=fun _ _ _ _ _ st h=>kC st h
section
variable {â:ł}{s:Shared}{fp:ŋ}
variable {X:Cx}{tg:Expr}
def TN (K:zfq)(tl:TE):TI:=fun σ H R=>tl σ H fun x H1=>∃a,x=.ref a/\(∃xs,mj K H1 a xs)/\R (N8 K a) H1
def mQ {l:Expr}{tl:TE}(hl:PE X l tl):PI X tg l (TN X.K tl):=by
 intro â s σ H R I h;refine oR (hl â s σ H _ I h) fun v s1 ⟨x,H1,I1,r1,q1⟩=>?_;obtain⟨a,e,⟨xs,hq⟩,q⟩:=q1;subst e;cases r1;obtain⟨its,rv,p,hz⟩:=I1.list hq;refine wpAny_pyIter_list p.isList ?_;refine⟨s1.heap.objs.size,[s1.heap.objs.size],_,_,H1,Z,I1.kept (t':=s1.toks) fun b o e=>aM _ e,HR a _,⟨_,bV _ Z,Z,Z⟩,fun b hb=>?_,q⟩;have e:b=s1.heap.objs.size:=by simpa using hb
 subst e;exact I1.Dy (aG _) (I1.hok.fresh (aG _))
def JP {σ:St}{H:Hp}{R:It->Hp->Prop}{E:ŝ}{lo hi:Int}{t u v:Tok}{tk:Nat}(I:Inv X â σ H s)(h1:-(2^62)<=lo)(h2:lo<2^62)(h3:-(2^62)<=hi)(h4:hi<2^62)
 (q:R (Ie lo (hi-lo).toNat) H):wpAny (model X.prog X.w) X.A (pyIter (.ref s.heap.objs.size)) (PIE X â σ tg R) E { s with heap:=s.heap.push { cls:=.type "range",data:=.fields #[.int lo t,.int hi u,.int 1 v] },toks:=tk }:=by
  refine wpAny_pyIter_range (kX ..) (small_one h1 h2 h3 h4) ?_;have I1:Inv X â σ H { s with heap:=s.heap.push { cls:=.type "range",data:=.fields #[.int lo t,.int hi u,.int 1 v] },toks:=tk }:=I.kept fun b o e=>aM _ e;refine⟨(s.heap.push { cls:=.type "range",data:=.fields #[.int lo t,.int hi u,.int 1 v] }).objs.size,[(s.heap.push { cls:=.type "range",data:=.fields #[.int lo t,.int hi u,.int 1 v] }).objs.size],_,_,H,Z,
    I1.kept (t':=tk) fun b o e=>aM _ e,ES _ lo (hi-lo).toNat,?_,fun b hb=>?_,q⟩
  · have e1:lo+((0:Nat):Int)*1=lo:=by simp
    have e2:(((hi-lo).toNat:Nat):Int)-((0:Nat):Int)=Builtin.Range.rangeSize lo hi 1:=by rw[rangeSize_one];split<;>omega
    show IsRangeIter _ _ (lo+((0:Nat):Int)*1) ((((hi-lo).toNat:Nat):Int)-((0:Nat):Int)) 1
    rw[e1,e2];exact bV _ Z
  · have e:b=(s.heap.push { cls:=.type "range",data:=.fields #[.int lo t,.int hi u,.int 1 v] }).objs.size:=by simpa using hb
    subst e;exact I1.Dy (aG _) (I1.hok.fresh (aG _))
def Ug (ta:TA):TI:=fun σ H R=>ta σ H fun vs H1=>∃j:Int,vs=[.int j]/\-(2^62)<=j/\j<2^62/\R (Ie 0 j.toNat) H1
def nK {a:Expr}{ta:TA}{p pos:Pos}(hg:Gl X "range")(hm:X.mg "range"=none)(ha:PA X [a] ta)(hs:starEach [a] X.env=[(false,eval a X.env)]:=by rfl):PI X tg (.Call (.Name "range" p) [a] [] pos) (Ug ta):=by
 intro â s σ H R I h;refine Call_ (rT I hg hm boot_range (cQ (oR (ha pos â s σ H _ I h) fun us s1 ⟨vs,H1,I1,r1,q1⟩=>?_) hs Z));obtain⟨j,e,q1,q2,q⟩:=q1;subst e;cases r1 with
 | cons r rr =>
  cases rr;obtain⟨t,rfl⟩:=r;exact call_range_1 (JP I1 lC lC q1 q2 (by simpa using q))
def Yo (wi:TI)(g:TG)(tb:TS):TS:=fun D σ H=>wi σ H fun J H1=>∃W:Nat->Nat->St->Hp->Prop,(∃m,W 0 m σ H1)/\∀i m σ H,W i m σ H ->
 (J.stop i H/\D.nx σ H)\/(J.go i H/\∃N:St->Hp->Prop,(∀nC H',N nC H'->∃m',m'<m/\W (i+1) m' nC H')/\∀x H',J.yld i H x H'->g x σ H' fun pK H2=>tb { D with nx:=N,ct:=N,bk:=D.nx } pK H2)
def yT (fp:ŋ)(h:Heap):ł:=fp.filterMap fun b=>(h.get? b).map fun o=>(b,o)
def vf {h:Heap}{b:Addr}{o:Obj}(hb:b∈fp)(e:h.get? b=some o):(b,o)∈yT fp h:=Ģ.mpr ⟨b,hb,by rw[e];rfl⟩
def HS {h:Heap}{p:Addr×Obj}(hp:p∈yT fp h):p.1∈fp/\h.get? p.1=some p.2:=by
 obtain⟨b,hb,e⟩:=Ģ.mp hp;cases q:h.get? b with
 | none=>rw[q] at e;cases e
 | some o =>
  rw[q] at e;have e':(b,o)=p:=bO e;subst e';exact⟨hb,q⟩
def Inv.pinned {σ:St}{H:Hp}(I:Inv X â σ H s)(hf:∀b∈fp,BD X â H b)(ho:∀b∈fp,∃o,s.heap.get? b=some o/\∀v,o.data≠.cell v):Inv X (â++yT fp s.heap) σ H s :=
 I.vz fun p hp=>(g9.mp hp).elim (fun z=>I.pin p (bP _ z)) fun z=>by
  obtain⟨hb,e⟩:=HS z;obtain⟨f0,f1,f2,_⟩:=hf p.1 hb;obtain⟨o,e',d⟩:=ho p.1 hb;rw[e] at e';cases e';exact⟨e,f0,f1,f2,d⟩
def Inv.yp {pl:ł}{σ:St}{H:Hp}(I:Inv X (â++pl) σ H s):Inv X â σ H s:=I.vz fun p hp=>I.pin p (bP _ (cX _ hp))
def nh {iter:Expr}{body:List Stmt}{wi:TI}{g:TG}{tb:TS}{pos:Pos}(hp:PassesOwn (model X.prog X.w) X.A X.env X.xe)(hc:X.calm=true)(hi:PI X tg iter wi)(hg:PG X tg g)(hb:xc X body tb)
 (hs:∀x,foldedSetIterable iter X.env x=pure x:=by intro _;rfl):PS X (.For tg iter body [] pos) (Yo wi g tb):=by
  intro â s σ H D I h;refine wpAny_For (oR (hi â s σ H _ I h) fun v s1 h1=>oR h1 fun Pi s2 h2=>?_) hs;obtain⟨it,fp,tn,J,H2,e,I2,T,Pj,f2,W,⟨m0,w0⟩,turn⟩:=h2;subst e
  -- what stays true of the Rq objects through the loop
  have Rr:∀{H':Hp},(∀b∈fp,H' b=none)->∀b∈fp,BD X â H' b:=fun hn b hb=>⟨hn b hb,(f2 b hb).2⟩;refine codeAny_forLoop_any (fun n s'=>∃i nC H',Inv X â nC H' s'/\tn i s'.heap/\(∀b∈fp,H' b=none)/\W i n nC H') ?_ m0 ⟨0,σ,H2,I2,Pj,fun b hb=>(f2 b hb).1,w0⟩;rintro n s3 ⟨i,L5,H3,I3,UZ,U0,w3⟩;rcases turn i n L5 H3 w3 with ⟨stop,qn⟩ | ⟨go,N,hN,step⟩
  · refine ge hp (oR (T.done X Z Z Z hc i â s3 L5 H3 X.xe I3 (Rr U0) UZ stop) fun r s4 ⟨hr,I4⟩=>?_)
    subst hr;exact iP ⟨L5,H3,I4,qn⟩
  · refine ge hp (oR (T.item X Z Z Z hc i â s3 L5 H3 X.xe I3 (Rr U0) UZ go) fun r s4 ⟨u,hr,h4⟩=>?_)
    subst hr;refine ge hp (oR h4 fun _ s5 ⟨x,H5,I5,r5,y5,Ol,fr5⟩=>?_);have I5':=I5.pinned (Rr fr5) (T.obj _ _ Ol);refine ge hp (oR (hg _ s5 L5 H5 x u _ I5' r5 (step x H5 y5)) fun _ s6 ⟨Sa,H6,I6,q6⟩=>?_);refine ge hp (oR (hb _ s6 Sa H6 _ I6 q6) fun f s7 q7=>?_);have again:∀{L6:St}{H7:Hp},Inv X (â++yT fp s5.heap) L6 H7 s7->N L6 H7->∃m,m<n/\∃i nC H',Inv X â nC H' s7/\tn i s7.heap/\(∀b∈fp,H' b=none)/\W i m nC H':=fun {L6 H7} I7 n7=>by
      obtain⟨m',hm,w7⟩:=hN L6 H7 n7;refine⟨m',hm,i+1,L6,H7,I7.yp,T.keep _ _ _ Ol fun b hb o e=>(I7.pin (b,o) (bP _ (bP _ (vf hb e)))).1,fun b hb=>?_,w7⟩;obtain⟨o,e,d⟩:=T.obj _ _ Ol b hb;exact(I7.pin (b,o) (bP _ (bP _ (vf hb e)))).2.1
    cases f with
    | next=>obtain⟨L6,H7,I7,n7⟩:=q7;exact again I7 n7
    | cont=>obtain⟨L6,H7,I7,n7⟩:=q7;exact again I7 n7
    | brk=>obtain⟨L6,H7,I7,q7⟩:=q7;exact⟨L6,H7,I7.yp,q7⟩
    | ret v=>obtain⟨x7,L6,H7,I7,r7,q7⟩:=q7;exact⟨x7,L6,H7,I7.yp,r7,q7⟩
end
def om {K:zfq}{a:Addr}{xs:ň}{g:TG}{tb:TS}{D:Ends}{σ:St}{H:Hp}(Pv:Nat->St->Hp->Prop)(h0:Pv 0 σ H)(hl:∀i σ H,i<=xs.length->Pv i σ H->mj K H a xs)
  (hs:∀i x σ H,xs[i]?=some x->Pv i σ H->g x σ H fun pK H2=>tb { D with nx:=Pv (i+1),ct:=Pv (i+1),bk:=D.nx } pK H2)(hd:∀σ H,Pv xs.length σ H->D.nx σ H) :
  ∃W:Nat->Nat->St->Hp->Prop,(∃m,W 0 m σ H)/\∀i m σ H,W i m σ H ->
   ((N8 K a).stop i H/\D.nx σ H)\/((N8 K a).go i H/\∃N:St->Hp->Prop,(∀nC H',N nC H'->∃m',m'<m/\W (i+1) m' nC H')/\∀x H',(N8 K a).yld i H x H'->g x σ H' fun pK H2=>tb { D with nx:=N,ct:=N,bk:=D.nx } pK H2):=by
 refine⟨fun i m σ H=>m=xs.length-i/\i<=xs.length/\Pv i σ H,⟨xs.length,lB,ý _,h0⟩,?_⟩;rintro i m σ H ⟨rfl,hi,p⟩;have q:=hl i σ H hi p
 by_cases rK:i<xs.length
 .refine .inr ⟨⟨xs,xs[i],q,by simp[rK]⟩,Pv (i+1),fun nC H' p'=>⟨xs.length-(i+1),lC,Z,rK,p'⟩,fun x H' y=>?_⟩;obtain⟨e,y⟩:=y;subst e;exact hs i x σ _ (y xs q) p
 .have e:i=xs.length:=lC;subst e;exact .inl ⟨⟨xs,q,aG _⟩,hd σ H p⟩
def Hq {lo:Int}{n:Nat}{g:TG}{tb:TS}{D:Ends}{σ:St}{H:Hp}(Pv:Nat->St->Hp->Prop)(h0:Pv 0 σ H)
  (hs:∀i σ H,i<n->Pv i σ H->g (.int (lo+i)) σ H fun pK H2=>tb { D with nx:=Pv (i+1),ct:=Pv (i+1),bk:=D.nx } pK H2)(hd:∀σ H,Pv n σ H->D.nx σ H) :
  ∃W:Nat->Nat->St->Hp->Prop,(∃m,W 0 m σ H)/\∀i m σ H,W i m σ H ->
   ((Ie lo n).stop i H/\D.nx σ H)\/((Ie lo n).go i H/\∃N:St->Hp->Prop,(∀nC H',N nC H'->∃m',m'<m/\W (i+1) m' nC H')/\∀x H',(Ie lo n).yld i H x H'->g x σ H' fun pK H2=>tb { D with nx:=N,ct:=N,bk:=D.nx } pK H2):=by
 refine⟨fun i m σ H=>m=n-i/\i<=n/\Pv i σ H,⟨n,lB,ý _,h0⟩,?_⟩;rintro i m σ H ⟨rfl,hi,p⟩
 by_cases rK:i<n
 .refine .inr ⟨rK,Pv (i+1),fun nC H' p'=>⟨n-(i+1),lC,Z,rK,p'⟩,fun x H' y=>?_⟩;obtain⟨e,y⟩:=y;subst e y;exact hs i σ _ rK p
 .have e:i=n:=lC;subst e;exact .inl ⟨aG _,hd σ H p⟩
abbrev R2:=V->V->Hp->VK->Prop
def wy (X:Cx)(f:Value->Value->Sem Value)(r:R2):Prop :=
 ∀(â:ł)(s:Shared)(σ:St)(H:Hp)(x y:V)(v u:Value)(Q:VK),Inv X â σ H s->RelV x v->RelV y u->r x y H Q ->
  wpAny (model X.prog X.w) X.A (f v u) (EP X â σ Q) X.xe s
def UnR (X:Cx)(f:Value->Sem Value)(r:V->Hp->VK->Prop):Prop :=
 ∀(â:ł)(s:Shared)(σ:St)(H:Hp)(x:V)(v:Value)(Q:VK),Inv X â σ H s->RelV x v->r x H Q ->
  wpAny (model X.prog X.w) X.A (f v) (EP X â σ Q) X.xe s
def r8 (X:Cx)(f:Value)(r:ň->Hp->VK->Prop):Prop :=
 ∀(â:ł)(s:Shared)(σ:St)(H:Hp)(xs:ň)(us:ņ)(Q:VK),Inv X â σ H s->Vals xs us->r xs H Q ->
  wpAny (model X.prog X.w) X.A (call f us) (EP X â σ Q) X.xe s
def R1 (r:R2)(ta tb:TE):TE:=fun σ H Q=>ta σ H fun x H1=>tb σ H1 fun y H2=>r x y H2 Q
def tUn (r:V->Hp->VK->Prop)(ta:TE):TE:=fun σ H Q=>ta σ H fun x H1=>r x H1 Q
def rI (C:Int->Int->Prop)(g:Int->Int->V):R2:=fun x y H Q=>∃i j,x=.int i/\y=.int j/\C i j/\Q (g i j) H
def O3 (g:Int->Int->V):R2:=fun x y H Q=>∃i j,x=.int i/\y=.int j/\Q (g i j) H
def rU (g:Int->V):V->Hp->VK->Prop:=fun x H Q=>∃i,x=.int i/\Q (g i) H
section
variable {f:Value->Value->Sem Value}{g:ŗ}
variable {X:Cx}{a b:Expr}{ta tb:TE}{pos:Pos}
def QL (ha:PE X a ta)(hb:PE X b tb){â:ł}{s:Shared}{σ:St}{H:Hp}{R:V->V->Hp->Prop}(I:Inv X â σ H s)
 (h:ta σ H fun x H1=>tb σ H1 fun y H2=>R x y H2){Q:ŝ}
 (hf:∀v u s2 x y H2,Inv X â σ H2 s2->RelV x v->RelV y u->R x y H2->wpAny (model X.prog X.w) X.A (f v u) Q X.xe s2) :
    wpAny (model X.prog X.w) X.A (eval a X.env) (fun v s₁=>wpAny (model X.prog X.w) X.A (eval b X.env) (fun u zaO=>wpAny (model X.prog X.w) X.A (f v u) Q X.xe zaO) X.xe s₁) X.xe s:=by
  refine oR (ha â s σ H _ I h) fun v s1 ⟨x,H1,I1,r1,q1⟩=>?_;refine oR (hb â s1 σ H1 _ I1 q1) fun u s2 ⟨y,H2,I2,r2,q2⟩=>?_;exact hf v u s2 x y H2 I2 r1 r2 q2
def lY {op:Operator}{r:R2}(ho:wy X (binaryOp op) r)(ha:PE X a ta)(hb:PE X b tb):PE X (.BinOp a op b pos) (R1 r ta tb):=by
 intro â s σ H Q I h;exact wpAny_BinOp (QL ha hb I h fun v u s2 x y H2 I2 rx ry q=>ho â s2 σ H2 x y v u Q I2 rx ry q)
def tD {op:UnaryOp}{r:V->Hp->VK->Prop}(ho:UnR X (unaryOp op) r)(ha:PE X a ta):PE X (.UnaryOp op a pos) (tUn r ta):=by
 intro â s σ H Q I h;exact UnaryOp_ (oR (ha â s σ H _ I h) fun v s1 ⟨x,H1,I1,r1,q1⟩=>ho â s1 σ H1 x v Q I1 r1 q1)
def R7 {C:Int->Int->Prop}
 (rule:∀(i j:Int)(t u:Tok)(s:Shared)(Q:ŝ)(E:ŝ),C i j->Q (.int (g i j) s.toks) { s with toks:=s.toks+1 }->wpAny (model X.prog X.w) X.A (f (.int i t) (.int j u)) Q E s) :
    wy X f (rI C fun i j=>.int (g i j)):=by
  intro â s σ H x y v u Q I rx ry h;obtain⟨i,j,rfl,rfl,hc,q⟩:=h;obtain⟨t,rfl⟩:=rx;obtain⟨t',rfl⟩:=ry;exact rule i j t t' s _ _ hc ⟨.int (g i j),H,I.tok _,⟨_,Z⟩,q⟩
def T9
 (rule:∀(i j:Int)(t u:Tok)(s:Shared)(Q:ŝ)(E:ŝ),Q (.int (g i j) s.toks) { s with toks:=s.toks+1 }->wpAny (model X.prog X.w) X.A (f (.int i t) (.int j u)) Q E s) :
    wy X f (O3 fun i j=>.int (g i j)):=by
  intro â s σ H x y v u Q I rx ry h;obtain⟨i,j,rfl,rfl,q⟩:=h;obtain⟨t,rfl⟩:=rx;obtain⟨t',rfl⟩:=ry;exact rule i j t t' s _ _ ⟨.int (g i j),H,I.tok _,⟨_,Z⟩,q⟩
def N0 {g:Int->Int->Bool}
 (rule:∀(i j:Int)(t u:Tok)(s:Shared)(Q:ŝ)(E:ŝ),Q (.bool (g i j)) s->wpAny (model X.prog X.w) X.A (f (.int i t) (.int j u)) Q E s) :
    wy X f (O3 fun i j=>.bl (g i j)):=by
  intro â s σ H x y v u Q I rx ry h;obtain⟨i,j,rfl,rfl,q⟩:=h;obtain⟨t,rfl⟩:=rx;obtain⟨t',rfl⟩:=ry;exact rule i j t t' s _ _ ⟨.bl (g i j),H,I,Z,q⟩
def SX (i j:Int):Prop:=0<=j/\j<=1000000/\i.natAbs<2^64
def TB (i j:Int):Prop:=(-(2^64)<i/\i<2^64)\/(-(2^64)<j/\j<2^64)
def TB.ok {i j:Int}(h:TB i j):IntMulOk i j:=by
 rcases h with ⟨h1,h2⟩ | ⟨h1,h2⟩
 .exact .of_left (gR h1 h2)
 .exact .of_right (gR h1 h2)
def EU (k:Nat):(0:Int)<=2^k:=by
 rw[two_pow_cast];exact kf _
def mY:wy X (binaryOp .Add) (O3 fun i j=>.int (i+j)):=T9 fun _ _ _ _ _ _ _ q=>add_int q
def oU:wy X (binaryOp .Sub) (O3 fun i j=>.int (i-j)):=T9 fun _ _ _ _ _ _ _ q=>sub_int q
def m3:wy X (binaryOp .Mod) (rI (fun _ j=>0<j) fun i j=>.int (i%j)):=R7 fun i j _ _ _ _ _ hc q=>by
 have h1:(0:Int)<j:=hc;exact mod_int' lC (by rw[dF i lC];exact q)
def Ba:wy X (binaryOp .Pow) (rI SX fun i j=>.int (i^j.toNat)):=R7 fun _ _ _ _ _ _ _ hc q=>pow_int_small hc.1 hc.2.1 hc.2.2 q
def K7:wy X (binaryOp .RShift) (rI (fun _ j=>0<=j) fun i j=>.int (i/2^j.toNat)):=R7 fun i j _ _ _ _ _ hc q =>
 rshift_int hc (by rw[fk i (EU _)];exact q)
def unI {f:Value->Sem Value}{g:ř}
 (rule:∀(i:Int)(t:Tok)(s:Shared)(Q:ŝ)(E:ŝ),Q (.int (g i) s.toks) { s with toks:=s.toks+1 }->wpAny (model X.prog X.w) X.A (f (.int i t)) Q E s) :
    UnR X f (rU fun i=>.int (g i)):=by
  intro â s σ H x v Q I rx h;obtain⟨i,rfl,q⟩:=h;obtain⟨t,rfl⟩:=rx;exact rule i t s _ _ ⟨.int (g i),H,I.tok _,⟨_,Z⟩,q⟩
def qO:UnR X (unaryOp .USub) (rU fun i=>.int (-i)):=unI fun _ _ _ _ _ q=>neg_int q
end
def SU:V->V->Bool
 | .non,.non=>true | .non,.int _=>true | .int _,.non=>true | .non,.bl _=>true | .bl _,.non=>true | .non,.str _=>true | .str _,.non=>true
 | .int _,.int _=>true | .bl _,.bl _=>true | .str _,.str _=>true | .byt _,.byt _=>true
 | .int _,.str _=>true | .str _,.int _=>true | .bl _,.str _=>true | .str _,.bl _=>true
 | _,_=>false
def rEq:R2:=fun x y H Q=>SU x y=true/\Q (.bl (decide (x=y))) H
def rNe:R2:=fun x y H Q=>SU x y=true/\Q (.bl (!decide (x=y))) H
def Gh {i j:Int}:decide (V.int i=V.int j)=(i == j):=by
 rw[fT];simp
def Jt {i j:Bool}:decide (V.bl i=V.bl j)=(i == j):=by
 rw[fT];simp
def Fy {i j:Str}:decide (V.str i=V.str j)=(i == j):=by
 rw[fT];simp
def FS {i j:Array UInt8}:decide (V.byt i=V.byt j)=(i.toList == j.toList):=by
 rw[fT];cases i;cases j;simp
section
variable {X:Cx}{a b c:Expr}{ta tb:TE}{pos:Pos}
def nq {â:ł}{σ:St}{H:Hp}{s:Shared}{Q:VK}{k k':Bool}(I:Inv X â σ H s)(q:Q (.bl k) H)(e:k=k'):EP X â σ Q (.bool k') s:=by
 subst e;exact⟨.bl k,H,I,Z,q⟩
def pX:wy X (compareOp .Eq) rEq:=by
 intro â s σ H x y v u Q I rx ry h;obtain⟨hs,q⟩:=h;cases x with
 | non =>
  cases rx;cases y with
  | non=>cases ry;exact PySem.EqNone.eq_none_none (nq I q lB)
  | bl j=>cases ry;exact PySem.EqNone.eq_none_bool (nq I q lB)
  | int j=>obtain⟨t',rfl⟩:=ry;exact PySem.EqNone.eq_none_int (nq I q lB)
  | str j=>obtain⟨t',rfl⟩:=ry;exact PySem.EqNone.eq_none_str (nq I q lB)
  | _=>exact absurd (show false=true from hs) b3
 | bl i =>
  cases rx;cases y with
  | non=>cases ry;exact PySem.EqNone.eq_bool_none (nq I q lB)
  | bl j=>cases ry;exact eq_bool (nq I q Jt)
  | str j=>obtain⟨t',rfl⟩:=ry;exact PySem.EqMixed.eq_bool_str (nq I q lB)
  | _=>exact absurd (show false=true from hs) b3
 | int i =>
  obtain⟨t,rfl⟩:=rx;cases y with
  | non=>cases ry;exact PySem.EqNone.eq_int_none (nq I q lB)
  | int j=>obtain⟨t',rfl⟩:=ry;exact eq_int (nq I q Gh)
  | str j=>obtain⟨t',rfl⟩:=ry;exact PySem.EqMixed.eq_int_str (nq I q lB)
  | _=>exact absurd (show false=true from hs) b3
 | str i =>
  obtain⟨t,rfl⟩:=rx;cases y with
  | non=>cases ry;exact PySem.EqNone.eq_str_none (nq I q lB)
  | bl j=>cases ry;exact PySem.EqMixed.eq_str_bool (nq I q lB)
  | int j=>obtain⟨t',rfl⟩:=ry;exact PySem.EqMixed.eq_str_int (nq I q lB)
  | str j=>obtain⟨t',rfl⟩:=ry;exact eq_str (nq I q Fy)
  | _=>exact absurd (show false=true from hs) b3
 | byt i =>
  obtain⟨t,rfl⟩:=rx;cases y with
  | byt j=>obtain⟨t',rfl⟩:=ry;exact PySem.W.eq_bytes (nq I q FS)
  | _=>exact absurd (show false=true from hs) b3
 | _=>cases y<;>exact absurd (show false=true from hs) Ħ
def qK:wy X (compareOp .NotEq) rNe:=by
 intro â s σ H x y v u Q I rx ry h;obtain⟨hs,q⟩:=h;cases x with
 | non =>
  cases rx;cases y with
  | non=>cases ry;exact PySem.EqNone.ne_none_none (nq I q lB)
  | bl j=>cases ry;exact PySem.EqNone.ne_none_bool (nq I q lB)
  | int j=>obtain⟨t',rfl⟩:=ry;exact PySem.EqNone.ne_none_int (nq I q lB)
  | str j=>obtain⟨t',rfl⟩:=ry;exact PySem.EqNone.ne_none_str (nq I q lB)
  | _=>exact absurd (show false=true from hs) b3
 | bl i =>
  cases rx;cases y with
  | non=>cases ry;exact PySem.EqNone.ne_bool_none (nq I q lB)
  | bl j=>cases ry;exact ne_bool (nq I q (congrArg not Jt))
  | str j=>obtain⟨t',rfl⟩:=ry;exact PySem.EqMixed.ne_bool_str (nq I q lB)
  | _=>exact absurd (show false=true from hs) b3
 | int i =>
  obtain⟨t,rfl⟩:=rx;cases y with
  | non=>cases ry;exact PySem.EqNone.ne_int_none (nq I q lB)
  | int j=>obtain⟨t',rfl⟩:=ry;exact ne_int (nq I q (congrArg not Gh))
  | str j=>obtain⟨t',rfl⟩:=ry;exact PySem.EqMixed.ne_int_str (nq I q lB)
  | _=>exact absurd (show false=true from hs) b3
 | str i =>
  obtain⟨t,rfl⟩:=rx;cases y with
  | non=>cases ry;exact PySem.EqNone.ne_str_none (nq I q lB)
  | bl j=>cases ry;exact PySem.EqMixed.ne_str_bool (nq I q lB)
  | int j=>obtain⟨t',rfl⟩:=ry;exact PySem.EqMixed.ne_str_int (nq I q lB)
  | str j=>obtain⟨t',rfl⟩:=ry;exact ne_str (nq I q (congrArg not Fy))
  | _=>exact absurd (show false=true from hs) b3
 | byt i =>
  obtain⟨t,rfl⟩:=rx;cases y with
  | byt j=>obtain⟨t',rfl⟩:=ry;exact PySem.W.ne_bytes (nq I q (congrArg not FS))
  | _=>exact absurd (show false=true from hs) b3
 | _=>cases y<;>exact absurd (show false=true from hs) Ħ
def FU:wy X (compareOp .Lt) (O3 fun i j=>.bl (decide (i<j))):=N0 fun _ _ _ _ _ _ _ q=>lt_int q
def Gq:wy X (compareOp .LtE) (O3 fun i j=>.bl (decide (i<=j))):=N0 fun _ _ _ _ _ _ _ q=>le_int q
def uO:wy X (compareOp .Gt) (O3 fun i j=>.bl (decide (j<i))):=N0 fun _ _ _ _ _ _ _ q=>gt_int q
def OK:wy X (compareOp .GtE) (O3 fun i j=>.bl (decide (j<=i))):=N0 fun _ _ _ _ _ _ _ q=>ge_int q
def BI:wy X (compareOp .Is) (fun x y H Q=>y=.non/\Q (.bl (decide (x=.non))) H):=by
 intro â s σ H x y v u Q I rx ry h;obtain⟨rfl,q⟩:=h;cases ry;refine is_none_gen (nq I q ?_);cases x<;>first
  | (cases rx;rfl)
  | (obtain⟨t,rfl⟩:=rx;rfl)
def Nx:wy X (compareOp .IsNot) (fun x y H Q=>y=.non/\Q (.bl (!decide (x=.non))) H):=by
 intro â s σ H x y v u Q I rx ry h;obtain⟨rfl,q⟩:=h;cases ry;refine isnot_none_gen (nq I q ?_);cases x<;>first
  | (cases rx;rfl)
  | (obtain⟨t,rfl⟩:=rx;rfl)
def pQ (b:Expr){op:CmpOp}(h:op≠.In:=by decide)(h2:op≠.NotIn:=by decide):behindInMarks op b=false:=by
 have e1:(op == CmpOp.In)=false:=by cases op<;>first | rfl | exact absurd Z h
 have e2:(op == CmpOp.NotIn)=false:=by cases op<;>first | rfl | exact absurd Z h2
 cases b<;>simp[behindInMarks,e1,e2]
def oP {op:CmpOp}{r:R2}(ho:wy X (compareOp op) r)(ha:PE X a ta)(hb:PE X b tb)(hm:behindInMarks op b=false):PE X (.Compare a [op] [b] pos) (R1 r ta tb):=by
 intro â s σ H Q I h;exact wpAny_Compare1 (QL ha hb I h fun v u s2 x y H2 I2 rx ry q=>ho â s2 σ H2 x y v u Q I2 rx ry q) hm
def Pd (t:TE):TT:=fun σ H Q=>t σ H fun x H'=>∃k,x=.bl k/\Q k H'
def Nc {op:CmpOp}{r:R2}(ho:wy X (compareOp op) r)(ha:PE X a ta)(hb:PE X b tb)(hm:behindInMarks op b=false):PT X (.Compare a [op] [b] pos) (Pd (R1 r ta tb)):=by
 intro â s σ H Q I h;refine wpAny_isTrue_Compare1 (oR (ha â s σ H _ I h) fun v s1 ⟨x,H1,I1,r1,q1⟩=>oR (hb â s1 σ H1 _ I1 q1) fun u s2 ⟨y,H2,I2,r2,q2⟩ =>
  oR (ho â s2 σ H2 x y v u _ I2 r1 r2 q2) fun c s3 ⟨z,H3,I3,r3,k,e,q3⟩=>?_) hm
 subst e;cases r3;exact gZ ⟨H3,I3,q3⟩
def A7:(sizeLine:Nat)<2^63:=by rw[sizeLine_eq];decide
def vals1 {x:V}{us:ņ}(r:Vals [x] us):∃u,us=[u]/\RelV x u:=by
 cases r with
 | cons r1 r2=>cases r2;exact⟨_,Z,r1⟩
def vals2 {x y:V}{us:ņ}(r:Vals [x,y] us):∃u w',us=[u,w']/\RelV x u/\RelV y w':=by
 cases r with
 | cons r1 r2 =>
  cases r2 with
  | cons r3 r4=>cases r4;exact⟨_,_,Z,r1,r3⟩
def qM:r8 X (.builtin "abs") (fun xs H Q=>∃i,xs=[.int i]/\Q (.int (if i<0 then -i else i)) H):=by
 intro â s σ H xs us Q I r h;obtain⟨i,rfl,q⟩:=h;obtain⟨u,rfl,t,rfl⟩:=vals1 r;exact call_abs_int fun u tk=>⟨.int (if i<0 then -i else i),H,I.tok _,⟨_,Z⟩,q⟩
def Ap (hc:X.calm=true):r8 X (.builtin "max") (fun xs H Q=>∃i j,xs=[.int i,.int j]/\Q (.int (if j > i then j else i)) H):=by
 intro â s σ H xs us Q I r h;obtain⟨i,j,rfl,q⟩:=h;obtain⟨u,w',rfl,⟨t,rfl⟩,⟨t',rfl⟩⟩:=vals2 r;refine max_two_ints (I.ok.hd hc) fun h' tk k=>⟨_,H,I.kept k,?_,q⟩
 by_cases hj:j > i
 .rw[aA hj,aA hj];exact⟨_,Z⟩
 .rw[ah hj,ah hj];exact⟨_,Z⟩
def G7 (hc:X.calm=true):r8 X (.builtin "min") (fun xs H Q=>∃i j,xs=[.int i,.int j]/\Q (.int (if j<i then j else i)) H):=by
 intro â s σ H xs us Q I r h;obtain⟨i,j,rfl,q⟩:=h;obtain⟨u,w',rfl,⟨t,rfl⟩,⟨t',rfl⟩⟩:=vals2 r;refine min_two_ints (I.ok.hd hc) fun h' tk k=>⟨_,H,I.kept k,?_,q⟩
 by_cases hj:j<i
 .rw[aA hj,aA hj];exact⟨_,Z⟩
 .rw[ah hj,ah hj];exact⟨_,Z⟩
end
structure EA (h:Heap)(x dx C:Addr)(mA:ś):Prop where
 obj:h.get? x=some (PySem.W.instObj C dx)
 ns:h.Ns1 dx mA
 ne:dx≠x
def Ix {h:Heap}{dx:Addr}{mA:ś}(n:h.Ns1 dx mA):∃od,h.get? dx=some od/\∀name,PySem.W.lookIn name od=some (mA name):=by
 obtain⟨o,es,ep,ho,hd,hk,_,hm⟩:=n;refine⟨o,ho,fun name=>?_⟩;have e:=hm name;unfold nsFind findBy at e;rw[<-Array.find?_toList] at e;unfold PySem.W.lookIn;rw[hd];dsimp only;split
 .rename_i y q;rw[q] at e;exact cA some e
 .rename_i q;rw[q] at e;have a:es.toList.any (·.refKey)=false:=by
   rw[List.any_eq_false];intro y hy;obtain⟨z,t,zaP⟩:=hk y (Array.mem_toList_iff.mp hy);simp[DictEntry.refKey,zaP]
  have a':¬es.toList.any (·.refKey)=true:=by rw[a];exact b3
  rw[ah a'];exact cA some e
def EA.look {h:Heap}{x dx C:Addr}{mA:ś}(I:EA h x dx C mA):∃od,PySem.W.InstAt h x (PySem.W.instObj C dx) C (some od)/\∀name,PySem.W.lookIn name od=some (mA name) :=
 let ⟨od,ho,hl⟩:=Ix I.ns
 ⟨od,⟨I.obj,Z,Z,ho⟩,hl⟩
section
variable {prog:Program}{w:World}{A:Around}{E:ŝ}{s:Shared}{K:zfq}{x dx C f:Addr}{mA:ś}{name:Str}{v:Value}
def get_map {expr:Bool}{Q:ŝ}(X:K.In s.heap)(I:EA s.heap x dx C mA)(hg:PySem.W.plainGet K C name=true)(hh:PySem.W.hasDictIn K C=true)
  (ha:PySem.W.findIn K (.ref C) name=some none)(hv:mA name=some v)(hv':PySem.W.handedIn v=true)(h:Q v { s with toks:=s.toks+1 }) :
  wpAny (model prog w) A (getAttr (.ref x) name expr) Q E s:=by
 obtain⟨od,J,hl⟩:=I.look;exact PySem.W.get_value X J (iM hg).1 (PySem.W.findObj_own hh ha Z (by rw[hl,hv])) hv' h
def K8 {pl:Sem Bool}{Q:Value×ņ->Shared->Prop}(X:K.In s.heap)(I:EA s.heap x dx C mA)(hg:PySem.W.plainGet K C name=true)
  (hf:PySem.W.findIn K (.ref C) name=some (some (.ref f)))(ht:PySem.W.isFn K (.ref f)=true)(hv:mA name=none)(h:Q (.ref f,[.ref x]) s) :
  wpAny (model prog w) A (getMethod (.ref x) name pl) Q E s:=by
 obtain⟨od,J,hl⟩:=I.look;exact PySem.W.method_fn X J (iM hg).1 (iM hg).2 hf (iR.mp ht) (by show (PySem.W.lookIn name od).map (·.isSome)=some false;rw[hl,hv];rfl) h
def NK {ns:ō}{Q:Unit->Shared->Prop}(X:K.In s.heap)(I:EA s.heap x dx C mA)
  (hs:PySem.W.findIn K (.ref C) "__setattr__"=some (some (.builtin "object.__setattr__")))(hp:PySem.W.plainOver K C=true)(ht:PySem.W.takerIn K C name=some none)(hh:PySem.W.hasDictIn K C=true)
  (hw:PySem.Within mA ns)(hsz:ns.length<=sizeLine)
  (h:∀h',EA h' x dx C (fun y=>if y=name then some v else mA y)->Heap.SameBut dx s.heap h'->Q () { s with heap:=h',toks:=s.toks+2 }) :
  wpAny (model prog w) A (setAttr (.ref x) name v) Q E s:=by
 obtain⟨od,J,hl⟩:=I.look;refine PySem.W.set_plain X J hs (PySem.W.osa_open (s:={ s with toks:=s.toks+1 }) (r:=none) X J hp ht fun b=>?_);obtain⟨cd,hc,GS⟩:=PySem.W.any_some hh;have hx:s.heap.get? x=some ⟨.ref C,some dx,.plain,#[]⟩:=I.obj;refine bI (dh (bI (bI (wpAny_loadPart hx (bI (PySem.W.Looks.here (s:={ s with toks:=s.toks+1 }) (PySem.W.looks_clsIn X hc) ?_))))));rw[GS];refine dh (a:=some dx) (bI (dh (bI ?_)));refine wpAny_nsSet1 (s:={ s with toks:=s.toks+1 }) I.ns fun h' WD hs2=>?_;obtain⟨oD,esD,epD,hoD,hdD,hcD⟩:=WD.count (PySem.Within.cons name v hw);refine bI (wpAny_lookBehind hoD (by rw[hdD];exact pastItsLine_dict (aS hcD (by rw[bJ];omega))) ?_);exact dh (h _ ⟨(hs2.2 _ (dR I.ne)).trans I.obj,WD,I.ne⟩ hs2)
def KB {R:Result->Shared->Prop}{vs:ņ}{kw:List (Str×Value)}(X:K.In s.heap)(hm:PySem.W.makesIn K C=true)
  (hi:PySem.W.findIn K (.ref C) "__init__"=some (some (.ref f)))(hf:PySem.W.typeIn K (.ref f)=some (.type "function"))
  (h:codeAny (model prog w) (A.under (.builtin "type.__call__" ⟨.ref C::vs,kw⟩)) (.call (.ref f) ⟨.ref (s.heap.objs.size+1)::vs,kw⟩) (PySem.W.InitBack (s.heap.objs.size+1) R)
   { s with heap:=(s.heap.push PySem.W.emptyDict).push (PySem.W.instObj C s.heap.objs.size) }) :
  codeAny (model prog w) A (.call (.ref C) ⟨vs,kw⟩) R s:=by
 obtain⟨hh,g,d,t,os⟩:=s;exact PySem.W.make_core (PySem.W.makes_of X hm) (PySem.W.looks_findIn X hi) (fun self=>PySem.W.bind_fn X self hf) (.inl Z) h
end
def pI (f:Str)(v:V):List (Str×V)->List (Str×V)
 | []=>[(f,v)]
 | (g,x)::r=>if g=f then (g,v)::r else (g,x)::pI f v r
def lX (f g:Str)(v:V):∀fs:List (Str×V),(pI f v fs).lookup g=if g=f then some v else fs.lookup g
 | []=>by
  show č g [(f,v)]=_
  by_cases h:g=f
  .have hb:(g == f)=true:=iR.mpr h;simp only[č,hb,if_pos h]
  .have hb:(g == f)=false:=hI.mpr h;simp only[č,hb,if_neg h]
 | (k,x)::r=>by
  have ih:=lX f g v r;rw[show pI f v ((k,x)::r)=(if k=f then (k,v)::r else (k,x)::pI f v r) from Z]
  by_cases hk:k=f
  .rw[aA hk]
   by_cases h:g=k
   .have hb:(g == k)=true:=iR.mpr h;simp only[č,hb,if_pos (h.trans hk)]
   .have hb:(g == k)=false:=hI.mpr h;simp only[č,hb,if_neg (fun e:g=f=>h (e.trans hk.symm))]
  .rw[ah hk]
   by_cases h:g=k
   .have hb:(g == k)=true:=iR.mpr h;simp only[č,hb,if_neg (fun e:g=f=>hk (h.symm.trans e))]
   .have hb:(g == k)=false:=hI.mpr h;simp only[č,hb];exact ih
def wd (f:Str)(v:V):∀fs:List (Str×V),f∈(pI f v fs).map (·.1)/\∀g,g∈fs.map (·.1)->g∈(pI f v fs).map (·.1)
 | []=>⟨by simp[pI],fun g h=>by simp at h⟩
 | (k,x)::r=>by
  obtain⟨i1,i2⟩:=wd f v r;rw[show pI f v ((k,x)::r)=(if k=f then (k,v)::r else (k,x)::pI f v r) from Z]
  by_cases hk:k=f
  .rw[aA hk];subst hk;exact⟨lB,fun g h=>by simpa using h⟩
  .rw[ah hk];refine⟨?_,fun g h=>?_⟩
   .rw[eD];exact aq _ i1
   .rw[eD] at h ⊢;rcases ũ.mp h with e | e
    .exact gC.mpr (.inl e)
    .exact aq _ (i2 g e)
def w9 (f:Str)(v:V):∀fs:List (Str×V),(pI f v fs).length<=fs.length+1
 | []=>by simp[pI]
 | (k,x)::r=>by
  have ih:=w9 f v r;rw[show pI f v ((k,x)::r)=(if k=f then (k,v)::r else (k,x)::pI f v r) from Z]
  by_cases hk:k=f
  .rw[aA hk,bJ,bJ];omega
  .rw[ah hk,bJ,bJ];omega
def vD.some_of {v:V}{o:Option Value}(r:vD (some v) o):∃u,o=some u/\RelV v u:=by
 cases o with
 | none=>exact(show e8 from r).elim
 | some u=>exact⟨u,Z,r⟩
def vD.none_of {o:Option Value}(r:vD none o):o=none:=by
 cases o with
 | none=>rfl
 | some u=>exact(show e8 from r).elim
def Hr {v:V}{u:Value}(r:RelV v u):PySem.W.handedIn u=true:=by
 cases v with
 | non=>cases (show u=Value.none from r);rfl
 | bl b=>cases (show u=Value.bool b from r);rfl
 | int i=>obtain⟨t,e⟩:=(show ∃t,u=Value.int i t from r);cases e;rfl
 | str x=>obtain⟨t,e⟩:=(show ∃t,u=Value.str x t from r);cases e;rfl
 | byt b=>obtain⟨t,e⟩:=(show ∃t,u=Value.bytes b t from r);cases e;rfl
 | flt b=>obtain⟨t,e⟩:=(show ∃t,u=Value.float b t from r);cases e;rfl
 | ref a=>cases (show u=Value.ref a from r);rfl
 | ty n=>cases (show u=Value.type n from r);rfl
section
variable {P:Program}{w:World}{H:Hp}{h:Heap}{a C dx:Addr}{fs:List (Str×V)}
def xI (hok:xL P w H h)(e:H a=some (.ins C dx fs)):∃mA,EA h a dx C mA/\(∀f,vD (fs.lookup f) (mA f))/\PySem.Within mA (fs.map (·.1))/\fs.length<=1000/\H dx=some (.own a):=by
 obtain⟨d,z,ne,ob,mA,n,r,q⟩:=(show pL P w H h a (.ins C dx fs) from hok a _ e);exact⟨mA,⟨ob,n,ne⟩,r,q,z,d⟩
end
structure IK (K:zfq)(C:Addr):Prop where
 pg:PySem.W.plainGet K C Str.empty=true
 hd:PySem.W.hasDictIn K C=true
 po:PySem.W.plainOver K C=true
 sa:PySem.W.findIn K (.ref C) "__setattr__"=some (some (.builtin "object.__setattr__"))
def IK.get {K:zfq}{C:Addr}(c:IK K C)(f:Str):PySem.W.plainGet K C f=true:=c.pg
def qg (K:zfq)(C:Addr)(f:Str):Prop:=PySem.W.findIn K (.ref C) f=some none
def qg.SK {K:zfq}{C:Addr}{f:Str}(n:qg K C f):PySem.W.takerIn K C f=some none:=by
 unfold PySem.W.takerIn;rw[show PySem.W.findIn K (.ref C) f=some none from n];rfl
structure Meth (K:zfq)(C:Addr)(m:Str)(f:Addr):Prop where
 at_:PySem.W.findIn K (.ref C) m=some (some (.ref f))
 fn:PySem.W.isFn K (.ref f)=true
 kp:PySem.W.keepIn K (.ref f)=true
section
variable {Q:ŝ}
variable {X:Cx}{â:ł}{σ:St}{H:Hp}{s:Shared}{a C dx:Addr}{fs:List (Str×V)}{f:Str}{v:V}{A:Around}{E:ŝ}
def EZ {b:Bool}(I:Inv X â σ H s)(e:H a=some (.ins C dx fs))(c:IK X.K C)(n:qg X.K C f)(l:fs.lookup f=some v)
 (h:∀u s',Inv X â σ H s'->RelV v u->Q u s'):wpAny (model X.prog X.w) A (getAttr (.ref a) f b) Q E s:=by
  obtain⟨mA,zof,r,_,_,_⟩:=xI I.hok e;obtain⟨u,hu,ru⟩:=vD.some_of (v:=v) (o:=mA f) (by rw[<-l];exact r f);exact get_map I.xO zof (c.get f) c.hd n hu (Hr ru) (h u _ (I.tok _) ru)
def EI {m:Str}{g:Addr}{pl:Sem Bool}{Q:Value×ņ->Shared->Prop}(I:Inv X â σ H s)(e:H a=some (.ins C dx fs))(c:IK X.K C)(k:Meth X.K C m g)(l:fs.lookup m=none)
 (h:Q (.ref g,[.ref a]) s):wpAny (model X.prog X.w) A (getMethod (.ref a) m pl) Q E s:=by
  obtain⟨mA,zof,r,_,_,_⟩:=xI I.hok e;have hn:mA m=none:=vD.none_of (by rw[<-l];exact r m);exact K8 I.xO zof (c.get m) k.at_ k.fn hn h
def EB {y:V}{u:Value}{Q:Unit->Shared->Prop}(I:Inv X â σ H s)(e:H a=some (.ins C dx fs))(c:IK X.K C)(n:qg X.K C f)(hl:fs.length<1000)(ry:RelV y u)
 (h:∀s',Inv X â σ (upd H a (.ins C dx (pI f y fs))) s'->Q () s'):wpAny (model X.prog X.w) A (setAttr (.ref a) f u) Q E s:=by
  obtain⟨mA,zof,r,wi,_,ho⟩:=xI I.hok e;have hz:(fs.map (·.1)).length<=sizeLine:=by rw[aa,sizeLine_eq];omega
  refine NK I.xO zof c.sa c.po n.SK c.hd wi hz fun h' O' sb=>h _ ?_;have hd:∃o,h'.get? dx=some o:=let ⟨o,_,_,e',_⟩:=O'.ns;⟨o,e'⟩;refine I.write (x:=a) (e:=dx) (by rw[e];exact True.intro) (.inr ho) (fun b q hb z=>(sb.2 b hb).trans z) hd ?_;refine⟨by rw[mi zof.ne];exact ho,?_,zof.ne,O'.obj,_,O'.ns,fun g=>?_,fun g hg=>?_⟩
  · have:=w9 f y fs;omega
  · show vD ((pI f y fs).lookup g) (if g=f then some u else mA g)
    rw[lX]
    by_cases q:g=f
    · rw[aA q,aA q];exact ry
    · rw[ah q,ah q];exact r g
  · by_cases q:g=f
    · rw[q];exact(wd f y fs).1
    · refine(wd f y fs).2 g (wi g fun z=>hg ?_)
      show (if g=f then some u else mA g)=none
      rw[ah q];exact z
def Inv.made (I:Inv X â σ H s):Inv X â σ (upd (upd H s.heap.objs.size (.own (s.heap.objs.size+1))) (s.heap.objs.size+1) (.ins C s.heap.objs.size []))
  { s with heap:=(s.heap.push PySem.W.emptyDict).push (PySem.W.instObj C s.heap.objs.size) }:=by
 have e1:(s.heap.push PySem.W.emptyDict).get? s.heap.objs.size=some PySem.W.emptyDict:=bV s.heap Z;have e2:((s.heap.push PySem.W.emptyDict).push (PySem.W.instObj C s.heap.objs.size)).get? (s.heap.objs.size+1)=some (PySem.W.instObj C s.heap.objs.size):=by
  have:=bV (s.heap.push PySem.W.emptyDict) (o:=PySem.W.instObj C s.heap.objs.size) Z;rwa [g4] at this
 have e3:(s.heap.push PySem.W.emptyDict).Ns s.heap.objs.size (fun _=>none):=⟨PySem.W.emptyDict,#[],_,e1,Z,(fun e he=>absurd he lB),fun _=>Z⟩;have I1:=I.laid (a:=s.heap.objs.size) (o:=.own (s.heap.objs.size+1)) (h':=s.heap.push PySem.W.emptyDict) (t':=s.toks) (fun b u q=>aM _ q) (aG _) ⟨_,e1⟩;refine I1.laid (a:=s.heap.objs.size+1) (o:=.ins C s.heap.objs.size []) (t':=s.toks) (fun b u q=>aM _ q) (jE (g4 _ _)) ?_;have ne:s.heap.objs.size≠s.heap.objs.size+1:=c9 (bQ _);refine⟨by rw[mi ne,lH],dW _,ne,e2,fun _=>none,(Heap.Ns1.of_empty e3).at fun o q=>aM _ q,fun _=>True.intro,fun y hy=>absurd Z hy⟩
def NE {prog:Program}{w:World}{env:Env}{e:Expr}{f:Str}{pos:Pos}{s:Shared}(hb:attributeBase e f env (eval e env)=eval e env)
 (h:wpAny (model prog w) A (eval e env) (fun o s₁=>wpAny (model prog w) A (getAttr o f true) Q E s₁) E s):wpAny (model prog w) A (eval (.Attribute e f pos) env) Q E s :=
  Attribute_any_ h (by rw[arm_eval_Attribute,hb])
end
def TF (K:zfq)(ta:TE)(f:Str):TE:=fun σ H Q=>ta σ H fun x H1=>∃a C dx fs v,x=.ref a/\H1 a=some (.ins C dx fs)/\IK K C/\qg K C f/\fs.lookup f=some v/\Q v H1
def ZZ (K:zfq)(ta tv:TE)(f:Str):TS:=fun D σ H=>tv σ H fun y H1=>ta σ H1 fun x H2=>∃a C dx fs,x=.ref a/\H2 a=some (.ins C dx fs)/\IK K C/\qg K C f/\fs.length<1000 /\
 D.nx σ (upd H2 a (.ins C dx (pI f y fs)))
section
variable {X:Cx}{o e value:Expr}{f:Str}{pos pos':Pos}{ta tv:TE}
def oA (he:PE X e ta)(hb:attributeBase e f X.env (eval e X.env)=eval e X.env):PE X (.Attribute e f pos) (TF X.K ta f):=by
 intro â s σ H Q I h;refine NE hb (oR (he â s σ H _ I h) fun u s1 ⟨x,H1,I1,rx,a,C,dx,fs,v,ex,ea,c,n,l,q⟩=>?_);subst ex;obtain rfl:u=Value.ref a:=rx;exact EZ I1 ea c n l fun u' s2 I2 ru=>⟨v,H1,I2,ru,q⟩
def t6 (ha:PE X o ta)(hv:PE X value tv)(hs:swapsWith value (some (.Attribute o f pos')) pos.line X.env=pure false):PS X (.Assign [.Attribute o f pos'] value pos) (ZZ X.K ta tv f):=by
 intro â s σ H D I h;refine plainObj_wpAny_Assign_Attribute (oR (hv â s σ H _ I h) fun u s1 ⟨y,H1,I1,ry,q⟩=>oR (ha â s1 σ H1 _ I1 q) fun ov s2 ⟨x,H2,I2,rx,a,C,dx,fs,ex,ea,c,n,l,q2⟩=>?_) hs;subst ex;obtain rfl:ov=Value.ref a:=rx;exact EB I2 ea c n l ry fun s3 I3=>⟨σ,_,I3,q2⟩
end
section
variable {X:Cx}{â:ł}{σ:St}{H:Hp}{s:Shared}{A:Around}{E:ŝ}{Q:ŝ}{c:Value}{b:Bool}
inductive wN (K:zfq)(H:Hp):V->Value->Prop where
 | non:wN K H .non (.type "NoneType")
 | bl (x:Bool):wN K H (.bl x) (.type "bool")
 | int (i:Int):wN K H (.int i) (.type "int")
 | str (x:Str):wN K H (.str x) (.type "str")
 | flt (x:UInt64):wN K H (.flt x) (.type "float")
 | lst {a:Addr}{xs:ň}(e:H a=some (.lst xs)):wN K H (.ref a) (.type "list")
 | frz {a:Addr}{o:Obj}{xs:ň}(e:H a=some (.frz o (.lst xs))):wN K H (.ref a) (.type "list")
 | tup {a:Addr}{xs:ň}(e:H a=some (.tup xs)):wN K H (.ref a) (.type "tuple")
 | dK {a:Addr}{kvs:List (Key×V)}(e:H a=some (.dK kvs)):wN K H (.ref a) (.type "dict")
 | dT {a:Addr}{kvs:List (List Key×V)}(e:H a=some (.dT kvs)):wN K H (.ref a) (.type "dict")
 | ins {a C dx:Addr}{fs:List (Str×V)}(e:H a=some (.ins C dx fs))(cl:IK K C)(ha:PySem.W.findIn K (.ref C) "__class__"=some (some (.builtin "object.__class__")))
   (hn:PySem.W.specialIn K (.builtin "object.__class__") "__get__"=some (some (.builtin "getset_descriptor.__get__")))(htk:PySem.W.takesIn K (.builtin "object.__class__")=some true)
   (hm:PySem.W.mroIn K C (.type "object")=some true):wN K H (.ref a) (.ref C)
def HQ {x:V}{u t:Value}(I:Inv X â σ H s)(rx:RelV x u)(ty:wN X.K H x t)(e:PySem.W.kitOne X.K t c=some b)(h:∀tk,Q (.bool b) { s with toks:=tk }) :
  wpAny (model X.prog X.w) A (call (.builtin "isinstance") [u,c]) Q E s:=by
 cases ty with
 | non=>cases (show u=Value.none from rx);exact PySem.W.kia_one PySem.W.kitx_none I.xO True.intro e (fun z=>nomatch z) h
 | bl y=>cases (show u=Value.bool y from rx);exact PySem.W.kia_one PySem.W.kitx_bool I.xO True.intro e (fun z=>nomatch z) h
 | int i=>obtain⟨t,q⟩:=(show ∃t,u=Value.int i t from rx);cases q;exact PySem.W.kia_one PySem.W.kitx_int I.xO True.intro e (fun z=>nomatch z) h
 | str y=>obtain⟨t,q⟩:=(show ∃t,u=Value.str y t from rx);cases q;exact PySem.W.kia_one PySem.W.kitx_str I.xO True.intro e (fun z=>nomatch z) h
 | flt y=>obtain⟨t,q⟩:=(show ∃t,u=Value.float y t from rx);cases q;exact PySem.W.kia_one PySem.W.kitx_float I.xO True.intro e (fun z=>nomatch z) h
 | @lst a xs ea =>
  cases (show u=Value.ref a from rx);obtain⟨_,_,n,_,h1⟩:=(show pL X.prog X.w H s.heap a (.lst xs) from I.hok a _ ea);exact gF ki I.xO ⟨_,h1,Z⟩ e (fun z=>nomatch z) h
 | @frz a ob xs ea =>
  cases (show u=Value.ref a from rx);obtain⟨_,_,_,n,_,h1⟩:=(show pL X.prog X.w H s.heap a (.frz ob (.lst xs)) from I.hok a _ ea);exact gF ki I.xO ⟨_,h1,Z⟩ e (fun z=>nomatch z) h
 | @tup a xs ea =>
  cases (show u=Value.ref a from rx);obtain⟨_,_,_,p⟩:=(show pL X.prog X.w H s.heap a (.tup xs) from I.hok a _ ea);obtain⟨o,h1,h2,_⟩:=p;exact gF PySem.W.kitx_tuple I.xO ⟨o,h1,h2⟩ e (fun z=>nomatch z) h
 | @dK a kvs ea =>
  cases (show u=Value.ref a from rx);obtain⟨_,_,vs,_,p⟩:=(show pL X.prog X.w H s.heap a (.dK kvs) from I.hok a _ ea);obtain⟨o,es,ep,h1,h2,_⟩:=p;exact gF ko I.xO ⟨o,h1,h2.1⟩ e (fun z=>nomatch z) h
 | @dT a kvs ea =>
  cases (show u=Value.ref a from rx);obtain⟨_,_,xs,_,o,es,ep,h1,h2,_⟩:=(show pL X.prog X.w H s.heap a (.dT kvs) from I.hok a _ ea);exact gF ko I.xO ⟨o,h1,h2.1⟩ e (fun z=>nomatch z) h
 | @ins a C dx fs ea cl ha hn htk hm =>
  cases (show u=Value.ref a from rx);obtain⟨mA,zof,_⟩:=xI I.hok ea;obtain⟨od,J,_⟩:=zof.look;exact gF (PySem.W.kitx_own (cl.get _) cl.hd ha hn htk hm) I.xO J e (fun z=>nomatch z) h
end
variable {kw:List (Str×Value)}
structure oT (k:Nat)(A:Around):Prop where
 hd:A.handled=none
 dp:A.depth+3*k+5<recursionLimit
 un:A.units+16*k+200<cLine
def oT.mono {j k:Nat}{A:Around}(r:oT k A)(h:j<=k):oT j A:=⟨r.hd,by have:=r.dp;omega,by have:=r.un;omega⟩
def oT.deeper {k:Nat}{A:Around}(r:oT (k+1) A)(env:Env):oT k (A.deeper env) :=
 ⟨r.hd,by have:=r.dp;show A.depth+1+3*k+5<_;omega,by have:=r.un;show A.units+3+16*k+200<_;omega⟩
def oT.in1 {k:Nat}{A:Around}(r:oT (k+1) A):oT k A.in1 :=
 ⟨r.hd,by have:=r.dp;show A.depth+3*k+5<_;omega,by have:=r.un;show A.units+1+16*k+200<_;omega⟩
def Ep {A:Around}{C:Addr}{us:ņ}:(A.under (.builtin "type.__call__" ⟨.ref C::us,kw⟩)).depth=A.depth+1:=by
 first | rfl | simp[Around.under,Code.weight,Code.isCreation,Code.isGuard,Code.isCaller,Code.frames,Code.isFrame,guardIds]
def D9 {A:Around}{C:Addr}{us:ņ}:(A.under (.builtin "type.__call__" ⟨.ref C::us,kw⟩)).units=A.units+1:=by
 first | rfl | simp[Around.under,Code.cUnits,Code.frames,Code.isFrame]
def oT.make {k:Nat}{A:Around}(r:oT (k+1) A)(C:Addr)(us:ņ)(kw:List (Str×Value)):oT k (A.under (.builtin "type.__call__" ⟨.ref C::us,kw⟩)) :=
 ⟨r.hd,by have:=r.dp;rw[Ep];omega,by have:=r.un;rw[D9];omega⟩
def oT.depth {k:Nat}{A:Around}(r:oT k A):A.depth<recursionLimit:=by have:=r.dp;omega
def oT.units {k:Nat}{A:Around}(r:oT k A):A.units+64<cLine:=by have:=r.un;omega
def Og:TA:=fun _ H Q=>Q [] H
def C6 (ta:TE)(tr:TA):TA:=fun σ H Q=>ta σ H fun x H1=>tr σ H1 fun xs H2=>Q (x::xs) H2
section
variable {X:Cx}{e:Expr}{es:ő}{te:TE}{t:TA}{pos:Pos}
def mB:PA X [] Og:=fun _ _ _ _ H Q I h=>Calls.spliced_nil ⟨[],H,I,.nil,h⟩
def lG (ha:PE X e te)(hr:PA X es t)(hs:starEach (e::es) X.env=(false,eval e X.env)::starEach es X.env:=by rfl):PA X (e::es) (C6 te t):=by
 intro pos â s σ H Q I h;rw[hs];show wpAny _ _ (spliced ((false,eval e X.env)::backTo pos (starEach es X.env))) _ _ s
 refine Calls.spliced_cons (oR (ha â s σ H _ I h) fun u s1 ⟨x,H1,I1,r1,q1⟩=>?_);exact oR (hr pos â s1 σ H1 _ I1 q1) fun us s2 ⟨xs,H2,I2,r2,q2⟩=>⟨x::xs,H2,I2,.cons r1 r2,q2⟩
def zar (t:TA):TE:=fun σ H Q=>t σ H fun xs H1=>xs.length<=sizeLine/\∀p,H1 p=none->Q (.ref p) (upd H1 p (.tup xs))
def Yx (t:TA):TE:=fun σ H Q=>t σ H fun xs H1=>xs.length<=sizeLine/\∀p,H1 p=none->Q (.ref p) (upd H1 p (.lst xs))
def nE {x1}(h:PA X es t):PE X (.Tuple es x1 pos) (zar t):=by
 intro â s σ H Q I hq;refine wpAny_Tuple_spliced (oR (h pos â s σ H _ I hq) fun us s1 ⟨xs,H1,I1,r,z,q⟩=>⟨by rw[<-r.length];exact z,?_⟩);have hf:H1 s1.heap.objs.size=none:=I1.hok.fresh (aG _);refine⟨.ref s1.heap.objs.size,upd H1 s1.heap.objs.size (.tup xs),I1.laid (t':=s1.toks) (fun b u e=>aM _ e) (aG _) ?_,Z,q _ hf⟩;exact⟨z,us,r,⟨_,bV _ Z,Z,_,Z⟩⟩
def nY (h:PA X es t):PE X (.List es pos) (Yx t):=by
 intro â s σ H Q I hq;refine wpAny_List_spliced (oR (h pos â s σ H _ I hq) fun us s1 ⟨xs,H1,I1,r,z,q⟩=>⟨by rw[<-r.length];exact z,?_⟩);have hf:H1 s1.heap.objs.size=none:=I1.hok.fresh (aG _);refine⟨.ref s1.heap.objs.size,upd H1 s1.heap.objs.size (.lst xs),I1.laid (t':=s1.toks) (fun b u e=>aM _ e) (aG _) ?_,Z,q _ hf⟩;exact⟨z,us,0,r,bV _ Z⟩
end
abbrev Sp:=ň->Hp->VK->XK->Prop
abbrev Kh:=List Env->Hp->Shared->XK->Value->Shared->Prop
structure zI (P:Program)(w:World)(K:zfq)(mg:ś)(base:Heap)(A:Around)(outer:List Env)(s:Shared)(H:Hp):Prop where
 frames:A.frames=some outer
 mod:Mod K mg base
 bs:∀b o,base.get? b=some o->s.heap.get? b=some o/\H b=none
 bsz:base.objs.size<=s.heap.objs.size
 vU:s.heap.FunFrames base outer
 frf:∀b∈Iy outer,H b=none
 hok:xL P w H s.heap
 bare:AllBare s.gens
def CE (outer:List Env)(P:Program)(w:World)(H:Hp)(s:Shared)(Q:VK)(u:Value)(s':Shared):Prop :=
 ∃v H',s'.os=s.os/\AllBare s'.gens/\Un (Iy outer) [] H H' s.heap s'.heap/\xL P w H' s'.heap/\RelV v u/\Q v H'
def CR (CX:Kh)(outer:List Env)(P:Program)(w:World)(H:Hp)(s:Shared)(Q:VK)(E:XK)(r:Result)(s':Shared):Prop :=
 match r with
 | .ok (.ret u)=>CE outer P w H s Q u s'
 | .ok _=>e8
 | .error e=>CX outer H s E e s'
structure tH (P:Program)(w:World)(K:zfq)(mg:ś)(base:Heap)(CX:Kh)(k:Nat)(f:Addr)(fd:FuncData)(ps:ō)(sp:Sp):Prop where
 len:∀vs H Q E,sp vs H Q E->vs.length=ps.length
 run:∀(A:Around)(outer:List Env)(s:Shared)(H:Hp)(args:Args)(us:ņ)(vs:ň)(Q:VK)(E:XK),oT k A->zI P w K mg base A outer s H->BindsTo s fd args (ps.zip us)->Vals vs us->sp vs H Q E ->
  codeAny (model P w) A (.call (.ref f) args) (CR CX outer P w H s Q E) s
def tH.imp {P:Program}{w:World}{K:zfq}{mg:ś}{base:Heap}{CX:Kh}{k:Nat}{f:Addr}{fd:FuncData}{ps:ō}{sp sp':Sp}(F:tH P w K mg base CX k f fd ps sp)
 (h:∀vs H Q E,sp' vs H Q E->sp vs H Q E):tH P w K mg base CX k f fd ps sp' :=
  ⟨fun vs H Q E q=>F.len vs H Q E (h _ _ _ _ q),fun A outer s H args us vs Q E hr he hb hv hs=>F.run A outer s H args us vs Q E hr he hb hv (h _ _ _ _ hs)⟩
def zI.make {P:Program}{w:World}{K:zfq}{mg:ś}{base:Heap}{A:Around}{outer:List Env}{s:Shared}{H:Hp}(e:zI P w K mg base A outer s H)(C:Addr)(us:ņ)(kw:List (Str×Value)) :
  zI P w K mg base (A.under (.builtin "type.__call__" ⟨.ref C::us,kw⟩)) outer s H:=⟨by first | exact e.frames | (simpa [Around.under,Code.envs,Code.isFrame,pushEnvs] using e.frames),e.mod,e.bs,e.bsz,e.vU,e.frf,e.hok,e.bare⟩
def zI.in1 {P:Program}{w:World}{K:zfq}{mg:ś}{base:Heap}{A:Around}{outer:List Env}{s:Shared}{H:Hp}(e:zI P w K mg base A outer s H) :
  zI P w K mg base A.in1 outer s H:=⟨e.frames,e.mod,e.bs,e.bsz,e.vU,e.frf,e.hok,e.bare⟩
section
variable {X:Cx}{â:ł}{σ:St}{H:Hp}{s s':Shared}
def Inv.TK (I:Inv X â σ H s):zI X.prog X.w X.K X.mg X.base X.A X.stack s H :=
 ⟨I.ok.frames,I.ok.mod,I.bs,aS I.ok.bsz I.sz,I.stack,I.GI,I.hok,I.bare⟩
def Inv.after {Q:VK}{u:Value}(I:Inv X â σ H s)(h:CE X.stack X.prog X.w H s Q u s'):EP X â σ Q u s':=by
 obtain⟨v,H',os,bare,un,hok,r,q⟩:=h;obtain⟨hh,g,d,t,Sb⟩:=s';obtain rfl:Sb=s.os:=os;exact⟨v,H',I.call (h':=hh) (g':=g) (d':=d) (t':=t) (ch:=[]) un hok bare (fun b z=>absurd z lB),r,q⟩
end
def Ll (sp:Sp)(Ca:ň)(E:XK)(t:TA):TE:=fun σ H Q=>t σ H fun vs H1=>sp (vs++Ca) H1 Q E
def OI (C:Addr)(m:Str)(sp:Sp)(Ca:ň)(E:XK)(ta:TE)(t:TA):TE:=fun σ H Q=>ta σ H fun x H1=>∃a dx fs,x=.ref a/\H1 a=some (.ins C dx fs)/\fs.lookup m=none /\
 t σ H1 fun vs H2=>sp (x::(vs++Ca)) H2 Q E
def OP (C:Addr)(sp:Sp)(Ca:ň)(E:XK)(t:TA):TE:=fun σ H Q=>t σ H fun vs H1=>∀x dx,H1 x=none->H1 dx=none->dx≠x ->
 sp (.ref x::(vs++Ca)) (upd (upd H1 dx (.own x)) x (.ins C dx [])) (fun v H2=>v=.non/\Q (.ref x) H2) E
def Binds (K:zfq)(fd:FuncData)(ps:ō)(ds:ņ):Prop :=
 ∀(s:Shared)(us:ņ),K.In s.heap->(us++ds).length=ps.length->BindsTo s fd ⟨us,[]⟩ (ps.zip (us++ds))
def Binds.all {K:zfq}{fd:FuncData}{ps:ō}(h:∀us:ņ,us.length=ps.length->bindArgs fd ⟨us,[]⟩=pure (ps.zip us)):Binds K fd ps []:=fun s us _ hl=>by
 rw[gH] at hl ⊢;exact .of_eq (h us hl)
def Passes (CX:Kh)(X:Cx)(E:XK):Prop:=∀(â:ł)(σ:St)(H:Hp)(s:Shared)(e:Value)(s':Shared),Inv X â σ H s->CX X.stack H s E e s'->X.xe e s'
section
variable {â:ł}
variable {X:Cx}{CX:Kh}{k:Nat}{f C:Addr}{fd:FuncData}{ps:ō}{sp:Sp}{Ca:ň}{ds:ņ}{E:XK}{x m:Str}{p pos apos:Pos}{e o:Expr}{es:ő}{ta:TE}{t:TA}
def JA {σ:St}{H:Hp}{s:Shared}{Q:VK}{us:ņ}{vs:ň}(F:tH X.prog X.w X.K X.mg X.base CX k f fd ps sp)(hr:oT k X.A)(hb:Binds X.K fd ps ds)(hd:Vals Ca ds)(hx:Passes CX X E)
 (I:Inv X â σ H s)(r:Vals vs us)(h:sp (vs++Ca) H Q E):wpAny (model X.prog X.w) X.A (call (.ref f) us) (EP X â σ Q) X.xe s:=by
  have r2:Vals (vs++Ca) (us++ds):=r.append hd;have hl:(us++ds).length=ps.length:=by rw[<-r2.length];exact F.len _ _ _ _ h
  refine wpAny_call (jr (F.run X.A X.stack s H ⟨us,[]⟩ (us++ds) (vs++Ca) Q E hr I.TK (hb s us I.xO hl) r2 h) fun r s' hq=>?_);cases r with
  | error e=>exact hx â σ H s e s' I hq
  | ok fl =>
    cases fl with
    | ret u=>exact I.after hq
    | next=>exact ô hq
    | brk=>exact ô hq
    | cont=>exact ô hq
def M3 (F:tH X.prog X.w X.K X.mg X.base CX k f fd ps sp)(hr:oT k X.A)(hg:Gl X x)(hm:X.mg x=some (.ref f))(hk:PySem.W.keepIn X.K (.ref f)=true)(hb:Binds X.K fd ps ds)(hd:Vals Ca ds)(hx:Passes CX X E)
  (ha:PA X (e::es) t)(IC:(x == ("__debug__":Str))=false:=by decide)(he:starEach (e::es) X.env=(false,eval e X.env)::starEach es X.env:=by rfl)(zu:(backTo pos (starEach es X.env)).any (·.1)=false:=by rfl) :
  PE X (.Call (.Name x p) (e::es) [] pos) (Ll sp Ca E t):=by
 intro â s σ H Q I h;refine gV (A3 I hg hm ?_ IC);refine iS (h₀:=X.base) I.ok.mod.kin hk (oR (ha pos â s σ H _ I h) fun us s1 ⟨vs,H1,I1,r,q⟩=>⟨I1.xO,?_⟩) he zu;exact JA F hr hb hd hx I1 r q
def M8 {pl:Sem Bool}(he:PE X o ta)(c:IK X.K C)(hm:Meth X.K C m f)(F:tH X.prog X.w X.K X.mg X.base CX k f fd ps sp)(hr:oT k X.A)(hb:Binds X.K fd ps ds)(hd:Vals Ca ds)(hx:Passes CX X E)(ha:PA X (e::es) t)
 (uX:starEach (e::es) X.env=(false,eval e X.env)::starEach es X.env:=by rfl)(zu:(backTo pos (starEach es X.env)).any (·.1)=false:=by rfl)
 (ht:eval (.Call (.Attribute o m apos) (e::es) [] pos) X.env=(do
 let ov <-eval o X.env
 standAt apos.atName
 let (f,first) <-holding [ov] (getMethod ov m pl)
 callWith pos f first (backTo pos (starEach (e::es) X.env)) (backToKw pos (keywordEach [] X.env))):=by rfl) :
    PE X (.Call (.Attribute o m apos) (e::es) [] pos) (OI C m sp Ca E ta t):=by
  intro â s σ H Q I h;refine PySem.W.methodCall_KW (pl:=pl) (oR (he â s σ H _ I h) fun u s1 ⟨x,H1,I1,rx,a,dx,fs,ex,ea,l,q⟩=>?_) ht;subst ex;obtain rfl:u=Value.ref a:=rx;refine EI I1 ea c hm l ?_;refine iS (first:=[.ref a]) (h₀:=X.base) I.ok.mod.kin hm.kp (oR (ha pos â s1 σ H1 _ I1 q) fun us s2 ⟨vs,H2,I2,r,q2⟩=>⟨I2.xO,?_⟩) uX zu;exact JA (us:=.ref a::us) (vs:=.ref a::vs) F hr hb hd hx I2 (.cons Z r) q2
structure Mk (K:zfq)(C f:Addr):Prop where
 makes:PySem.W.makesIn K C=true
 init:PySem.W.findIn K (.ref C) "__init__"=some (some (.ref f))
 fn:PySem.W.isFn K (.ref f)=true
 kp:PySem.W.keepIn K (.ref C)=true
def Ka {σ:St}{H:Hp}{s:Shared}{Q:VK}{us:ņ}{vs:ň}(M:Mk X.K C f)(F:tH X.prog X.w X.K X.mg X.base CX k f fd ps sp)(hr:oT (k+1) X.A)(hb:Binds X.K fd ps ds)(hd:Vals Ca ds)
 (hx:Passes CX X E)(I:Inv X â σ H s)(r:Vals vs us)
 (h:∀x dx,H x=none->H dx=none->dx≠x->sp (.ref x::(vs++Ca)) (upd (upd H dx (.own x)) x (.ins C dx [])) (fun v H2=>v=.non/\Q (.ref x) H2) E) :
    wpAny (model X.prog X.w) X.A (call (.ref C) us) (EP X â σ Q) X.xe s:=by
  have hq:=h (s.heap.objs.size+1) s.heap.objs.size (I.hok.fresh (gN _)) (I.hok.fresh (aG _)) (c9 (bQ _));have I2:=Inv.made (C:=C) I;have r2:Vals (V.ref (s.heap.objs.size+1)::(vs++Ca)) (Value.ref (s.heap.objs.size+1)::(us++ds)):=.cons Z (r.append hd);have hl:(Value.ref (s.heap.objs.size+1)::us++ds).length=ps.length:=by
    have e:=r2.length;rw[F.len _ _ _ _ hq] at e;exact e.symm
  refine wpAny_call (KB (f:=f) I.xO M.makes M.init (iR.mp M.fn) (jr (F.run _ X.stack _ _ ⟨Value.ref (s.heap.objs.size+1)::us,[]⟩ (Value.ref (s.heap.objs.size+1)::(us++ds)) _ _ E (hr.make C us [])
    (I2.TK.make C us []) (hb _ (Value.ref (s.heap.objs.size+1)::us) I2.xO hl) r2 hq) fun r s' zV=>?_))
  cases r with
  | error e=>exact hx â σ _ _ e s' I2 zV
  | ok fl =>
    cases fl with
    | ret u =>
      obtain⟨v,H',I3,rv,ev,q3⟩:=I2.after zV;subst ev;exact⟨rv,⟨V.ref (s.heap.objs.size+1),H',I3,Z,q3⟩⟩
    | next=>exact ô zV
    | brk=>exact ô zV
    | cont=>exact ô zV
def MU (M:Mk X.K C f)(F:tH X.prog X.w X.K X.mg X.base CX k f fd ps sp)(hr:oT (k+1) X.A)(hg:Gl X x)(hm:X.mg x=some (.ref C))(hb:Binds X.K fd ps ds)(hd:Vals Ca ds)(hx:Passes CX X E)
  (ha:PA X (e::es) t)(IC:(x == ("__debug__":Str))=false:=by decide)(he:starEach (e::es) X.env=(false,eval e X.env)::starEach es X.env:=by rfl)(zu:(backTo pos (starEach es X.env)).any (·.1)=false:=by rfl) :
  PE X (.Call (.Name x p) (e::es) [] pos) (OP C sp Ca E t):=by
 intro â s σ H Q I h;refine gV (A3 I hg hm ?_ IC);refine iS (h₀:=X.base) I.ok.mod.kin M.kp (oR (ha pos â s σ H _ I h) fun us s1 ⟨vs,H1,I1,r,q⟩=>⟨I1.xO,?_⟩) he zu;exact Ka M F hr hb hd hx I1 r q
end
structure lZ (N P:ō)(sc:Scope):Prop where
 kind:sc.kind=.function
 co:sc.isCoroutine=false
 gen:sc.isGenerator=false
 nd:N.Nodup
 pre:N.take P.length=P
 par:∀x∈P,sc.names.lookup x=some .local\/sc.names.lookup x=some .cell
 nofree:∀y∈sc.names,y.2≠.free
def Ax {kindOf:Str->Option NameKind}{x:Str}:∀{binds:List (Str×Value)}{m:ś},(∀v,(x,v)∉binds)->bindL kindOf binds m x=m x
 | [],_,_=>rfl
 | (n,v)::r,m,h=>by
  unfold bindL;rw[Ax fun w hw=>h w (aq _ hw)];split
  .have:x≠n:=by rintro rfl;exact h v av
   simp[this]
  .rfl
def AM {kindOf:Str->Option NameKind}{x:Str}:∀{binds:List (Str×Value)}{m:ś},(∀v,(x,v)∉binds)->bindC kindOf binds m x=m x
 | [],_,_=>rfl
 | (n,v)::r,m,h=>by
  unfold bindC;rw[AM fun w hw=>h w (aq _ hw)];split
  .rfl
  .have:x≠n:=by rintro rfl;exact h v av
   simp[this]
def AT {kindOf:Str->Option NameKind}{x:Str}{v:Value}:∀{P:ō}{vs:ņ}{i:Nat}{m:ś},P.Nodup->P[i]?=some x->vs[i]?=some v->kindOf x=some .local ->
  bindL kindOf (P.zip vs) m x=some v
 | [],_,_,_,_,h,_,_=>by simp at h
 | _::_,[],_,_,_,_,h,_=>by simp at h
 | p::P,w::vs,0,m,nd,h1,h2,hk=>by
  simp at h1 h2;subst h1;subst h2;show bindL kindOf ((p,w)::P.zip vs) m p=_
  unfold bindL;rw[Ax fun v hv=>(fU.mp nd).1 (kS hv).1,aA hk];simp
 | p::P,w::vs,i+1,m,nd,h1,h2,hk=>by
  show bindL kindOf ((p,w)::P.zip vs) m x=_
  unfold bindL;exact AT (i:=i) (fU.mp nd).2 (by simpa using h1) (by simpa using h2) hk
def AG {kindOf:Str->Option NameKind}{x:Str}{v:Value}:∀{P:ō}{vs:ņ}{i:Nat}{m:ś},P.Nodup->P[i]?=some x->vs[i]?=some v->kindOf x≠some .local ->
  bindC kindOf (P.zip vs) m x=some v
 | [],_,_,_,_,h,_,_=>by simp at h
 | _::_,[],_,_,_,_,h,_=>by simp at h
 | p::P,w::vs,0,m,nd,h1,h2,hk=>by
  simp at h1 h2;subst h1;subst h2;show bindC kindOf ((p,w)::P.zip vs) m p=_
  unfold bindC;rw[AM fun v hv=>(fU.mp nd).1 (kS hv).1,ah hk];simp
 | p::P,w::vs,i+1,m,nd,h1,h2,hk=>by
  show bindC kindOf ((p,w)::P.zip vs) m x=_
  unfold bindC;exact AG (i:=i) (fU.mp nd).2 (by simpa using h1) (by simpa using h2) hk
def start (N:ō)(vs:ň):St:=vs.map some++ş (N.length-vs.length) none
def zP (CX:Kh)(P:Program)(w:World)(K:zfq)(mg:ś)(base:Heap)(N:ō)(å:Str)(scope:Scope)(f:Addr)(cd:Value)(A:Around)(outer:List Env)(s:Shared)(H:Hp)(E:XK):Cx where
 prog:=P
 w:=w
 K:=K
 mg:=mg
 base:=base
 A:=A.deeper (envOfC å scope s.heap.objs.size f cd)
 N:=N
 s₀:=s
 H₀:=H
 env:=envOfC å scope s.heap.objs.size f cd
 outer:=outer
 stack:=envOfC å scope s.heap.objs.size f cd::outer
 ex:=[]
 calm:=true
 fn:=fun _=>true
 pn:=[]
 xe:=fun e s'=>wpAny (model P w) (A.deeper (envOfC å scope s.heap.objs.size f cd)) (leaving (envOfC å scope s.heap.objs.size f cd) e) (fun _ U1=>CX outer H s E e U1) (fun e' U1=>CX outer H s E e' U1) s'
def CV {sc:Scope}{n:Nat}{x:Str}(h:sc.names.lookup x=some .cell):∃c,(cellsFrom n sc.names []).lookup x=some c:=by
 have q:=jF sc.names n [] (.inl h);exact jy.mp q
def HJ {CX:Kh}{P:Program}{w:World}{K:zfq}{mg:ś}{base:Heap}{N ps:ō}{å:Str}{scope:Scope}{f:Addr}{cd:Value}{A:Around}{outer:List Env}{s s1:Shared}{H:Hp}{E:XK}{us:ņ}{vs:ň}
 (S:lZ N ps scope)(hd:A.handled=none)(e0:zI P w K mg base A outer s H)(hl:vs.length=ps.length)(r:Vals vs us)
 (x:InCallC s s.heap.objs.size (bindL (envOfC å scope s.heap.objs.size f cd).kindOf (ps.zip us) fun _=>none) (cellsFrom (s.heap.objs.size+1) scope.names []) (bindC (envOfC å scope s.heap.objs.size f cd).kindOf (ps.zip us) fun _=>none) s1) :
    Inv (zP CX P w K mg base N å scope f cd A outer s H E) [] (start N vs) H s1:=by
  have zu:ps.length<=N.length:=by have:=cA ķ S.pre;rw[cT] at this;omega
  obtain⟨h1,tk,rfl,hk⟩:=x.done;have noA:∀b:Addr,b∉(zP CX P w K mg base N å scope f cd A outer s H E).ex:=fun b z=>absurd (show b∈([]:ŋ) from z) lB;refine⟨⟨e0.mod,S.kind,Z,Z,aG _,fun y z c h1 h2=>?_,fun y hy=>?_,fun y c _ h=>?_,fun _=>hd,Around.frames_deeper e0.frames,.inr ⟨Z,Z⟩,fun b z=>absurd z (noA b),e0.bs,e0.bsz,fun b _ _=>noA b,fun b z=>absurd z (noA b),e0.vU,e0.frf⟩,
    Z,e0.bare,Un.kept hk,⟨_,x.toInCall.ns,fun i y v h1 h2 h3=>?_⟩,fun y c h=>⟨_,x.cell y c h⟩,e0.hok.fresh (aG _),fun y c h=>?_,fun p hp=>absurd (show p∈([]:ł) from hp) lB,e0.hok.kept hk,?_⟩
  · exact name_of_addr x.apart (gz h1) (gz h2)
  · have hy:scope.names.lookup y=some .cell\/scope.names.lookup y=some .free:=hy
    rcases hy with hy | hy
    · exact CV hy
    · exact absurd Z (S.nofree _ (gz hy))
  · exact cK (x.above y c (gz h))
  · have hi:i<vs.length:=by
      unfold start at h2
      by_cases hi:i<vs.length
      · exact hi
      · rw[dH (by simpa using hi)] at h2
        rw[fI] at h2;split at h2<;>cases h2
    have ha:vs[i]?=some v:=by
      unfold start at h2;rw[dM (by simpa using hi),List.getElem?_map] at h2;cases e:vs[i]? with
      | none=>rw[e] at h2;cases h2
      | some a=>rw[e] at h2;cases h2;rfl
    obtain⟨u,hu,rv⟩:=r.get ha;have hp:ps[i]?=some y:=by
      rw[<-S.pre,jz lC];exact h1
    have ndP:ps.Nodup:=by rw[<-S.pre];exact S.nd.sublist (List.take_sublist _ _)
    refine⟨u,rv,?_⟩;rcases S.par y (List.mem_of_getElem? hp) with k | k
    · exact .inl ⟨k,AT ndP hp hu k⟩
    · obtain⟨c,e⟩:=CV (n:=s.heap.objs.size+1) k
      refine .inr ⟨.inl k,c,e,?_⟩;have q:=x.cell y c e;rw[AG ndP hp hu (by show scope.names.lookup y≠_;rw[k];decide)] at q;exact q
  · exact e0.hok.fresh (cK (x.above y c (gz h)))
  · unfold start
    show _=N.length
    rw[aP,aa,bq];omega
def UO {CX:Kh}{P:Program}{w:World}{K:zfq}{mg:ś}{base:Heap}{k:Nat}{f:Addr}{name å:Str}{params:Arguments}{body:List Stmt}{scope:Scope}{dV kV doc pm cdv ct oc:Value}{an od:Option Addr}
 {osl:Array (Option Value)}{N ps:ō}{sp:Sp}(lk:K.lookup f=some ⟨oc,od,.func (PySem.W.fnOf name å params body scope dV kV doc pm an cdv ct),osl⟩)(GT:PySem.W.codeIn K cdv å=true)(S:lZ N ps scope)
 (len:∀vs H Q E,sp vs H Q E->vs.length=ps.length)
 (hbody:∀(A:Around)(outer:List Env)(s:Shared)(H:Hp)(vs:ň)(Q:VK)(E:XK),oT k (A.deeper (envOfC å scope s.heap.objs.size f cdv))->sp vs H Q E ->
 ∃t,xc (zP CX P w K mg base N å scope f cdv A outer s H E) body t/\t { nx:=fun _ H'=>Q .non H',rt:=Q } (start N vs) H) :
    tH P w K mg base CX (k+1) f (PySem.W.fnOf name å params body scope dV kV doc pm an cdv ct) ps sp:=by
  refine⟨len,fun A outer s H args us vs Q E hr e0 hb r hsp=>?_⟩;have hl:=len _ _ _ _ hsp;have KX:K.In s.heap:=e0.mod.kin.keeps fun b o e=>(e0.bs b o e).1;have lim:s.heap.NoLimit:=e0.mod.nolimit.keeps fun b o e=>(e0.bs b o e).1;have sx:∀y∈ps.zip us,scope.names.lookup y.1=some .local\/(scope.names.lookup y.1=some .cell/\((cellsFrom (s.heap.objs.size+1) scope.names []).lookup y.1).isSome=true):=fun ⟨n,v⟩ hy=>by
    rcases S.par n (List.of_mem_zip hy).1 with q | q
    · exact .inl q
    · exact .inr ⟨q,jF _ _ _ (.inl q)⟩
  refine codeAny_call_function hr.depth (KX _ _ lk) Z S.co S.gen Z (PySem.W.codeRec_of KX GT) (hb _ _ _ _ ?_);refine wpAny_newFunctionEnv_cells S.kind sx fun env he s1 x=>?_;subst he;refine⟨lim.keeps x.toInCall.keep,codeAny_func ?_⟩;obtain⟨t,ht,hq⟩:=hbody A outer s H vs Q E (hr.deeper _) hsp;have I:Inv (zP CX P w K mg base N å scope f cdv A outer s H E) [] (start N vs) H s1:=HJ S hr.hd e0 hl r x;refine fL (ht [] s1 (start N vs) H _ I hq) (fun fl s' hs=>?_) fun e s' hs=>hs;have fin:∀{nC:St}{H':Hp}{v:V}{u:Value},Inv (zP CX P w K mg base N å scope f cdv A outer s H E) [] nC H' s'->RelV v u->Q v H'->CE outer P w H s Q u s' :=
    fun {nC H' v u} J rv q=>⟨v,H',J.os,J.bare,J.base,J.hok,rv,q⟩
  cases fl with
  | ret u =>
    obtain⟨v,nC,H',J,rv,q⟩:=hs;exact fin J rv q
  | next =>
    obtain⟨nC,H',J,q⟩:=hs;exact fin (v:=V.non) (u:=Value.none) J Z q
  | brk =>
    obtain⟨_,_,_,q⟩:=hs;exact ô q
  | cont =>
    obtain⟨_,_,_,q⟩:=hs;exact ô q
section
variable {X:Cx}{x:Str}{p pos:Pos}{e:Expr}{es:ő}{t:TA}{id T:String}{r:ň->Hp->VK->Prop}
def Zd (r:ň->Hp->VK->Prop)(t:TA):TE:=fun σ H Q=>t σ H fun vs H1=>r vs H1 Q
def mZ (hc:r8 X (.builtin id) r)(hg:Gl X x)(hm:X.mg x=none)(hv:bootBuiltins x=some (.builtin id))(ha:PA X (e::es) t)(hn:x≠"__name__":=by decide)(IC:(x == ("__debug__":Str))=false:=by decide)
  (he:starEach (e::es) X.env=(false,eval e X.env)::starEach es X.env:=by rfl)(zu:(backTo pos (starEach es X.env)).any (·.1)=false:=by rfl):PE X (.Call (.Name x p) (e::es) [] pos) (Zd r t):=by
 intro â s σ H Q I h;refine gV (rT I hg hm hv ?_ hn IC);exact PyProof.Rows.callWith_builtin1 (oR (ha pos â s σ H _ I h) fun us s1 ⟨vs,H1,I1,r1,q1⟩=>hc â s1 σ H1 vs us Q I1 r1 q1) he zu
def pC (hc:r8 X (.type T) r)(hg:Gl X x)(hm:X.mg x=none)(hv:bootBuiltins x=some (.type T))(ha:PA X (e::es) t)(hn:x≠"__name__":=by decide)(IC:(x == ("__debug__":Str))=false:=by decide)
  (he:starEach (e::es) X.env=(false,eval e X.env)::starEach es X.env:=by rfl)(zu:(backTo pos (starEach es X.env)).any (·.1)=false:=by rfl):PE X (.Call (.Name x p) (e::es) [] pos) (Zd r t):=by
 intro â s σ H Q I h;refine gV (rT I hg hm hv ?_ hn IC);exact cQ (oR (ha pos â s σ H _ I h) fun us s1 ⟨vs,H1,I1,r1,q1⟩=>hc â s1 σ H1 vs us Q I1 r1 q1) he zu
end
end L2
open L2.V renaming int→zad, ref→zbb, str→zdj
namespace HT
open PySem PyProof.Rows
section
def AD (n d:Nat):ŕ->Nat
 | none=>d
 | some v=>if v<0 then (v+(n:Int)).toNat else min v.toNat n
theorem L1 (n d:Nat):AD n d none=d:=rfl
def Bo (n d k:Nat):AD n d (some (k:Int))=min k n:=by
 show (if (k:Int)<0 then ((k:Int)+(n:Int)).toNat else min (k:Int).toNat n)=min k n
 rw[ah lC,ae]
end
end HT
open HT renaming AD→zcz
namespace L2
open PySem PySem.Spec PyProof.Rows
abbrev TO:=St->Hp->(ŕ->Hp->Prop)->Prop
def PO (X:Cx)(e:Option Expr)(t:TO):Prop :=
 ∀(â:ł)(s:Shared)(σ:St)(H:Hp)(Q:ŕ->Hp->Prop),Inv X â σ H s->t σ H Q ->
  wpAny (model X.prog X.w) X.A (evalPart e X.env) (fun u s'=>∃o H',Inv X â σ H' s'/\IsPart u o/\Q o H') X.xe s
def MS:TO:=fun _ H Q=>Q none H
def Uq (t:TE):TO:=fun σ H Q=>t σ H fun x H1=>∃i,x=.int i/\Q (some i) H1
section
variable {X:Cx}{e:Expr}{te:TE}{lo hi:Option Expr}{tl th:TO}{pos p2:Pos}
def GP:PO X none MS:=by
 intro â s σ H Q I h;rw[ja];exact dh ⟨none,H,I,.none,h⟩
def pB (h:PE X e te):PO X (some e) (Uq te):=by
 intro â s σ H Q I hw;rw[evalPart_some];refine oR (h â s σ H _ I hw) fun u s1 ⟨x,H1,I1,r1,q1⟩=>?_;obtain⟨i,rfl,q⟩:=q1;obtain⟨t,rfl⟩:=r1;exact⟨some i,H1,I1,.int i t,q⟩
def SlR (X:Cx)(r:V->ŕ->ŕ->Hp->VK->Prop):Prop :=
 ∀(â:ł)(s:Shared)(σ:St)(H:Hp)(x:V)(v vl vu:Value)(lo hi:ŕ)(sl:Addr)(Q:VK),Inv X â σ H s->RelV x v->s.heap.IsSliceOf sl vl vu .none->IsPart vl lo->IsPart vu hi->r x lo hi H Q ->
  ∃T id,typeLookup (.type T) "__getitem__"=pure (some (.builtin id))/\s.TypeIs v T/\wpAny (model X.prog X.w) X.A (getItem v (.ref sl)) (EP X â σ Q) X.xe s
def tSl (r:V->ŕ->ŕ->Hp->VK->Prop)(te:TE)(tl th:TO):TE:=fun σ H Q=>te σ H fun x H1=>tl σ H1 fun l H2=>th σ H2 fun u H3=>r x l u H3 Q
def tU {r:V->ŕ->ŕ->Hp->VK->Prop}(hr:SlR X r)(he:PE X e te)(hl:PO X lo tl)(hu:PO X hi th):PE X (.Subscript e (.Slice lo hi none p2) pos) (tSl r te tl th):=by
 intro â s σ H Q I h;refine Subscript_ (oR (he â s σ H _ I h) fun v s1 ⟨x,H1,I1,r1,q1⟩=>?_);refine kY (oR (hl â s1 σ H1 _ I1 q1) fun vl s2 ⟨l,H2,I2,pl,q2⟩=>oR (hu â s2 σ H2 _ I2 q2) fun vu s3 ⟨u,H3,I3,pu,q3⟩=>?_);rw[ja];refine dh ?_;have I4:Inv X â σ H3 { s3 with heap:=s3.heap.push { cls:=.type "slice",data:=.fields #[vl,vu,.none] } }:=I3.kept (t':=s3.toks) fun b ob q=>aM _ q;obtain⟨T,id,hT,ht,hg⟩:=hr â { s3 with heap:=s3.heap.push { cls:=.type "slice",data:=.fields #[vl,vu,.none] } } σ H3 x v vl vu l u s3.heap.objs.size Q I4 r1 (jf ..) pl pu q3;show wpAny (model X.prog X.w) X.A (subscriptTail e (.Slice lo hi none p2) v (.ref s3.heap.objs.size)) (EP X â σ Q) X.xe { s3 with heap:=s3.heap.push { cls:=.type "slice",data:=.fields #[vl,vu,.none] } }
 exact tail_any (ops:=[.ref s3.heap.objs.size,v]) ht hT hg (by with_unfolding_all rfl)
def uC (xs:ň)(lo hi:ŕ):ň:=(xs.drop (zcz xs.length 0 lo)).take (zcz xs.length xs.length hi-zcz xs.length 0 lo)
def De (xs:ň)(lo hi:ŕ):(uC xs lo hi).length<=xs.length:=by
 unfold uC;rw[cT,cH];omega
end
def IJ (n:Nat)(i:Int):Option Nat:=if 0<=i then (if i<n then some i.toNat else none) else if -(n:Int)<=i then some (i+n).toNat else none
def oi {α:Type}(xs:List α)(i:Int):Option α:=(IJ xs.length i).bind fun j=>xs[j]?
def Fu {n:Nat}{i:Int}{j:Nat}(h:IJ n i=some j):seqIndex? i n=some j/\j<n/\-(n:Int)<=i/\i<n:=by
 unfold IJ at h
 by_cases h0:0<=i
 .rw[aA h0] at h
  by_cases h1:i<n
  .rw[aA h1] at h;have e:i.toNat=j:=bO h;exact⟨by rw[kZ h0 h1,e],lC,lC,h1⟩
  .rw[ah h1] at h;cases h
 .rw[ah h0] at h
  by_cases h1:-(n:Int)<=i
  .rw[aA h1] at h;have e:(i+n).toNat=j:=bO h;exact⟨by rw[kD lC h1,e],lC,h1,lC⟩
  .rw[ah h1] at h;cases h
def FO {α:Type}{xs:List α}{i:Int}{v:α}(h:oi xs i=some v):∃j,seqIndex? i xs.length=some j/\xs[j]?=some v/\j<xs.length/\-(xs.length:Int)<=i/\i<xs.length:=by
 unfold oi at h;cases e:IJ xs.length i with
 | none=>rw[e] at h;cases h
 | some j =>
  rw[e] at h;obtain⟨h1,h2,h3,h4⟩:=Fu e;exact⟨j,h1,h,h2,h3,h4⟩
def nV {α:Type}{xs:List α}{j:Nat}{v:α}(h:xs[j]?=some v):oi xs (j:Int)=some v:=by
 have hj:j<xs.length:=(aJ.mp h).1;have e:IJ xs.length (j:Int)=some j:=by
  unfold IJ;rw[aA lC,aA lC];simp
 unfold oi;rw[e];exact h
def Gw (b:Expr):Prop:=∀o i,subscripted b false o i=operate [o,i] (getItem o i)
def R6 (X:Cx)(r:R2):Prop :=
 ∀(value slice:Expr)(â:ł)(s:Shared)(σ:St)(H:Hp)(x y:V)(v u:Value)(Q:VK),Inv X â σ H s->RelV x v->RelV y u->r x y H Q ->
  subscripted slice false v u=operate [v,u] (getItem v u)->wpAny (model X.prog X.w) X.A (subscriptTail value slice v u) (EP X â σ Q) X.xe s
def MtR (X:Cx)(id:String)(r:V->ň->Hp->VK->Prop):Prop :=
 ∀(â:ł)(s:Shared)(σ:St)(H:Hp)(x:V)(xs:ň)(v:Value)(us:ņ)(Q:VK),Inv X â σ H s->RelV x v->Vals xs us->r x xs H Q ->
  wpAny (model X.prog X.w) X.A (call (.builtin id) (v::us)) (EP X â σ Q) X.xe s
section
variable {â:ł}
variable {X:Cx}{a b:Expr}{ta tb:TE}{pos:Pos}
def Tc {r:R2}(hr:R6 X r)(ha:PE X a ta)(hb:PE X b tb)(hs:Gw b):PE X (.Subscript a b pos) (R1 r ta tb):=by
 intro â s σ H Q I h;exact Subscript_ (QL ha hb I h fun v u s2 x y H2 I2 rx ry q=>hr a b â s2 σ H2 x y v u Q I2 rx ry q (hs _ _))
def T5 (K:zfq):R2:=fun x y H Q=>∃p xs i v,x=.ref p/\y=.int i/\mj K H p xs/\oi xs i=some v/\Q v H
def SJ (K:zfq):R2:=fun x y H Q=>∃p xs i v,x=.ref p/\y=.int i/\mW K H p xs/\oi xs i=some v/\Q v H
def mU:R6 X (T5 X.K):=by
 intro value slice â s σ H x y v u Q I rx ry h hs;obtain⟨p,xs,i,z,rfl,rfl,hq,he,q⟩:=h;cases rx;obtain⟨t,rfl⟩:=ry;obtain⟨its,r,pl,hz⟩:=I.list hq;obtain⟨j,h1,h2,h3,h4,h5⟩:=FO he;obtain⟨w,ew,Hz⟩:=r.get h2;have hl:=r.length;have hn:=A7;have fin:EP X â σ Q w s:=⟨z,H,I,Hz,q⟩
 by_cases h0:0<=i
 .have hj:i.toNat=j:=by
   rw[kZ h0 h5] at h1;exact bO h1
  exact item_listR pl.isList h0 lC (by rw[hj];simpa using ew) fin hs
 .have hj:(i+(its.toArray.size:Int)).toNat=j:=by
   rw[kD lC h4] at h1;rw[cf,<-hl];exact bO h1
  exact subscriptTail_builtinR (x:=w) pl.isList.typeIs slot_list_getitem.lookup
   (wpAny_getItem_list_neg (Q:=fun r s'=>r=w/\EP X â σ Q r s') pl.isList lC (by rw[cf]<;>omega) lC (by rw[hj];simpa using ew) ⟨Z,fin⟩) hs
def mv:R6 X (SJ X.K):=by
 intro value slice â s σ H x y v u Q I rx ry h hs;obtain⟨p,xs,i,z,rfl,rfl,hq,he,q⟩:=h;cases rx;obtain⟨t,rfl⟩:=ry;obtain⟨its,r,pl,hz⟩:=I.tuple hq;obtain⟨j,h1,h2,h3,h4,h5⟩:=FO he;obtain⟨w,ew,Hz⟩:=r.get h2;have hl:=r.length;have hn:=A7;have fin:EP X â σ Q w s:=⟨z,H,I,Hz,q⟩;exact subscriptTail_builtinR (x:=w) pl.typeIs slot_tuple_getitem.lookup
  (getItem_tuple (j:=j) (Q:=fun r s'=>r=w/\EP X â σ Q r s') pl lC lC (by rw[cf,<-hl];exact h1) (by simpa using ew) ⟨Z,fin⟩) hs
def E4 (its:ņ)(n j:Nat)(u:Value):Obj.mapSeq (·.setIfInBounds j u) { cls:=.type "list",data:=.seq its.toArray n }={ cls:=.type "list",data:=.seq (its.set j u).toArray n }:=by
 simp[Obj.mapSeq]
def Inv.lst {â:ł}{σ:St}{H:Hp}{s:Shared}{p:Addr}{xs:ň}(I:Inv X â σ H s)(h:H p=some (.lst xs)) :
  ∃(its:ņ)(n:Nat),Vals xs its/\s.heap.get? p=some { cls:=.type "list",data:=.seq its.toArray n }/\xs.length<=sizeLine:=by
 obtain⟨z,its,n,r,e⟩:=I.hok p _ h;exact⟨its,n,r,e,z⟩
def Inv.PU {σ:St}{H:Hp}{s:Shared}{p:Addr}{xs ys:ň}{its its':ņ}{n n':Nat}{f:Obj->Obj}(I:Inv X â σ H s)(h:H p=some (.lst xs))
 (ho:s.heap.get? p=some { cls:=.type "list",data:=.seq its.toArray n })(hf:f { cls:=.type "list",data:=.seq its.toArray n }={ cls:=.type "list",data:=.seq its'.toArray n' })(r:Vals ys its')(hz:ys.length<=sizeLine)(t:Nat) :
    Inv X â σ (upd H p (.lst ys)) { s with heap:=s.heap.update p f,toks:=t }:=by
  have e:(s.heap.update p f).get? p=some { cls:=.type "list",data:=.seq its'.toArray n' }:=by
    rw[kT f ho (by rw[hf]<;>rfl),hf]
  refine I.write (x:=p) (e:=p) (by rw[h];trivial) (.inl Z) (fun b u hb q=>(kE _ _ (dR hb)).trans q) ⟨_,e⟩ ?_;exact⟨hz,its',n',r,e⟩
def Tu:V->V->V->Hp->(Hp->Prop)->Prop:=fun o i v H Q=>∃p xs k j,o=.ref p/\i=.int k/\H p=some (.lst xs)/\IJ xs.length k=some j/\Q (upd H p (.lst (xs.set j v)))
def set_list:Tt X Tu:=by
 intro â s σ H o i v ov iv u Q I ro ri rv h;obtain⟨p,xs,k,j,rfl,rfl,hp,hj,q⟩:=h;cases ro;obtain⟨t,rfl⟩:=ri;obtain⟨its,n,r,ho,hz⟩:=I.lst hp;obtain⟨h1,h2,h3,h4⟩:=Fu hj;have hl:=r.length;have hn:=A7;have I':Inv X â σ (upd H p (.lst (xs.set j v))) { s with heap:=s.heap.update p (Obj.mapSeq (·.setIfInBounds j u)) } :=
  I.PU hp ho (E4 its n j u) (r.set rv j) (by rw[cI];exact hz) s.toks
 by_cases h0:0<=k
 .have hk:k.toNat=j:=by
   rw[kZ h0 h4] at h1;exact bO h1
  exact PySem.W.ki_setAt ho h0 lC (by rw[cf,<-hl];exact h4) (by rw[hk];exact⟨_,I',q⟩)
 .have hk:(k+(its.toArray.size:Int)).toNat=j:=by
   rw[kD lC h3] at h1;rw[cf,<-hl];exact bO h1
  exact PySem.W.ki_setBack ho lC (by rw[cf,<-hl];exact h3) lC (by rw[hk];exact⟨_,I',q⟩)
def BP (lo hi:ŕ)(n:Nat):(sliceBounds lo hi none n).1=((zcz n 0 lo:Nat):Int)/\(sliceBounds lo hi none n).2.1=((zcz n n hi:Nat):Int)/\(sliceBounds lo hi none n).2.2=1:=by
 refine⟨?_,?_,Z⟩
 .cases lo with
  | none=>simp[sliceBounds,zcz]
  | some i =>
   simp only[sliceBounds,zcz,Ġ,show (1:Int) > 0 by decide,if_true]
   by_cases h:i<0
   .simp only[h,if_true]<;>omega
   .simp only[h,if_false]<;>omega
 .cases hi with
  | none=>simp[sliceBounds,zcz]
  | some i =>
   simp only[sliceBounds,zcz,Ġ,show (1:Int) > 0 by decide,if_true]
   by_cases h:i<0
   .simp only[h,if_true]<;>omega
   .simp only[h,if_false]<;>omega
def zN (its:ņ)(lo hi:ŕ):slicePick its.toArray lo hi none=((its.drop (zcz its.length 0 lo)).take (zcz its.length its.length hi-zcz its.length 0 lo)).toArray:=by
 obtain⟨h1,h2,h3⟩:=BP lo hi its.toArray.size;unfold slicePick;rw[h1,h2,h3];simp only[sliceRange_one,pick_run,ź]<;>rfl
def T8 (K:zfq):V->ŕ->ŕ->Hp->VK->Prop:=fun x lo hi H Q=>∃a xs,x=.ref a/\mj K H a xs/\∀p,H p=none->Q (.ref p) (upd H p (.lst (uC xs lo hi)))
def v3:SlR X (T8 X.K):=by
 intro â s σ H x v vl vu lo hi sl Q I rx hs pl pu h;obtain⟨a,xs,rfl,hx,q⟩:=h;cases rx;obtain⟨its,r,ht,hz⟩:=I.list hx;have æ:=r.length;refine⟨"list",_,slot_list_getitem.lookup,ht.isList.typeIs,?_⟩;refine iE ht.isList hs pl pu .none lB ?_ (by rw[ź]<;>omega);rw[zN,<-æ];refine⟨.ref s.heap.objs.size,_,I.laid (t':=s.toks) (o:=.lst (uC xs lo hi)) (fun b ob q=>aM _ q) (aG _) ?_,Z,q _ (I.hok.fresh (aG _))⟩;exact⟨aS (De xs lo hi) hz,_,0,(r.drop (zcz xs.length 0 lo)).take (zcz xs.length xs.length hi-zcz xs.length 0 lo),bV _ Z⟩
def vK:r8 X (.builtin "len") (fun xs H Q=>∃p ys,xs=[.ref p]/\(mj X.K H p ys\/mW X.K H p ys)/\Q (.int ys.length) H):=by
 intro â s σ H xs us Q I r h;obtain⟨p,ys,rfl,hq,q⟩:=h;obtain⟨u,rfl,rx⟩:=vals1 r;cases rx;have hn:=A7;rcases hq with hq | hq
 .obtain⟨its,r',pl,hz⟩:=I.list hq;have æ:=r'.length;exact Calls.call_len_list pl.isList (by simp only[ź]<;>omega) ⟨.int ys.length,H,I.tok _,⟨s.toks+1,by rw[ź,æ]⟩,q⟩
 .obtain⟨its,r',pl,hz⟩:=I.tuple hq;have æ:=r'.length;exact len_tuple pl (by simp only[ź]<;>omega) ⟨.int ys.length,H,I.tok _,⟨s.toks+1,by rw[ź,æ]⟩,q⟩
def oE:r8 X (.type "list") (fun xs H Q=>∃p ys,xs=[.ref p]/\(mj X.K H p ys\/mW X.K H p ys)/\∀l,H l=none->Q (.ref l) (upd H l (.lst ys))):=by
 intro â s σ H xs us Q I r h;obtain⟨p,ys,rfl,hq,q⟩:=h;obtain⟨u,rfl,rx⟩:=vals1 r;cases rx;have fin:∀(its:ņ),Vals ys its->ys.length<=sizeLine->∀(h':Heap)(c':Nat),(∀b o',s.heap.get? b=some o'->h'.get? b=some o') ->
   h'.get? s.heap.objs.size=some { cls:=.type "list",dict:=none,data:=.seq its.toArray c',slots:=#[] }->EP X â σ Q (.ref s.heap.objs.size) { s with heap:=h' }:=fun its r' hz h' c' kp e =>
  ⟨.ref s.heap.objs.size,_,I.laid (t':=s.toks) kp (aG _) (show pL X.prog X.w _ h' _ (.lst ys) from ⟨hz,its,c',r',e⟩),Z,q _ (I.hok.fresh (aG _))⟩
 rcases hq with hq | hq
 .obtain⟨its,r',pl,hz⟩:=I.list hq;have æ:=r'.length;obtain⟨o,ho,hc,n,hd⟩:=pl.isList;exact call_list_seq p (.inl Z) ho hc hd (fun h' c' kp e=>fin its r' hz h' c' kp e) (by simp only[ź]<;>omega)
 .obtain⟨its,r',pl,hz⟩:=I.tuple hq;have æ:=r'.length;obtain⟨o,ho,hc,n,hd⟩:=pl;exact call_list_seq p (.inr Z) ho hc hd (fun h' c' kp e=>fin its r' hz h' c' kp e) (by simp only[ź]<;>omega)
def zF:r8 X (.type "tuple") (fun xs H Q=>∃p ys,xs=[.ref p]/\((mj X.K H p ys/\∀l,H l=none->Q (.ref l) (upd H l (.tup ys)))\/(mW X.K H p ys/\Q (.ref p) H))):=by
 intro â s σ H xs us Q I r h;obtain⟨p,ys,rfl,h⟩:=h;obtain⟨u,rfl,rx⟩:=vals1 r;cases rx;rcases h with ⟨hq,q⟩ | ⟨hq,q⟩
 .obtain⟨its,r',pl,hz⟩:=I.list hq;have æ:=r'.length;refine call_tuple_list pl.isList (fun h' kp=>?_) (by simp only[ź]<;>omega);have I1:Inv X â σ H { s with heap:=h' }:=I.kept (t':=s.toks) kp;have I2:Inv X â σ (upd H h'.objs.size (.tup ys)) { s with heap:=h'.push { cls:=.type "tuple",data:=.seq its.toArray } } :=
   I1.laid (t':=s.toks) (fun b o e=>aM _ e) (aG _) (show pL X.prog X.w _ _ _ (.tup ys) from ⟨hz,its,r',IsTup.new _ _⟩)
  exact⟨.ref h'.objs.size,_,I2,Z,q _ (I1.hok.fresh (aG _))⟩
 .obtain⟨its,r',pl,hz⟩:=I.tuple hq;exact call_tuple_same pl ⟨.ref p,H,I,Z,q⟩
def Yr (K:zfq)(T:String)(x:V)(H:Hp):Prop:=match x with
 | .str _=>T = "str"
 | .int _=>T = "int"
 | .ref p=>(T = "list"/\∃xs,mj K H p xs)\/(T = "tuple"/\∃o,K.lookup p=some o/\o.cls=.type "tuple"/\o.dict=none) \/
   (T = "dict"/\((∃kvs,H p=some (.dK kvs))\/∃kvs,H p=some (.dT kvs)))\/(T = "set"/\∃S n,H p=some (.set S n))
 | _=>e8
def KD {σ:St}{H:Hp}{s:Shared}{T:String}{x:V}{v:Value}(I:Inv X â σ H s)(r:RelV x v)(ty:Yr X.K T x H) :
  s.TypeIs v T/\∀a,v=.ref a->∃ob,s.heap.get? a=some ob/\ob.dict=none:=by
 cases x with
 | str z =>
  obtain⟨t,rfl⟩:=r;cases (show T = "str" from ty);exact⟨typeIs_str s z t,fun _ e=>nomatch e⟩
 | int i =>
  obtain⟨t,rfl⟩:=r;cases (show T = "int" from ty);exact⟨typeIs_int s i t,fun _ e=>nomatch e⟩
 | ref p =>
  cases r;rcases ty with ⟨rfl,xs,hq⟩ | ⟨rfl,o,hk,hc,hd⟩ | ⟨rfl,hk⟩ | ⟨rfl,S,n,hk⟩
  .obtain⟨its,_,pl,_⟩:=I.list hq;refine⟨pl.isList.typeIs,fun a e=>?_⟩;cases e;obtain⟨o,n,e,c,hd,_⟩:=pl;exact⟨o,e,hd⟩
  .refine⟨⟨o,I.xO p o hk,hc⟩,fun a e=>?_⟩;cases e;exact⟨o,I.xO _ o hk,hd⟩
  .have z:∃o,s.heap.get? p=some o/\o.ExactDict:=by
    rcases hk with ⟨kvs,hk⟩ | ⟨kvs,hk⟩
    .obtain⟨_,_,_,_,o,_,_,e,ex,_⟩:=I.hok p _ hk;exact⟨o,e,ex⟩
    .obtain⟨_,_,_,_,o,_,_,e,ex,_⟩:=I.hok p _ hk;exact⟨o,e,ex⟩
   obtain⟨o,e,ex⟩:=z;refine⟨⟨o,e,ex.1⟩,fun a e2=>?_⟩;cases e2;exact⟨o,e,ex.2.1⟩
  .obtain⟨o,_,_,_,e,ex,_⟩:=I.hok p _ hk;refine⟨⟨o,e,ex.1⟩,fun a e2=>?_⟩;cases e2;exact⟨o,e,ex.2.1⟩
 | _=>exact ô ty
def zaa (K:zfq)(T:String)(r:V->ň->Hp->VK->Prop)(to:TE):TE:=fun σ H Q=>to σ H fun x H1=>Yr K T x H1/\r x [] H1 Q
def tBM (K:zfq)(T:String)(r:V->ň->Hp->VK->Prop)(to:TE)(t:TA):TE:=fun σ H Q=>to σ H fun x H1=>Yr K T x H1/\t σ H1 fun xs H2=>r x xs H2 Q
variable {o e:Expr}{es:ő}{to:TE}{t:TA}{name:Str}{apos cpos:Pos}{T id:String}{r:V->ň->Hp->VK->Prop}
def yK (pa:PlainAttrs T)(slot:Slot T name id)(hty:typeOf (.builtin id)=pure (.type "method_descriptor"))(hm:MtR X id r)(ho:PE X o to)
  (L7:attributeBase o name X.env (eval o X.env)=eval o X.env:=by rfl)(L8:(apos.endLine == cpos.line)=true:=by rfl):PE X (.Call (.Attribute o name apos) [] [] cpos) (zaa X.K T r to):=by
 intro â s σ H Q I h;refine wpAny_Call_method0_late L7 L8 (oR (ho â s σ H _ I h) fun v s1 ⟨x,H1,I1,r1,ty,q1⟩=>?_);obtain⟨h1,h2⟩:=KD I1 r1 ty;exact⟨T,id,pa,slot,hty,h1,h2,kG Z (PySem.evalArgs_none (hm â s1 σ H1 x [] v [] Q I1 r1 .nil q1))⟩
def vX (pa:PlainAttrs T)(slot:Slot T name id)(hty:typeOf (.builtin id)=pure (.type "method_descriptor"))(hm:MtR X id r)(ho:PE X o to)(ha:PA X (e::es) t)
  (L7:attributeBase o name X.env (eval o X.env)=eval o X.env:=by rfl)
  (zaR:((backTo cpos (starEach (e::es) X.env)).all (fun x=>!x.1) && (backToKw cpos (keywordEach [] X.env)).all (fun x=>x.1.isSome)
   && decide ((e::es).length+([]:List Keyword).length+(if ([]:List Keyword).isEmpty then 0 else 1)<30))=true:=by rfl)
  (L8:(apos.endLine == cpos.line)=true:=by rfl)(hs:starEach (e::es) X.env=(false,eval e X.env)::starEach es X.env:=by rfl)(Ru:(backTo cpos (starEach es X.env)).any (·.1)=false:=by rfl) :
  PE X (.Call (.Attribute o name apos) (e::es) [] cpos) (tBM X.K T r to t):=by
 intro â s σ H Q I h;refine wpAny_Call_method_late L7 zaR L8 Z (oR (ho â s σ H _ I h) fun v s1 ⟨x,H1,I1,r1,ty,q1⟩=>?_);obtain⟨h1,h2⟩:=KD I1 r1 ty;refine⟨T,id,pa,slot,hty,h1,h2,?_⟩;have hA:=ha cpos â s1 σ H1 _ I1 q1;rw[hs] at hA ⊢;refine kG (by show (false || (backTo cpos (starEach es X.env)).any (·.1))=false;rw[Ru]<;>rfl) (Calls.evalArgs_plain ?_);exact oR hA fun us s2 ⟨vs,H2,I2,r2,q2⟩=>hm â s2 σ H2 x vs v us Q I2 r1 r2 q2
end
def MtM (X:Cx)(id:String)(r:V->ň->Hp->VK->Prop):Prop :=
 ∀(â:ł)(s:Shared)(σ:St)(H:Hp)(x:V)(xs:ň)(v:Value)(us:ņ)(Q:VK),Inv X â σ H s->RelV x v->Vals xs us->r x xs H Q ->
  wpAny (model X.prog X.w) X.A (call (.builtin id) (v::us)) (EP X â σ Q) X.xe s
def Vals.one:∀{x:V}{us:ņ},Vals [x] us->∃u,us=[u]/\RelV x u
 | _,_,.cons r .nil=>⟨_,Z,r⟩
def Vals.rep {xs:ň}{us:ņ}(h:Vals xs us):∀k:Nat,Vals (ş k xs).flatten (ş k us).flatten
 | 0=>.nil
 | k+1=>by
  rw[dQ,dQ,fX,fX];exact Vals.append h (Vals.rep h k)
def foldl_rep (its:ņ):∀(k:Nat)(acc:ņ),
  Ĥ (fun x1 x2=>x1++x2) acc.toArray (ş k its.toArray)=(acc++(ş k its).flatten).toArray
 | 0,acc=>by simp
 | k+1,acc=>by
  have e:acc.toArray++its.toArray=(acc++its).toArray:=by simp
  have e2:(acc++its)++(ş k its).flatten=acc++(ş (k+1) its).flatten:=by
   rw[dQ,fX,ii]
  rw[<-e2,<-foldl_rep its k (acc++its),<-e,dQ,List.foldl_cons]
section
variable {X:Cx}{â:ł}{σ:St}{H:Hp}{s:Shared}{l:Addr}{xs ys:ň}
def Inv.Yl {its its':ņ}{n:Nat}{f:Array Value->Array Value}{t':Nat}(I:Inv X â σ H s)(hH:H l=some (.lst xs))
  (e:s.heap.get? l=some { cls:=.type "list",data:=.seq its.toArray n })(hf:f its.toArray=its'.toArray)(hv:Vals ys its')(hz:ys.length<=sizeLine) :
  Inv X â σ (upd H l (.lst ys)) { s with heap:=s.heap.update l (Obj.mapSeq f),toks:=t' }:=by
 have q:=PySem.IsL.update e f;rw[hf] at q;refine I.write (x:=l) (e:=l) (by rw[hH];exact trivial) (.inl Z) (fun b' u hb hu=>(kE s.heap (Obj.mapSeq f) (dR hb)).trans hu) ⟨_,q⟩ ?_;exact⟨hz,its',_,hv,q⟩
def Inv.UN {its:ņ}{t':Nat}(I:Inv X â σ H s)(hv:Vals ys its)(hz:ys.length<=sizeLine) :
  Inv X â σ (upd H s.heap.objs.size (.lst ys)) { s with heap:=s.heap.push { cls:=.type "list",data:=.seq its.toArray },toks:=t' } :=
 I.laid (fun _ _ q=>aM _ q) (aG _) ⟨hz,its,0,hv,bV _ Z⟩
def Inv.fresh (I:Inv X â σ H s):H s.heap.objs.size=none:=I.hok.fresh (aG _)
def Inv.MY (I:Inv X â σ H s)(hH:H l=some (.lst xs)):xs.length<=sizeLine/\∃(its:ņ)(n:Nat),Vals xs its/\xs.length=its.length/\s.heap.get? l=some { cls:=.type "list",data:=.seq its.toArray n }:=by
 obtain⟨z,its,n,r,e⟩:=I.hok l _ hH;exact⟨z,its,n,r,r.length,e⟩
def LA {n:Nat}(h:n<=sizeLine):Builtin.List.listTooLong n=false:=by
 unfold Builtin.List.listTooLong;exact fq lC
end
section
variable {X:Cx}
def Oa:V->ň->Hp->VK->Prop:=fun x vs H Q=>∃l xs y,x=.ref l/\vs=[y]/\H l=some (.lst xs)/\xs.length<sizeLine/\Q .non (upd H l (.lst (xs++[y])))
def o5:MtM X "list.append" Oa:=by
 intro â s σ H x vs v us Q I rx rv h;obtain⟨l,xs,y,rfl,rfl,hH,hz,q⟩:=h;cases rx;obtain⟨u,rfl,ru⟩:=rv.one;obtain⟨z,its,n,r,hl,e⟩:=I.MY hH;refine call_meets F.slot_list_append ⟨_,e,Z⟩ F.entry_list_append (F.args_list_append_2 _ _) (PySem.list_append l its.toArray n u (by rw[cf];omega)) ⟨e,?_⟩;refine⟨.non,_,I.Yl (its':=its++[u]) hH e lB (r.append (.cons ru .nil)) ?_,Z,q⟩;rw[aP,eC];omega
def XU:R2:=fun x y H Q=>∃l b xs zs,x=.ref l/\y=.ref b/\H l=some (.lst xs)/\H b=some (.lst zs)/\xs.length+zs.length<=sizeLine/\∀p,H p=none->Q (.ref p) (upd H p (.lst (xs++zs)))
def tP:wy X (binaryOp .Add) XU:=by
 intro â s σ H x y v u Q I rx ry h;obtain⟨l,b,xs,zs,rfl,rfl,hH,hB,hz,q⟩:=h;cases rx;cases ry;obtain⟨z,its,n,r,hl,e⟩:=I.MY hH;obtain⟨z2,U2,n2,r2,Rv,e2⟩:=I.MY hB;refine PySem.P.add_list e e2 ?_ (by rw[cf,cf];omega);have ea:its.toArray++U2.toArray=(its++U2).toArray:=by simp
 rw[ea];exact⟨.ref _,_,I.UN (t':=s.toks) (r.append r2) (by rw[aP];omega),Z,q _ I.fresh⟩
def X3:R2:=fun x y H Q=>∃l k xs,x=.ref l/\y=.int k/\H l=some (.lst xs)/\-(2^63)<=k/\k<2^63/\xs.length*k.toNat<=sizeLine /\
 ∀p,H p=none->Q (.ref p) (upd H p (.lst (ş k.toNat xs).flatten))
def len_rep {α:Type}(xs:List α)(k:Nat):(ş k xs).flatten.length=k*xs.length:=by
 induction k with
 | zero=>simp
 | succ k ih=>rw[dQ,fX,aP,ih,fv,Nat.add_comm]
def re:wy X (binaryOp .Mult) X3:=by
 intro â s σ H x y v u Q I rx ry h;obtain⟨l,k,xs,rfl,rfl,hH,h1,h2,hz,q⟩:=h;cases rx;obtain⟨t,rfl⟩:=ry;obtain⟨z,its,n,r,hl,e⟩:=I.MY hH;have æ:its.toArray.size*k.toNat<=sizeLine:=by rw[cf,<-hl];exact hz
 have zv:¬its.toArray.size*k.toNat > (2^63-1)/8:=by
  have:(sizeLine:Nat)<=(2^63-1)/8:=L;omega
 have zaS:¬(!Builtin.List.listFitsIndex k)=true:=by
  rw[fitsIndex_both h1 h2];exact b3
 have U3:¬Builtin.List.listTooLong (its.toArray.size*k.toNat)=true:=by
  rw[LA æ];exact b3
 have zaT:Ĥ (fun x1 x2=>x1++x2) #[] (ş (if its.toArray.isEmpty=true then 0 else k.toNat) its.toArray)=(ş k.toNat its).flatten.toArray:=by
  have f0:∀m:Nat,Ĥ (fun x1 x2=>x1++x2) #[] (ş m its.toArray)=(ş m its).flatten.toArray:=fun m=>by
   have:=foldl_rep its m [];rw[jg] at this;exact this
  rw[f0];cases its with
  | nil=>simp
  | cons a r'=>rw[ah lB]
 refine wpAny_binaryOp_repeat_ref (T:="list") (U:="int") L ⟨_,e,Z⟩ (fun s'=>typeIs_int s' k t) noFill_list_mul F.fills_int_mul F.slot_int_rmul repeat_list F.slot_int_index.lookup
  (call_meets F.slot_int_rmul (typeIs_int s k t) F.entry_int_rmul (F.args_int_rmul_2 _ _) (int___rmul___int_list k t l its.toArray n)
   ⟨e,Z,⟨_,e,Z⟩,call_meets F.slot_list_mul ⟨_,e,Z⟩ F.entry_list_mul (F.args_list_mul_2 _ _) (AutoListH.list___mul___list_int_3 l its.toArray n k t zaS zv U3) ⟨e,?_⟩⟩)
 rw[zaT];exact⟨.ref _,_,I.UN (t':=s.toks) (r.rep k.toNat) (by rw[len_rep,dJ];exact hz),Z,q _ I.fresh⟩
end
end L2
namespace Att
open PySem PySem.W PySem.Calls PyProof.Rows
def xA {P:Params}{h:Heap}:∀(ns:ń)(vs:ņ),WellAll P h vs (ns.map WData.int)->IntsAre vs ns:=by
 intro ns
 induction ns with
 | nil =>
  intro vs w;rw[jG] at w;cases w;exact .nil
 | cons n ns ih =>
  intro vs w;rw[eD] at w;cases w with
  | cons a b =>
   cases a;exact .cons _ _ (ih _ b)
def Hy {l:OpenLaw}{n:Nat}(hn:l.most=some n){P:Params}{h:Heap}{args:List WData}{vals:ņ}
  (ID:l.row.toRowW.claim.pre args=true)(U4:WellAll P h vals args) :
  ∃a vs ns,vals=[Value.ref a]/\args=[WData.list (ns.map WData.int)]/\h.get? a=some { cls:=.type "list",data:=.seq vs.toArray }/\IntsAre vs ns/\ns.length<=n:=by
 have hsh:WShape.hasAll [] args [.list .int]=true:=(pre_splitW ID).1;have hc:l.pre.holds [] { args:=args }=true:=(pre_splitW ID).2;obtain⟨d,r,rfl,h1,h2⟩:=hasAllW_cons hsh;obtain rfl:=hasAllW_nil h2;obtain⟨xs,rfl,h3⟩:=hasW_list h1;obtain⟨ns,rfl⟩:=items_int h3;have æ:ns.length<=n:=by
  unfold OpenLaw.pre at hc;have h4:(WTm.not (.lt (.lit (.int (n:Int))) (.len (.arg 0)))).holds [] { args:=[.list (ns.map .int)] }=true:=by
   have h4:=(holds_andW hc).1;rw[hn] at h4;exact h4
  have h5:=condW_of h4 (w_not (w_lt w_lit (w_len_list (w_arg Z))));rw[aa] at h5;refine gn fun q=>?_;have q':(n:Int)<((ns.length:Nat):Int):=lC
  first
   | (rw[cB q'] at h5;exact absurd h5 L)
   | (simp at h5;omega)
 cases U4 with
 | cons w1 w2 =>
  cases w2;cases w1 with
  | list ho zaU=>exact⟨_,_,ns,Z,Z,ho,xA ns _ zaU,æ⟩
def Ik (l:OpenLaw)(args:List WData):l.row.toRowW.claim.post args (.bool true) args=true :=
 postW_of (r:=l.row.toRowW) (X:=(true == true))
  (show WShape.has [] (.bool true) .bool=true by first | rfl | decide | simp[WShape.has,WShape.arms,WShape.armsAll])
  (show (WTm.eq .res (.lit (.bool true))).value [] { args:=args,res:=some (.bool true),after:=args }=some (.bool (true == true)) from w_eq_bool (w_res Z) w_lit) Z
def Cq {l:OpenLaw}{n:Nat}{q:Program}{loose:ō}{XP:(Str->Option Value)->Heap->Prop}{YP:World->Heap->Prop}{d:DefRec}
  (hn:l.most=some n)(U5:d.params.defaults=[])
  (call:∀(w:World)(s₀ s₁:Shared)(mg mb:ś)(fa:Addr)(o:Obj)(pm cd doc:Value)(a:Addr)(vs:ņ)(ns:ń),
   Ground q loose [] XP w s₀ mg mb s₁.heap->YP w s₁.heap ->
   s₁.heap.get? fa=some o->o.data=.func (docDef d.name d.params d.body d.scope pm cd doc)->s₁.heap.CodeRec cd d.name->mg d.name=some (.ref fa) ->
   s₁.heap.get? a=some { cls:=.type "list",data:=.seq vs.toArray }->IntsAre vs ns->ns.length<=n->s₁.gens=#[] ->
   codeAny (model l.prog w) callerA (.call (.ref fa) ⟨[.ref a],[]⟩) (fun r s'=>r=.ok (.ret (.bool true))/\OldK s₁.heap s'.heap/\s'.os=s₁.os/\AllBare s'.gens) s₁) :
  WalkO q loose XP YP l.row.toRowW d [] (fun f vs=>PySem.call f vs):=by
 intro w s₀ s₁ mg mb G Y fa o pm cd doc dV kV ho hd GT hD Rw hg args vals as ID U6 hrd U4 zX;obtain rfl:dV=.none:=Dflts.none hD U5;obtain rfl:kV=.none:=Dflts.noKw hD;obtain⟨a,vs,ns,rfl,rfl,Ry,hints,æ⟩:=Hy hn ID U4;refine enter_call (jr (call w s₀ s₁ mg mb fa o pm cd doc a vs ns G Y ho (fd_plain hd) GT Rw Ry hints æ hg) fun r s' hq=>?_);obtain⟨rfl,h2,h3,h4⟩:=hq;exact⟨.inl ⟨.bool true,.bool true,[],Z,fun _=>Z,.bool true,Ik l _,fun _=>⟨List.Pairwise.nil,fun _ hm=>(nomatch hm)⟩⟩,h2,h3,h4⟩
end Att
namespace L2
open PySem PySem.Spec PyProof.Rows
def Ao:∀{vs:ņ}{ns:ń},IntsAre vs ns->Vals (ns.map zad) vs
 | _,_,.nil=>.nil
 | _,_,.cons n t h=>.cons ⟨t,Z⟩ (Ao h)
def QM (H:Hp):Prop:=∀b,H b=none\/∃o xs,H b=some (.frz o (.lst xs))
def Ku {P:Program}{w:World}{K:zfq}{mg mb:ś}{CX:Kh}{k:Nat}{fa a:Addr}{fd:FuncData}{x:Str}{sp:Sp}{s₁:Shared}{vs:ņ}{ns:ń}
  (KX:K.In s₁.heap)(hns:s₁.heap.Ns mainGlobals mg)(hb:s₁.heap.Ns builtinsNs mb)(hbb:∀x:Str,x≠"__name__"->mb x=bootBuiltins x)(zaV:s₁.heap.NoLimit)(hg:s₁.gens=#[])
  (ha:s₁.heap.get? a=some { cls:=.type "list",data:=.seq vs.toArray })(hi:IntsAre vs ns)(hl:ns.length<=sizeLine)(hr:oT k callerA)
  (F:∀base:Heap,K.In base->base.Ns mainGlobals mg->tH P w K mg base CX k fa fd [x] sp)(U7:∀(s:Shared)(u:Value),BindsTo s fd ⟨[u],[]⟩ [(x,u)])
  (hsp:∀H:Hp,QM H->mj K H a (ns.map zad)->sp [.ref a] H (fun v _=>v=.bl true) fun _ _ _=>e8)
  (hCX:∀H e s',CX [] H s₁ (fun _ _ _=>e8) e s'->e8) :
  codeAny (model P w) callerA (.call (.ref fa) ⟨[.ref a],[]⟩) (fun r s'=>r=.ok (.ret (.bool true))/\OldK s₁.heap s'.heap/\s'.os=s₁.os/\AllBare s'.gens) s₁:=by
 have rv:=Ao hi;have zaW:=hi.length
 -- from an abstract heap in zeh nothing but the script may be tracked
 have core:∀H:Hp,QM H->mj K H a (ns.map zad)->xL P w H s₁.heap->(∀b,H b≠none->b=a)->(H a≠none->K.lookup a=none) ->
   codeAny (model P w) callerA (.call (.ref fa) ⟨[.ref a],[]⟩) (fun r s'=>r=.ok (.ret (.bool true))/\OldK s₁.heap s'.heap/\s'.os=s₁.os/\AllBare s'.gens) s₁:=by
  intro H hO hS hok hA hK;have base_of:∀{b:Addr}{o:Obj},s₁.heap.get? b=some o->H b=none->(B7 s₁.heap H).get? b=some o:=fun e n=>Ke e n;have noA:∀{b:Addr}{o:Obj}{es:Array DictEntry}{ep:Nat},s₁.heap.get? b=some o->o.data=.dict es ep->H b=none:=fun {b o es ep} e d=>by
   cases q:H b with
   | none=>rfl
   | some u =>
    have e':b=a:=hA b (by rw[q];simp);subst e';rw[ha] at e;cases e;have d':Data.seq vs.toArray _=Data.dict es ep:=d;cases d'
  have WE:∀{b:Addr}{m:ś},s₁.heap.Ns b m->(B7 s₁.heap H).Ns b m:=fun {b m} ⟨o,es,ep,e,d,r⟩=>⟨o,es,ep,base_of e (noA e d),d,r⟩;have hKb:K.In (B7 s₁.heap H):=fun b o e=>base_of (KX b o e) (by
   cases q:H b with
   | none=>rfl
   | some u =>
    have e':b=a:=hA b (by rw[q];simp);subst e';rw[hK (by rw[q];simp)] at e;cases e)
  have hM:Mod K mg (B7 s₁.heap H):=⟨hKb,WE hns,⟨mb,WE hb,hbb⟩,let ⟨mc,h1,h2⟩:=zaV;⟨mc,WE h1,h2⟩⟩;have e0:zI P w K mg (B7 s₁.heap H) callerA [] s₁ H:=⟨Z,hM,fun b o e=>MG e,jE (HL _ _),trivial,fun b hb=>absurd (show b∈([]:ŋ) from hb) lB,hok,.of_eq hg⟩;refine jr ((F _ hKb (WE hns)).run callerA [] s₁ H ⟨[.ref a],[]⟩ [.ref a] [.ref a] _ _ hr e0 (U7 s₁ (.ref a)) (.cons Z .nil) (hsp H hO hS)) fun r s' h=>?_;cases r with
  | error e=>exact(hCX H e s' h).elim
  | ok fl =>
   cases fl with
   | next=>exact ô h
   | brk=>exact ô h
   | cont=>exact ô h
   | ret u =>
    obtain⟨v,H',os,bare,un,zaX,r',q⟩:=h;have q':v=.bl true:=q;subst q';obtain rfl:u=Value.bool true:=r';refine⟨Z,OldK.of_keep fun b o e=>?_,os,bare⟩;cases q:H b with
    | none=>exact un.keep b o e q (by intro z;exact absurd (show b∈([]:ŋ) from z) lB) lB
    | some u =>
     rcases hO b with z | ⟨ob,xs,z⟩
     .rw[q] at z;cases z
     .have z2:=un.frzs b ob _ z;obtain⟨e1,_⟩:=hok b _ z;obtain⟨e2,_⟩:=zaX b _ z2;rw[e] at e1;cases e1;exact e2
 cases hk:K.lookup a with
 | some o =>
  -- the script is one of the U8 own objects
  have e:=KX a o hk;rw[ha] at e;cases e;refine core (fun _=>none) (fun _=>.inl Z) (.inr ⟨_,vs.toArray,_,hk,Z,Z,Z,by rw[cf,zaW];exact hl,by simpa using rv⟩) (fun b u z=>by have z':(none:Option HO)=some u:=z;cases z') (fun b z=>absurd Z z) fun z=>absurd Z z
 | none =>
  refine core (fun b=>if b=a then some (.frz { cls:=.type "list",data:=.seq vs.toArray } (.lst (ns.map zad))) else none) (fun b=>?_) (.inl (.inr ⟨{ cls:=.type "list",data:=.seq vs.toArray },aA Z⟩)) (fun b u z=>?_) (fun b z=>?_) fun _=>hk
  .by_cases hb:b=a
   .exact .inr ⟨_,_,aA hb⟩
   .exact .inl (ah hb)
  .by_cases hb:b=a
   .have z':=(aA hb).symm.trans z;cases z';subst hb;exact⟨ha,by rw[aa];exact hl,vs,_,rv,ha⟩
   .have z':=(ah hb).symm.trans z;cases z'
  .by_cases hb:b=a
   .exact hb
   .exact absurd (ah hb) z
def Oh {l:PySem.W.OpenLaw}{n k:Nat}{q:Program}{loose:ō}{XP:(Str->Option Value)->Heap->Prop}{YP:World->Heap->Prop}{d:DefRec}{K:Params->zfq}{CX:World->Kh}{sp:World->Sp}{x:Str}
  (hn:l.most=some n)(WD:n<=sizeLine)(U5:d.params.defaults=[])(hr:oT k callerA)
  (hY:∀(w:World)(h:Heap),YP w h->(K w.params).In h)
  (F:∀(w:World)(mg:ś)(fa:Addr)(h:Heap),(K w.params).In h->h.Ns mainGlobals mg->mg d.name=some (.ref fa) ->
   ∃fd:FuncData,(∀(s:Shared)(u:Value),BindsTo s fd ⟨[u],[]⟩ [(x,u)]) /\
    ∀base:Heap,(K w.params).In base->base.Ns mainGlobals mg->tH l.prog w (K w.params) mg base (CX w) k fa fd [x] (sp w))
  (hsp:∀(w:World)(H:Hp)(a:Addr)(ns:ń),ns.length<=n->QM H->mj (K w.params) H a (ns.map zad)->sp w [.ref a] H (fun v _=>v=.bl true) fun _ _ _=>e8)
  (hCX:∀(w:World)(H:Hp)(s:Shared)(e:Value)(s':Shared),CX w [] H s (fun _ _ _=>e8) e s'->e8) :
  PySem.W.WalkO q loose XP YP l.row.toRowW d [] (fun f vs=>PySem.call f vs):=by
 refine Att.Cq hn U5 fun w s₀ s₁ mg mb fa o pm cd doc a vs ns G Y ho hd GT Rw Ry hints æ hg=>?_;have KX:=hY w _ Y;obtain⟨fd,hb,hF⟩:=F w mg fa _ KX G.T.g Rw;exact Ku KX G.T.g G.T.b G.T.builtins G.T.nolimit hg Ry hints (aS æ WD) hr hF hb (fun H hO hS=>hsp w H a ns æ hO hS) fun H e s'=>hCX w H s₁ e s'
variable {A B:Prop}
def inClass (s:Stmt)(j:Nat):Stmt:=match s with
 | .ClassDef _ _ _ body _ _ _ _ _ _ _=>body.getD j (.Pass ⟨0,0,0,0⟩)
 | _=>.Pass ⟨0,0,0,0⟩
def n9 (s:Stmt):Arguments:=match s with
 | .FunctionDef _ a _ _ _ _ _ _ _ _=>a
 | _=>{ posonlyargs:=[],args:=[],vararg:=none,kwonlyargs:=[],kw_defaults:=[],kwarg:=none,defaults:=[] }
def nH (s:Stmt):List Stmt:=match s with
 | .FunctionDef _ _ b _ _ _ _ _ _ _=>b
 | _=>[]
def lU (s:Stmt):Scope:=match s with
 | .FunctionDef _ _ _ _ _ _ sc _ _ _=>sc
 | _=>{ kind:=.function,names:=[],isGenerator:=false,isCoroutine:=false }
abbrev GQ:Kh:=fun _ _ _ _ _ _=>e8
abbrev E0:XK:=fun _ _ _=>e8
def Ju {X:Cx}:Passes GQ X E0:=fun _ _ _ _ _ _ _ h=>h.elim
structure Fw (K:zfq)(x å:Str)(st:Stmt)(f:Addr)(fd:FuncData):Prop where
 ex:∃(oc:Value)(od:Option Addr)(kV doc pm:Value)(an:Option Addr)(cdv ct:Value)(osl:Array (Option Value)),
  fd=PySem.W.fnOf x å (n9 st) (nH st) (lU st) .none kV doc pm an cdv ct/\K.lookup f=some ⟨oc,od,.func fd,osl⟩/\PySem.W.codeIn K cdv å=true
 kp:PySem.W.keepIn K (.ref f)=true
section
variable {P:Program}{w:World}{K:zfq}{mg:ś}{base:Heap}
def Fw.ok {x å:Str}{st:Stmt}{f:Addr}{fd:FuncData}{N ps:ō}{k:Nat}{sp:Sp}(F:Fw K x å st f fd)(S:lZ N ps (lU st))(len:∀vs H Q E,sp vs H Q E->vs.length=ps.length)
  (hbody:∀(cdv:Value)(A:Around)(outer:List Env)(s:Shared)(H:Hp)(vs:ň)(Q:VK)(E:XK),oT k (A.deeper (envOfC å (lU st) s.heap.objs.size f cdv))->sp vs H Q E ->
   ∃t,xc (zP GQ P w K mg base N å (lU st) f cdv A outer s H E).IH (nH st) t/\t { nx:=fun _ H'=>Q .non H',rt:=Q } (start N vs) H):tH P w K mg base GQ (k+1) f fd ps sp:=by
 obtain⟨oc,od,kV,doc,pm,an,cdv,ct,osl,rfl,lk,GT⟩:=F.ex;refine UO lk GT S len fun A outer s H vs Q E hr hsp=>?_;obtain⟨t,h,q⟩:=hbody cdv A outer s H vs Q E hr hsp;exact⟨t,h.IH,q⟩
def Fw.binds {x å:Str}{st:Stmt}{f:Addr}{fd:FuncData}{ps:ō}(F:Fw K x å st f fd)
  (h:∀(kV doc pm:Value)(an:Option Addr)(cdv ct:Value)(us:ņ),us.length=ps.length->bindArgs (PySem.W.fnOf x å (n9 st) (nH st) (lU st) .none kV doc pm an cdv ct) ⟨us,[]⟩=pure (ps.zip us)):Binds K fd ps []:=by
 obtain⟨oc,od,kV,doc,pm,an,cdv,ct,osl,rfl,lk,GT⟩:=F.ex;exact .all (h kV doc pm an cdv ct)
def Lr {x å:Str}{st:Stmt}{f:Addr}{oc:Value}{od an:Option Addr}{osl:Array (Option Value)}{kV doc pm cdv ct:Value}(l:K.lookup f=some ⟨oc,od,.func (PySem.W.fnOf x å (n9 st) (nH st) (lU st) .none kV doc pm an cdv ct),osl⟩)
  (c:PySem.W.codeIn K cdv å=true)(k:PySem.W.keepIn K (.ref f)=true):Fw K x å st f (PySem.W.fnOf x å (n9 st) (nH st) (lU st) .none kV doc pm an cdv ct):=⟨⟨oc,od,kV,doc,pm,an,cdv,ct,osl,Z,l,c⟩,k⟩
end
section
variable {X:Cx}
def pv (i:Nat){x:Str}{pos:Pos}(hN:X.N[i]?=some x:=by rfl)(hv:Wv X.env.scope x:=by first | exact ć Z | exact ċ (ć Z) | exact ċ (ċ Z))(hd:(x == ("__debug__":Str))=false:=by decide)
  (GT:(x == ("__classdict__":Str))=false:=by decide):PE X (.Name x pos) (Tq i):=QH hN hv hd GT
end
def G6 (h:B):if false=true then A else B:=by
 rw[ah b3];exact h
def Uz (h:A):if true=true then A else B:=by
 rw[aA Z];exact h
def oS {c:Prop} [Decidable c] (h1:c->A)(h2:¬c->B):if c then A else B:=by
 by_cases h:c
 .rw[aA h];exact h1 h
 .rw[ah h];exact h2 h
def Ar {c:Prop} [Decidable c] (hc:c)(h:B):if (!decide c)=true then A else B:=by
 rw[cB hc];exact G6 h
def lO (H H':Hp):Prop:=∀b o,H b=some o->H' b=some o
def lO.refl (H:Hp):lO H H:=fun _ _ h=>h
def lO.trans {H H1 H2:Hp}(a:lO H H1)(b:lO H1 H2):lO H H2:=fun c o h=>b c o (a c o h)
def lO.free {H H':Hp}(e:lO H H'){l:Addr}(h:H' l=Ē):H l=Ē:=by
 cases q:H l with
 | none=>rfl
 | some o =>
  rw[e l o q] at h;cases h
def lO.seq {K:zfq}{H H':Hp}{a:Addr}{xs:ň}(e:lO H H')(h:mj K H a xs):mj K H' a xs:=by
 rcases h with (h | ⟨o,h⟩) | h
 .exact .inl (.inl (e _ _ h))
 .exact .inl (.inr ⟨o,e _ _ h⟩)
 .exact .inr h
set_option maxHeartbeats 5000000
variable {cl:List (Str×Addr)}{ifs:ő}{pE:List (Str×Nat)}{qX:ō}{g:TG}{tc:TT}{te:TE}
section
variable {A:Around}{prog:Program}{w:World}{s:Shared}{R:Result->Shared->Prop}
def BE {el WF src:Expr}{tests:ő}{sc:Scope}{ps:Pos}{Pi ac:Value}{env:Env}(J:Nat->Shared->Prop)
  (trn:∀k t,J k t->wpAny (model prog w) A (pyNext Pi) (fun z IE=>match z with
   | none=>R (.ok .next) IE
   | some v=>wpAny (model prog w) A (letOwnedTupleGo WF Pi v) (fun _ IE=>wpAny (model prog w) A (assign WF env v) (fun _ U9 =>
     wpAny (model prog w) A (forIn tests true fun tst go=>if go=true then do let yes <-isTrue tst env (eval tst env);pure (ForInStep.yield yes) else pure (ForInStep.yield go)) (fun yes Rz =>
      if yes=true then wpAny (model prog w) A (eval el env) (fun x Vb =>
       wpAny (model prog w) A (call (.builtin "list.append") [ac,x]) (fun _ Vc=>∃m,m<k/\J m Vc) (fun _ _=>e8) Vb) (fun _ _=>e8) Rz
      else ∃m,m<k/\J m Rz) (fun _ _=>e8) U9) (fun _ _=>e8) IE) (fun _ _=>e8) IE) (fun _ _=>e8) t)
  (k:Nat)(h:J k s):codeAny (model prog w) A (.compLoop (.ListComp el [⟨WF,src,tests,0⟩] sc ps) 0 Pi ac env) R s:=by
 refine codeAny_loop Z J (fun k t hJ=>?_) k h;refine(wpAny_noted (m:=compTurn (.ListComp el [⟨WF,src,tests,0⟩] sc ps) 0 Pi ac env) ?_:wpAny _ A _ _ _ t);rw[compTurn_list];refine bI (ke (bI (fL (trn k t hJ) (fun z IE Om=>?_) fun _ _ f=>f.elim)));cases z with
 | none=>exact dh Om
 | some v =>
  refine bI (fL Om (fun _ IE Om=>?_) fun _ _ f=>f.elim);refine bI (fL Om (fun _ U9 zaY=>bI (fL zaY (fun yes Rz Vd=>?_) fun _ _ f=>f.elim)) fun _ _ f=>f.elim);cases yes with
  | false=>exact dh (And.intro Z Vd)
  | true =>
   exact bI (bI (fL Vd (fun x Vb zaZ=>bI (fL zaZ (fun _ Vc zba=>dh (dh ⟨Z,zba⟩)) fun _ _ f=>f.elim)) fun _ _ f=>f.elim))
end
def FT {cells:List (Str×Addr)}:∀x c,([]:List (Str×Addr)).lookup x=some c->cells.lookup x=some c:=fun _ _ h=>by cases h
def DA {cells r:List (Str×Addr)}{k:Str}{a:Addr}(h1:cells.lookup k=some a)(h2:∀x c,r.lookup x=some c->cells.lookup x=some c) :
  ∀x c,((k,a)::r).lookup x=some c->cells.lookup x=some c:=fun x c h=>by
 rw[i7] at h;cases e:x == k with
 | true =>
  rw[e] at h;have:x=k:=by simpa using e
  subst this;cases h;exact h1
 | false =>
  rw[e] at h;exact h2 x c h
def vY {env:Env}:∀{names:List (Str×NameKind)}{x:Str},(∀y∈names,y.2≠.cell) ->
    ((names.map fun (n,k)=>if (k == NameKind.free && env.scope.kind == .function && env.kindOf n == some .cell) then (n,NameKind.cell) else (n,k)).lookup x=some .cell \/
     (names.map fun (n,k)=>if (k == NameKind.free && env.scope.kind == .function && env.kindOf n == some .cell) then (n,NameKind.cell) else (n,k)).lookup x=some .free)->(x,NameKind.free)∈names
  | [],x,_,h=>by simp at h
  | (n,k)::r,x,hc,h=>by
    have ih:=@vY env r x (fun y hy=>hc y (aq _ hy));rw[eD] at h;dsimp only at h
    by_cases c:(k == NameKind.free && env.scope.kind == .function && env.kindOf n == some .cell)=true
    · have hk:k=.free:=by
        have:=(g5.mp (g5.mp c).1).1;cases k<;>first | rfl | (exact absurd this L)
      rw[aA c,i7] at h;cases e:x == n with
      | true =>
        have:x=n:=by simpa using e
        subst this;subst hk;exact av
      | false =>
        rw[e] at h;exact aq _ (ih h)
    · rw[ah c,i7] at h
      cases e:x == n with
      | true =>
        have:x=n:=by simpa using e
        subst this;rw[e] at h;rcases h with h | h
        · exact absurd (bO h) (hc (x,k) av)
        · have:=bO h
          subst this;exact av
      | false =>
        rw[e] at h;exact aq _ (ih h)
def GB {names:List (Str×NameKind)}(h:names.all (fun y=>!(y.2 == NameKind.free) || (cl.lookup y.1).isSome)=true):∀y∈names,y.2=.free->∃c,cl.lookup y.1=some c:=fun y hy e=>by
 have q:=fi.mp h y hy;rw[e] at q;exact jy.mp (by simpa using q)
def FK {α:Type}{F:α->Prop}:∀p∈([]:List α),F p:=fun _ h=>(nomatch h)
def Co {α:Type}{F:α->Prop}{p:α}{l:List α}(h:F p)(r:∀q∈l,F q):∀q∈p::l,F q:=fun q hq=>by
 rcases ũ.mp hq with e | e
 .rw[e];exact h
 .exact r q e
def nB (X:Cx)(scope:Scope)(cl:List (Str×Addr))(N':ō)(C:Addr)(s:Shared)(H:Hp)(fp:ŋ):Cx where
 prog:=X.prog
 w:=X.w
 K:=X.K
 mg:=X.mg
 base:=X.base
 A:=X.A
 N:=N'
 s₀:=s
 H₀:=H
 env:=compEnvC scope cl C X.env
 outer:=X.stack
 stack:=X.stack
 ex:=fp
 fn:=fun _=>false
 calm:=X.calm
 pn:=[]
 xe:=fun _ _=>e8
def OQ (X:Cx)(ifs:ő)(t:TT):Prop :=
 ∀(â:ł)(s:Shared)(σ:St)(H:Hp)(Q:Bool->Hp->Prop),Inv X â σ H s->t σ H Q ->
  wpAny (model X.prog X.w) X.A (forIn ifs true fun c r=>if r=true then do let ok <-isTrue c X.env (eval c X.env);pure (ForInStep.yield ok) else pure (ForInStep.yield r)) (TP X â σ Q) X.xe s
def A8:TT:=fun _ H Q=>Q true H
def mL {X:Cx}:OQ X [] A8:=fun _ _ _ H _ I h=>wpAny_tests_nil ⟨H,I,h⟩
def xR {X:Cx}{c:Expr}{t:TT}(h:PT X c t):OQ X [c] t:=fun â s σ H Q I q=>wpAny_tests_one (h â s σ H Q I q)
def rO (pE:List (Str×Nat))(k:Nat)(σ:St):St:=pE.map (fun p=>(σ[p.2]?).join)++ş k none
def qj (J:It)(g:TG)(tc:TT)(te:TE)(nC:St)(Q:VK)(H1:Hp):Prop :=
 ∃W:Nat->Nat->ň->Hp->Prop,(∃m,W 0 m [] H1)/\∀i m ys H,W i m ys H ->
  (J.stop i H/\∀D,H D=none->Q (.ref D) (upd H D (.lst ys))) \/
  (J.go i H/\ys.length<sizeLine/\∃N:ň->Hp->Prop,(∀Sd H',N Sd H'->∃m',m'<m/\W (i+1) m' Sd H') /\
   ∀x H',J.yld i H x H'->g x nC H' fun pK H2=>tc pK H2 fun b H3=>if b=true then te pK H3 fun y H4=>N (ys++[y]) H4 else N ys H3)
def Ds (pE:List (Str×Nat))(k:Nat)(wi:TI)(g:TG)(tc:TT)(te:TE):TE:=fun σ H Q=>wi σ H fun J H1=>qj J g tc te (rO pE k σ) Q H1
def tK (n:Nat)(g:TG):Prop:=∀x σ H Q,g x σ H Q->g x σ H fun pK H2=>(pK.length=σ.length/\∀j,j<n->pK[j]?=σ[j]?)/\Q pK H2
def w5 {n i:Nat}(h:n<=i):tK n (nu i):=fun x σ H Q q=>⟨⟨lB,fun j hj=>by rw[List.getElem?_set_ne lC]⟩,q⟩
abbrev yh (us:ņ):Obj:={ cls:=.type "list",data:=.seq us.toArray us.length }
structure Fin (X:Cx)(â:ł)(H:Hp)(s:Shared)(C:Addr):Prop where
 none:H C=Ē
 loc:C≠X.env.locals
 sz:X.s₀.heap.objs.size<=C
 cel:∀x c,X.env.cells.lookup x=some c->c≠C
 pin:∀p∈X.pn++â,p.1≠C
 ns:∃m,s.heap.Ns C m
def Fin.go {X:Cx}{â:ł}{σ:St}{H:Hp}{s:Shared}{C:Addr}(f:Fin X â H s C)(I:Inv X â σ H s){h':Heap}(sb:Heap.SameBut C s.heap h'):Inv X â σ H { s with heap:=h' } :=
 I.turned (t':=s.toks) (it:=C) (fun b o hb e=>(sb.2 b hb).trans e) f.none f.loc (.inr f.sz) f.cel f.pin
def AQ {X:Cx}{elt iter tg:Expr}{scope:Scope}{pos pos':Pos}{wi:TI}
 (hc:X.calm=true)(v7:closureFor scope X.env=pure cl)(sx:scope.kind=.function)
 (sP:∀x∈scope.names,x.2=.local->scope.names.lookup x.1=some .local)(sw:∀y∈scope.names,y.2≠.cell)
 (tF:∀y∈scope.names,y.2=.free->∃c,cl.lookup y.1=some c)
 (ue:∀x c,cl.lookup x=some c->X.env.cells.lookup x=some c)
 (zv:∀p∈pE,X.N[p.2]?=some p.1/\(X.env.kindOf p.1=some .cell\/X.env.kindOf p.1=some .free)/\((relabel scope X.env).names.lookup p.1=some .cell\/(relabel scope X.env).names.lookup p.1=some .free)/\∃c,cl.lookup p.1=some c)
 (hl:tK pE.length g)(hi:PI X tg iter wi)
 (hb:∀C s H fp,PG (nB X scope cl (pE.map (·.1)++qX) C s H fp) tg g/\OQ (nB X scope cl (pE.map (·.1)++qX) C s H fp) ifs tc/\PE (nB X scope cl (pE.map (·.1)++qX) C s H fp) elt te)
 (hs:∀x,foldedSetIterable iter X.env x=pure x)
 {â:ł}{s:Shared}{σ:St}{H:Hp}{Q:VK}{Qp:ŝ}{use:Option (Value->Sem Unit)}(I:Inv X â σ H s)(h:Ds pE qX.length wi g tc te σ H Q)
 (fin:∀D C H' s',Inv X â σ H' s'->Fin X â H' s' C->Q (.ref D) H'->compPost (model X.prog X.w) X.A X.xe use Qp (.ref D) C (.ok .next) s') :
    wpAny (model X.prog X.w) X.A (comprehension (.ListComp elt [⟨tg,iter,ifs,0⟩] scope pos) scope X.env pos' (newList []) false (eval iter X.env) use) Qp X.xe s:=by
  refine wpAny_comprehension_free (g:=⟨tg,iter,ifs,0⟩) (gs:=[]) Z hs v7 sx sP ?_;refine oR (hi â s σ H _ I h) fun v s1 h1=>oR h1 fun Pi s2 h2=>?_;obtain⟨it,fp,tn,J,H2,e,I2,T,Pj,f2,W,⟨m0,w0⟩,turn⟩:=h2;subst e;refine js (wpAny_newFunctionEnv sw (fun y hy=>(by simp at hy)) (fun On E9 hsb₁=>?_) sx);dsimp only at E9 hsb₁ ⊢;generalize hH2:s2.heap.push { cls:=.type "list",dict:=none,data:=.seq ([]:ņ).toArray }=HH at E9 hsb₁ ⊢;have hC:HH.objs.size=s2.heap.objs.size+1:=by rw[<-hH2,g4]
  have hDC:s2.heap.objs.size≠HH.objs.size:=by rw[hC];exact c9 (bQ _)
  have below:∀b,b<s2.heap.objs.size->b≠HH.objs.size/\b≠s2.heap.objs.size:=fun b hb=>⟨by rw[hC];exact c9 (bT hb),c9 hb⟩;have old:∀b o,s2.heap.get? b=some o->On.get? b=some o:=fun b o e=>hsb₁.extBut b o (below b (bZ e)).1 (aM _ (hH2▸aM _ e));have zbd:On.get? s2.heap.objs.size=some (yh []):=hsb₁.extBut _ _ hDC (aM _ (hH2▸bV _ Z));have GU:∀b∈fp,b<s2.heap.objs.size:=fun b hb=>let ⟨o,e,_⟩:=T.obj _ _ Pj b hb;bZ e;have zbe:∀x c,cl.lookup x=some c->c<s2.heap.objs.size:=fun x c e=>let ⟨v,q⟩:=I2.cell x c (ue x c e);q.lt;have Ve:∀b∈Iy X.stack,b<s2.heap.objs.size:=fun b hb=>by
    obtain⟨_,o,ho,_⟩:=I2.stack.mem hb;exact bZ ho
  generalize hX:nB X scope cl (pE.map (·.1)++qX) HH.objs.size s2 H2 fp=X';have ok':X'.Ok:=by
    subst hX;refine { mod:=I2.ok.mod,kind:=sx,glob:=I2.ok.glob,blt:=I2.ok.blt,above:=?_,inj:=fun x y c a b=>I2.ok.inj x y c (ue x c a) (ue y c b),has:=?_,cab:=fun x c h=>(nomatch h),hd:=I2.ok.hd,frames:=I2.ok.frames,stk:=.inl Z,exf:=?_,bs:=I2.bs,bsz:=aS I2.ok.bsz I2.sz,noex:=?_,exfs:=?_,vU:=I2.stack,frf:=I2.GI }
    · show s2.heap.objs.size<=HH.objs.size
      rw[hC];exact gN _
    · intro x hx
      exact tF (x,.free) (vY sw hx) Z
    · intro b hb
      exact⟨(below b (GU b hb)).1,fun x c e=>(f2 b hb).2.2.2.2.1 x c (ue x c e)⟩
    · intro b o e hb
      rcases (f2 b hb).2.2.2.1 with z | z
      · exact I2.ok.noex b o e z
      · exact absurd (bK (bZ (I2.ok.bs b o e).1) z) (fD _)
    · intro b hb hm
      rcases ũ.mp (I2.EY b hm) with z | z
      · exact(f2 b hb).2.1 z
      · exact(f2 b hb).2.2.1 z
  have zbf:Inv X' [(s2.heap.objs.size,yh [])] (rO pE qX.length σ) H2 { s2 with heap:=On,toks:=s2.toks+([]:List (Str×Value)).length }:=by
    subst hX;refine⟨ok',Z,I2.bare,Un.kept old,⟨_,E9,?_⟩,fun x c e=>?_,I2.hok.fresh (by rw[hC];exact gN _),fun x c e=>I2.freeC x c (ue x c e),fun p hp=>?_,I2.hok.kept old,?_⟩
    · intro j y v e1 e2 e3
      have Se:(pE.map (·.1)++qX)[j]?=some y:=e1
      by_cases hj:j<pE.length
      · unfold rO at e2
        rw[dM (by simpa using hj),List.getElem?_map] at e2;rw[dM (by simpa using hj),List.getElem?_map] at Se;rw[az hj] at Se e2;have ey:pE[j].1=y:=by simpa using Se
        have ev:(σ[pE[j].2]?).join=some v:=by simpa using e2
        obtain⟨c1,c2,c3,c,c4⟩:=zv pE[j] (List.getElem_mem hj);have Sf:σ[pE[j].2]?=some (some v):=by
          cases q:σ[pE[j].2]? with
          | none=>rw[q] at ev;cases ev
          | some z=>rw[q] at ev;exact cA some ev
        rw[ey] at c1 c2 c3 c4;obtain⟨m,hn,hl'⟩:=I2.loc;have vis:Wv X.env.scope y:=by
          rcases c2 with c2 | c2
          · exact .inr (.inl c2)
          · exact .inr (.inr c2)
        obtain⟨u,ru,lu⟩:=hl' _ y v c1 Sf vis;refine⟨u,ru,.inr ⟨c3,c,c4,?_⟩⟩;rcases lu with ⟨k,_⟩ | ⟨_,c',e',q⟩
        · rcases c2 with c2 | c2<;>(rw[k] at c2;cases c2)
        · rw[ue y c c4] at e'
          cases e';obtain⟨o,ho,hd⟩:=q;exact⟨o,old _ _ ho,hd⟩
      · unfold rO at e2
        rw[dH (by simpa using hj),List.getElem?_replicate] at e2;split at e2<;>cases e2
    · obtain⟨v,o,ho,hd⟩:=I2.cell x c (ue x c e)
      exact⟨v,o,old _ _ ho,hd⟩
    · have Pk:p∈([(s2.heap.objs.size,yh [])]:ł):=hp
      obtain rfl:=ñ.mp Pk;refine⟨zbd,I2.hok.fresh (aG _),hDC,fun z=>fD _ (Ve _ z),fun v z=>?_⟩;have z':Data.seq _ _=Data.cell v:=z;cases z'
    · show (rO pE qX.length σ).length=(pE.map (·.1)++qX).length
      unfold rO;simp
  have fpX:∀{us:ņ}{H':Hp},(∀b∈fp,H' b=none)->∀b∈fp,BD X' [(s2.heap.objs.size,yh us)] H' b:=by
    subst hX;intro us H' hn b hb;refine⟨hn b hb,(below b (GU b hb)).1,fun z=>ok'.exfs b hb z,.inl hb,fun x c e=>(f2 b hb).2.2.2.2.1 x c (ue x c e),fun p hp=>?_⟩;have Pk:p∈([(s2.heap.objs.size,yh us)]:ł):=hp;obtain rfl:=ñ.mp Pk;exact dR (below b (GU b hb)).2
  have eP:X'.prog=X.prog:=by subst hX;rfl
  have eW:X'.w=X.w:=by subst hX;rfl
  have eK:X'.K=X.K:=by subst hX;rfl
  have eA:X'.A=X.A:=by subst hX;rfl
  have eE:X'.env=compEnvC scope cl HH.objs.size X.env:=by subst hX;rfl
  have eF:X'.fs=Iy X.stack:=by subst hX;rfl
  have eX:X'.ex=fp:=by subst hX;rfl
  have eH:X'.H₀=H2:=by subst hX;rfl
  have eS:X'.s₀=s2:=by subst hX;rfl
  have ec:X'.calm=true:=by subst hX;exact hc
  have Vf:X'.pn=[]:=by subst hX;rfl
  have exe:X'.xe=fun _ _=>e8:=by subst hX;rfl
  obtain⟨hg,ht,he⟩:PG X' tg g/\OQ X' ifs tc/\PE X' elt te:=by subst hX;exact hb _ _ _ _
  have loop:codeAny (model X.prog X.w) X.A (.compLoop (.ListComp elt [⟨tg,iter,ifs,0⟩] scope pos) 0 (.ref it) (.ref s2.heap.objs.size) (compEnvC scope cl HH.objs.size X.env))
      (compPost (model X.prog X.w) X.A X.xe use Qp (.ref s2.heap.objs.size) HH.objs.size) { s2 with heap:=On,toks:=s2.toks+([]:List (Str×Value)).length }:=by
    refine BE (fun n s'=>∃i ys us H',Inv X' [(s2.heap.objs.size,yh us)] (rO pE qX.length σ) H' s'/\Vals ys us/\ys.length<=sizeLine/\tn i s'.heap/\(∀b∈fp,H' b=none)/\W i n ys H') ?_ m0
      ⟨0,[],[],H2,zbf,.nil,dW _,T.keep _ _ _ Pj fun b _ o e=>old b o e,fun b hb=>(f2 b hb).1,w0⟩
    rintro n s3 ⟨i,ys,us,H3,I3,rv,hz,UZ,U0,w3⟩;rcases turn i n ys H3 w3 with ⟨stop,qn⟩ | ⟨go,æ,N,hN,step⟩
    · have d:=T.done X' eP eW eK ec i _ s3 _ H3 (fun _ _=>e8) I3 (fpX U0) UZ stop
      rw[eA] at d;refine oR d fun r s4 ⟨hr,I4⟩=>?_;subst hr;obtain⟨m,hn,_⟩:=id I4.loc;rw[eE] at hn;have pD:=I4.pin (s2.heap.objs.size,yh us) (by rw[Vf];simp);have fC:H3 HH.objs.size=none:=by have:=I4.free;rw[eE] at this;exact this
      have un:=I4.base;rw[eF,eX,eH,eS] at un;have nD:∀b o,s2.heap.get? b=some o->b≠s2.heap.objs.size:=fun b o e=>(below b (bZ e)).2;have fD2:H2 s2.heap.objs.size=none:=I2.hok.fresh (aG _);have leC:s2.heap.objs.size<=HH.objs.size:=by rw[hC];exact gN _
      refine fin s2.heap.objs.size HH.objs.size (upd H3 s2.heap.objs.size (.lst ys)) s4 (I2.UE (ch:=fp) ?_ ?_ ?_ I4.bare ?_)
        ⟨by rw[mi (dR hDC)];exact fC,dR (below _ I2.lt).1,aS I2.sz leC,fun x c e=>?_,fun p hp=>(below _ (bZ (I2.pin p hp).1)).1,⟨m,hn⟩⟩ (qn _ pD.2.1)
      · have:=I4.os;rw[eS] at this;exact this
      · refine⟨un.keep,un.slot,fun b o e n hx=>?_,un.there,fun b xs q=>?_,fun b o u q=>?_,fun b ps q=>?_⟩
        · rw[mi (nD b o e)];exact un.free b o e n hx
        · rw[mi (mh q fD2)];exact un.tups b xs q
        · rw[mi (mh q fD2)];exact un.frzs b o u q
        · rw[mi (mh q fD2)];exact un.tbls b ps q
      · have hok:=I4.hok
        rw[eP,eW] at hok;intro b u e
        by_cases hb:b=s2.heap.objs.size
        · subst hb
          rw[lH] at e;cases e;exact⟨hz,us,us.length,rv,pD.1⟩
        · rw[mi hb] at e
          exact(hok b u e).EF (fun c v UY q=>q) (fun c q=>by rw[mi (mh q pD.2.1)];exact q) fun c xs q=>by rw[mi (mh q pD.2.1)];exact q
      · exact fun b hb=>⟨(f2 b hb).2.2.2.1,(f2 b hb).2.1,(f2 b hb).2.2.2.2.1,(f2 b hb).2.2.2.2.2⟩
      · obtain⟨v,q⟩:=I2.cell x c e
        exact(below c q.lt).1
    · have d:=T.item X' eP eW eK ec i _ s3 _ H3 (fun _ _=>e8) I3 (fpX U0) UZ go
      rw[eA] at d;refine oR d fun r s4 ⟨u,hr,h4⟩=>?_;subst hr;refine oR h4 fun _ s5 ⟨x,H5,I5,r5,y5,Ol,fr5⟩=>?_;have I5':=I5.pinned (fpX fr5) (T.obj _ _ Ol);have a6:=hg _ s5 _ H5 x u _ I5' r5 (hl x _ H5 _ (step x H5 y5));rw[eP,eW,eA,eE,exe] at a6;refine oR a6 fun _ s6 ⟨Sa,H6,I6,⟨kl,kj⟩,q6⟩=>?_;have a7:=ht _ s6 Sa H6 _ I6 q6;rw[eP,eW,eA,eE,exe] at a7;refine oR a7 fun ok s7 ⟨H7,I7,q7⟩=>?_;have wk:∀{pl:ł}{H':Hp}{s':Shared},Inv X' pl Sa H' s'->Inv X' [] (rO pE qX.length σ) H' s':=fun {pl H' s'} I' =>
        (I'.weak kl.symm fun j v e=>by
          by_cases hj:j<pE.length
          · rw[kj j hj];exact e
          · unfold rO at e
            rw[dH (by simpa using hj),List.getElem?_replicate] at e;split at e<;>cases e).vz fun p hp=>(nomatch hp)
      have GV:∀{H':Hp}{s':Shared},Inv X' ([(s2.heap.objs.size,yh us)]++yT fp s5.heap) Sa H' s'->(∀b∈fp,∀o,s5.heap.get? b=some o->s'.heap.get? b=some o/\H' b=none):=fun {H' s'} I' b hb o e=>by
        have z:=I'.pin (b,o) (by rw[Vf];exact bP _ (bP _ (vf hb e)));exact⟨z.1,z.2.1⟩
      cases ok with
      | false =>
        have q7':N ys H7:=q7;obtain⟨m',hm,w7⟩:=hN _ _ q7';have pD:=I7.pin (s2.heap.objs.size,yh us) (by rw[Vf];simp);refine⟨m',hm,i+1,ys,us,H7,?_,rv,hz,T.keep _ _ _ Ol fun b hb o e=>(GV I7 b hb o e).1,fun b hb=>?_,w7⟩
        · exact(wk I7).vz fun p hp=>by
            cases ñ.mp hp;exact pD
        · obtain⟨o,e,_⟩:=T.obj _ _ Ol b hb
          exact(GV I7 b hb o e).2
      | true =>
        have a8:=he _ s7 Sa H7 _ I7 q7;rw[eP,eW,eA,eE,exe] at a8;refine oR a8 fun uy s8 ⟨y,H8,I8,ry,q8⟩=>?_;obtain⟨m',hm,w8⟩:=hN _ _ q8;have pD:=I8.pin (s2.heap.objs.size,yh us) (by rw[Vf];simp);refine append_at (hsz:=by show us.toArray.size<=sizeLine;rw[cf,<-rv.length];exact hz) pD.1 fun h9 hs9 hD9=>?_;have fpD:∀b∈fp,b≠s2.heap.objs.size:=fun b hb=>(below b (GU b hb)).2;have I9:Inv X' [] (rO pE qX.length σ) H8 { s8 with heap:=h9 }:=(wk I8).turned (t':=s8.toks) (it:=s2.heap.objs.size) (fun b o hb e=>(hs9.2 b hb).trans e) pD.2.1 pD.2.2.1 (.inr (by rw[eS];exact aG _))
          (fun x c e z=>by
            rw[eE] at e;exact absurd (zbe x c e) (by rw[z];exact fD _)) (fun p hp=>by rw[Vf] at hp;exact(nomatch hp))
        refine⟨m',hm,i+1,ys++[y],us++[uy],H8,?_,rv.append (.cons ry .nil),by rw[aP,eC];exact æ,T.keep _ _ _ Ol fun b hb o e=>(hs9.2 b (fpD b hb)).trans (GV I8 b hb o e).1,fun b hb=>?_,w8⟩
        · refine I9.vz fun p hp=>?_
          cases ñ.mp hp;refine⟨?_,pD.2.1,pD.2.2.1,pD.2.2.2.1,fun v z=>?_⟩
          · show h9.get? _=some (yh (us++[uy]))
            rw[hD9];show some ({ cls:=.type "list",data:=.seq (us.toArray.push uy) (us.length+1) }:Obj)=some { cls:=.type "list",data:=.seq (us++[uy]).toArray (us++[uy]).length }
            rw[List.push_toArray,aP,eC]
          · have z':Data.seq _ _=Data.cell v:=z
            cases z'
        · obtain⟨o,e,_⟩:=T.obj _ _ Ol b hb
          exact(GV I8 b hb o e).2
  exact codeAny_compStart_list loop (T.self _ 0 _ _ _ (T.keep _ _ _ Pj fun b _ o e=>old b o e) loop)
def Dm {X:Cx}{elt iter tg:Expr}{scope:Scope}{pos:Pos}{wi:TI}
 (hc:X.calm=true)(v7:closureFor scope X.env=pure cl)(sx:scope.kind=.function)
 (sP:∀x∈scope.names,x.2=.local->scope.names.lookup x.1=some .local)(sw:∀y∈scope.names,y.2≠.cell)
 (tF:∀y∈scope.names,y.2=.free->∃c,cl.lookup y.1=some c)
 (ue:∀x c,cl.lookup x=some c->X.env.cells.lookup x=some c)
 (zv:∀p∈pE,X.N[p.2]?=some p.1/\(X.env.kindOf p.1=some .cell\/X.env.kindOf p.1=some .free)/\((relabel scope X.env).names.lookup p.1=some .cell\/(relabel scope X.env).names.lookup p.1=some .free)/\∃c,cl.lookup p.1=some c)
 (hl:tK pE.length g)(hi:PI X tg iter wi)
 (hb:∀C s H fp,PG (nB X scope cl (pE.map (·.1)++qX) C s H fp) tg g/\OQ (nB X scope cl (pE.map (·.1)++qX) C s H fp) ifs tc/\PE (nB X scope cl (pE.map (·.1)++qX) C s H fp) elt te)
 (hs:∀x,foldedSetIterable iter X.env x=pure x:=by intro _;rfl) :
    PE X (.ListComp elt [⟨tg,iter,ifs,0⟩] scope pos) (Ds pE qX.length wi g tc te):=by
  intro â s σ H Q I h;rw[eval_ListComp];refine AQ hc v7 sx sP sw tF ue zv hl hi hb hs I h fun D C H' s' I' f q=>?_;obtain⟨m,hn⟩:=f.ns;exact⟨m,hn,fun h' sb=>⟨.ref D,H',f.go I' sb,Z,q⟩⟩
def ED {X:Cx}{elt iter tg:Expr}{scope:Scope}{pos py L9:Pos}{y:Str}{i:Nat}{wi:TI}
 (hN:X.N.Nodup)(hiy:X.N[i]?=some y)(hy:Loc X.env.scope y)
 (hc:X.calm=true)(v7:closureFor scope X.env=pure cl)(sx:scope.kind=.function)
 (sP:∀x∈scope.names,x.2=.local->scope.names.lookup x.1=some .local)(sw:∀y∈scope.names,y.2≠.cell)
 (tF:∀y∈scope.names,y.2=.free->∃c,cl.lookup y.1=some c)
 (ue:∀x c,cl.lookup x=some c->X.env.cells.lookup x=some c)
 (zv:∀p∈pE,X.N[p.2]?=some p.1/\(X.env.kindOf p.1=some .cell\/X.env.kindOf p.1=some .free)/\((relabel scope X.env).names.lookup p.1=some .cell\/(relabel scope X.env).names.lookup p.1=some .free)/\∃c,cl.lookup p.1=some c)
 (hl:tK pE.length g)(hi:PI X tg iter wi)
 (hb:∀C s H fp,PG (nB X scope cl (pE.map (·.1)++qX) C s H fp) tg g/\OQ (nB X scope cl (pE.map (·.1)++qX) C s H fp) ifs tc/\PE (nB X scope cl (pE.map (·.1)++qX) C s H fp) elt te)
 (hs:∀x,foldedSetIterable iter X.env x=pure x:=by intro _;rfl)
 (hsw:swapsWith (.ListComp elt [⟨tg,iter,ifs,0⟩] scope pos) (some (.Name y py)) L9.line X.env=pure true:=by rfl)
 (hf:X.fn y=true\/X.env.scope.names.lookup y=some .local:=by first | exact .inl Z | exact .inr Z | assumption) :
    PS X (.Assign [.Name y py] (.ListComp elt [⟨tg,iter,ifs,0⟩] scope pos) L9) (JU (Ds pE qX.length wi g tc te) (nu i)):=by
  intro â s σ H D I h;rw[exec_Assign_Name_used _ _ _ _ hsw];refine bI (ke (bI ?_));show wpAny _ X.A (do let _ <-comprehension (.ListComp elt [⟨tg,iter,ifs,0⟩] scope pos) scope X.env _ (newList []) false (eval iter X.env) (some (assign (.Name y py) X.env))) _ _ s
  refine bI (fL (AQ (use:=some (assign (.Name y py) X.env)) (Qp:=fun _ s'=>SP X â D .next s') hc v7 sx sP sw tF ue zv hl hi hb hs I h fun D' C H' s' I' f q=>?_) (fun _ s' hq=>dh (dh hq)) fun _ _ e=>e);show wpAny _ X.A (assign (.Name y py) X.env (.ref D')) _ _ _
  refine wpAny_assign_Name (AF I' hN hiy hy (v:=.ref D') Z (fun U1 I'' ⟨a,sa,ha⟩=>?_) hf);obtain⟨m,hn⟩:=f.ns;have hCa:C≠a:=by
    rcases ha with z | z
    · rw[z];exact f.loc
    · exact dR (f.cel _ _ z)
  have f'':Fin X â H' U1 C:=⟨f.none,f.loc,f.sz,f.cel,f.pin,⟨m,hn.sameBut sa hCa⟩⟩;exact⟨m,hn.sameBut sa hCa,fun h' sb=>⟨_,H',f''.go I'' sb,q⟩⟩
def qB {K:zfq}{a:Addr}{xs:ň}{nC:St}{H:Hp}{Q:VK}(Pv:Nat->ň->Hp->Prop)(h0:Pv 0 [] H)(hl:∀i ys H,i<=xs.length->Pv i ys H->mj K H a xs)(hz:∀i ys H,i<xs.length->Pv i ys H->ys.length<sizeLine)
 (hs:∀i x ys H,xs[i]?=some x->Pv i ys H->g x nC H fun pK H2=>tc pK H2 fun b H3=>if b=true then te pK H3 fun y H4=>Pv (i+1) (ys++[y]) H4 else Pv (i+1) ys H3)(hd:∀ys H,Pv xs.length ys H->∀D,H D=none->Q (.ref D) (upd H D (.lst ys))) :
    qj (N8 K a) g tc te nC Q H:=by
  refine⟨fun i m ys H=>m=xs.length-i/\i<=xs.length/\Pv i ys H,⟨xs.length,lB,ý _,h0⟩,?_⟩;rintro i m ys H ⟨rfl,hi,p⟩;have q:=hl i ys H hi p
  by_cases rK:i<xs.length
  · refine .inr ⟨⟨xs,xs[i],q,by simp[rK]⟩,hz i ys H rK p,Pv (i+1),fun Sd H' p'=>⟨xs.length-(i+1),lC,Z,rK,p'⟩,fun x H' y=>?_⟩
    obtain⟨e,y⟩:=y;subst e;exact hs i x ys _ (y xs q) p
  · have e:i=xs.length:=lC
    subst e;exact .inl ⟨⟨xs,q,aG _⟩,hd ys H p⟩
def yr {lo:Int}{n:Nat}{nC:St}{H:Hp}{Q:VK}(Pv:Nat->ň->Hp->Prop)(h0:Pv 0 [] H)(hz:∀i ys H,i<n->Pv i ys H->ys.length<sizeLine)
 (hs:∀i ys H,i<n->Pv i ys H->g (.int (lo+i)) nC H fun pK H2=>tc pK H2 fun b H3=>if b=true then te pK H3 fun y H4=>Pv (i+1) (ys++[y]) H4 else Pv (i+1) ys H3)(hd:∀ys H,Pv n ys H->∀D,H D=none->Q (.ref D) (upd H D (.lst ys))) :
    qj (Ie lo n) g tc te nC Q H:=by
  refine⟨fun i m ys H=>m=n-i/\i<=n/\Pv i ys H,⟨n,lB,ý _,h0⟩,?_⟩;rintro i m ys H ⟨rfl,hi,p⟩
  by_cases rK:i<n
  · refine .inr ⟨rK,hz i ys H rK p,Pv (i+1),fun Sd H' p'=>⟨n-(i+1),lC,Z,rK,p'⟩,fun x H' y=>?_⟩
    obtain⟨e,y⟩:=y;subst e y;exact hs i ys _ rK p
  · have e:i=n:=lC
    subst e;exact .inl ⟨aG _,hd ys H p⟩
variable {a b:Int}
section
variable {X:Cx}
def mH:wy X (binaryOp .Mult) (rI IntMulOk fun i j=>.int (i*j)):=R7 fun _ _ _ _ _ _ _ hc q=>mul_int q hc
def Gd (i j:Int):Prop:=0<j/\j.natAbs.log2<9000
def mS:wy X (binaryOp .FloorDiv) (rI Gd fun i j=>.int (i/j)):=R7 fun i j _ _ _ _ _ hc q=>by
 have e:i/j=i.fdiv j:=(fk i (iU hc.1)).symm;rw[e] at q;exact floordiv_int (Int.ne_of_gt hc.1) q (.inl (jA hc.2))
def pU:r8 X (.builtin "isinstance") (fun xs H Q=>∃x T t b,xs=[x,.ty T]/\wN X.K H x t/\PySem.W.kitOne X.K t (.type T)=some b/\Q (.bl b) H):=by
 intro â s σ H xs us Q I r h;obtain⟨x,T,t,b,rfl,ty,e,q⟩:=h;obtain⟨u,w',rfl,rx,Hz⟩:=vals2 r;have ew:w'=Value.type T:=Hz;subst ew;exact HQ I rx ty e fun tk=>⟨.bl b,H,I.tok tk,Z,q⟩
end
def oJ:bootBuiltins "isinstance"=some (.builtin "isinstance"):=by decide +kernel
def tN:bootBuiltins "abs"=some (.builtin "abs"):=by decide +kernel
def KG:bootBuiltins "len"=some (.builtin "len"):=by decide +kernel
def E5:bootBuiltins "sum"=some (.builtin "sum"):=by decide +kernel
def QE:bootBuiltins "int"=some (.type "int"):=by decide +kernel
def Nu:bootBuiltins "bool"=some (.type "bool"):=by decide +kernel
def qh:bootBuiltins "list"=some (.type "list"):=by decide +kernel
def yC:bootBuiltins "tuple"=some (.type "tuple"):=by decide +kernel
def YM (t u:TS):TS:=fun D σ H=>∃M:St->Hp->Prop,t { D with nx:=M } σ H/\∀nC H',M nC H'->u D nC H'
def FA {X:Cx}{st:Stmt}{rest:List Stmt}{t u:TS}(h1:PS X st t)(h2:xc X rest u):xc X (st::rest) (YM t u):=by
 intro â s σ H D I h;obtain⟨M,ht,hu⟩:=h;refine jx (oR (h1 â s σ H { D with nx:=M } I ht) fun f s1 q=>?_);cases f with
 | next =>
  obtain⟨nC,H',I',q⟩:=q;exact h2 â s1 nC H' D I' (hu nC H' q)
 | ret v=>exact q
 | brk=>exact q
 | cont=>exact q
structure Df (P:Program)(w:World)(K:zfq)(mg:ś)(base:Heap)(k:Nat)(x:Str)(ps:ō)(sp:Sp):Prop where
 ex:∃(f:Addr)(fd:FuncData),tH P w K mg base GQ k f fd ps sp/\Binds K fd ps []/\PySem.W.keepIn K (.ref f)=true/\mg x=some (.ref f)
section
variable {X:Cx}{k:Nat}{x:Str}{ps:ō}{sp:Sp}{e:Expr}{es:ő}{t:TA}{p pos:Pos}
def QF (D:Df X.prog X.w X.K X.mg X.base k x ps sp)(hr:oT k X.A)(hg:Gl X x)(ha:PA X (e::es) t)(IC:(x == ("__debug__":Str))=false:=by decide)
  (he:starEach (e::es) X.env=(false,eval e X.env)::starEach es X.env:=by rfl)(zu:(backTo pos (starEach es X.env)).any (·.1)=false:=by rfl) :
  PE X (.Call (.Name x p) (e::es) [] pos) (Ll sp [] E0 t):=by
 obtain⟨f,fd,F,hb,hk,hm⟩:=D.ex;exact M3 F hr hg hm hk hb .nil Ju ha IC he zu
end
structure Dn (K:zfq)(mg:ś)(x:Str)(st:Stmt)(ps:ō):Prop where
 ex:∃(f:Addr)(fd:FuncData),Fw K x x st f fd/\Binds K fd ps []/\mg x=some (.ref f)
def Dn.ok {P:Program}{w:World}{K:zfq}{mg:ś}{base:Heap}{x:Str}{st:Stmt}{N ps:ō}{k:Nat}{sp:Sp}(D:Dn K mg x st ps)(S:lZ N ps (lU st))(len:∀vs H Q E,sp vs H Q E->vs.length=ps.length)
  (hbody:∀(f:Addr)(cdv:Value)(A:Around)(outer:List Env)(s:Shared)(H:Hp)(vs:ň)(Q:VK)(E:XK),oT k (A.deeper (envOfC x (lU st) s.heap.objs.size f cdv))->sp vs H Q E ->
   ∃t,xc (zP GQ P w K mg base N x (lU st) f cdv A outer s H E).IH (nH st) t/\t { nx:=fun _ H'=>Q .non H',rt:=Q } (start N vs) H):Df P w K mg base (k+1) x ps sp:=by
 obtain⟨f,fd,F,b,m⟩:=D.ex;exact⟨f,fd,F.ok S len (fun cdv A outer s H vs Q E hr h=>hbody f cdv A outer s H vs Q E hr h),b,F.kp,m⟩
def r9 {K:zfq}(T:String):PySem.W.kitOne K (.type T) (.type T)=some true:=aA lB
def QD {K:zfq}:PySem.W.kitOne K (.type "int") (.type "bool")=some false:=by
 first
 | rfl
 | decide +kernel
 | (show (if (Value.type "int" == Value.type "bool")=true then some true else _)=_;rw[ah L];rfl)
 | (show (if (Value.type "int" == Value.type "bool")=true then some true else _)=_;rw[ah L];kernel_rfl)
def xt (h:decide (zad a=zad b)=true):a=b:=by
 have:=fY h;injection this
def yL (h:¬decide (zad a=zad b)=true):¬a=b:=fun e=>h (by rw[e];simp)
def OV (h:(!decide (zad a=zad b))=true):¬a=b:=fun e=>by rw[e] at h;simp at h
def Hu (h:¬(!decide (zad a=zad b))=true):a=b:=by
 by_cases e:a=b
 .exact e
 .exact absurd (by simp[e]) h
def dec {p:Prop} [Decidable p] (h:decide p=true):p:=fY h
def xy {p:Prop} [Decidable p] (h:¬decide p=true):¬p:=fun e=>h (cB e)
def mO {H H':Hp}{r:Addr}{o:HO}(h:lO H H')(n:H r=none):lO H (upd H' r o):=fun b u q=>by rw[mi (mh q n)];exact h b u q
def lQ {H H':Hp}{r:Addr}{o:HO}(h:lO H H')(n:H' r=none):lO H (upd H' r o):=mO h (h.free n)
def oq {n:Nat}(h:n<=20000):n<sizeLine:=bL h L
def pO {n:Nat}(h:n<=20000):n<=sizeLine:=cK (oq h)
def m9 {α β:Type}{F:α->β->Prop}:∀{L3:List α}{L4:List β}{i:Nat}{a:α},Paired F L3 L4->L3[i]?=some a->∃b,L4[i]?=some b/\F a b
 | _,_,0,_,.cons h _,e=>by cases e;exact⟨_,Z,h⟩
 | _,_,i+1,_,.cons _ t,e=>m9 (i:=i) t (by rw[eM] at e;exact e)
def NF (ns:ń)(lo hi:ŕ):∃ms:ń,uC (ns.map zad) lo hi=ms.map zad/\ms.length<=ns.length:=by
 refine⟨(ns.drop (zcz (ns.map zad).length 0 lo)).take (zcz (ns.map zad).length (ns.map zad).length hi-zcz (ns.map zad).length 0 lo),?_,?_⟩
 .unfold uC;rw[Ď,Đ]
 .rw[cT,cH];omega
def int_at {ms:ń}{i:Nat}{x:V}(h:(ms.map zad)[i]?=some x):∃v,x=.int v/\ms[i]?=some v:=by
 rw[af] at h;cases e:ms[i]? with
 | none=>rw[e] at h;cases h
 | some v=>rw[e] at h;cases h;exact⟨v,Z,Z⟩
def PL {ns:ń}{k:Int}(h0:0<=k)(h:k<(ns.length:Int)):∃v:Int,oi (ns.map zad) k=some (.int v)/\ns[k.toNat]?=some v:=by
 have hk:k.toNat<ns.length:=lC;have ek:k=((k.toNat:Nat):Int):=lC;have q:oi (ns.map zad) ((k.toNat:Nat):Int)=some (.int ns[k.toNat]):=nV (by rw[af,az hk]<;>rfl);rw[<-ek] at q;exact⟨ns[k.toNat],q,az hk⟩
def bits_le {m:Nat}(h:a.natAbs<2^m):Builtin.Int.intBits a<=m:=by
 unfold Builtin.Int.intBits;split
 .exact dW _
 .rename_i hz;have h0:a.natAbs≠0:=by
   intro z;apply hz;simpa using z
  have:=(io h0).mpr h;omega
def sL {m n:Nat}(ha:a.natAbs<2^m)(hb:b.natAbs<2^n)(h:m+n<=134217728):IntMulOk a b:=IntMulOk.of_le (bits_le ha) (bits_le hb) h
def n5 (h1:-1000000000<=a)(h2:a<=1000000000):IntMulOk a b:=IntMulOk.of_left (gR lC lC)
def m8 {i j:Int}(h0:0<j)(h:j<=1000000000):Gd i j:=by
 refine⟨h0,?_⟩;have hn:j.natAbs<2^30:=lC;have:=(io (show j.natAbs≠0 by omega)).mpr hn;omega
section
variable {X:Cx}{â:ł}{σ:St}{H:Hp}{s:Shared}{h':Heap}
def Inv.Fl {t':Nat}{its:ŋ}(I:Inv X â σ H s)(k:∀b o,b∉its->s.heap.get? b=some o->h'.get? b=some o)(hf:∀b∈its,BD X â H b):Inv X â σ H { s with heap:=h',toks:=t' }:=by
 have UW:∀b u,H b=some u->b∉its:=fun b u e z=>by rw[(hf b z).1] at e;cases e
 refine I.step (g':=s.gens) (d':=s.drawn) (ch:=its) (fun b hb=>?_) (fun b o _ _ hc e _=>k b o hc e) (fun b o _ _ hc e _=>⟨o.slots,k b o hc e⟩) (fun _ _ _ _ n=>n)
  (fun b o hc e=>⟨o,k b o hc e⟩) (fun _ _ e=>e) (fun _ _ _ e=>e) (fun b ps e=>⟨#[],by rw[e];simp⟩) (fun m hm=>?_) (fun b u e=>?_) I.bare
 .obtain⟨_,f1,_,f3,f4,f5⟩:=hf b hb;exact⟨f3,f1,f4,f5⟩
 .obtain⟨o,es,ep,ho,r⟩:=hm;exact⟨o,es,ep,k _ o (fun z=>(hf _ z).2.1 Z) ho,r⟩
 .refine(I.hok b u e).EF (fun c v hc q=>k c v ?_ q) (fun _ q=>q) fun _ _ q=>q;rcases hc with z | z
  .rw[z];exact UW b u e
  .exact UW c _ z
def Inv.Br {t':Nat}{its:ŋ}{xs:ň}{us:ņ}(I:Inv X â σ H s)(k:∀b o,b∉its->s.heap.get? b=some o->h'.get? b=some o)(hf:∀b∈its,BD X â H b)(rK:∀b∈its,b<s.heap.objs.size)
  (ht:h'.get? s.heap.objs.size=some { cls:=.type "tuple",data:=.seq us.toArray })(hz:xs.length<=sizeLine)(r:Vals xs us) :
  Inv X â σ (upd H s.heap.objs.size (.tup xs)) { s with heap:=h',toks:=t' }/\∀b∈its,upd H s.heap.objs.size (.tup xs) b=none:=by
 have nf:∀b∈its,upd H s.heap.objs.size (.tup xs) b=none:=fun b hb=>by rw[mi (c9 (rK b hb))];exact(hf b hb).1
 refine⟨?_,nf⟩;have I1:Inv X â σ (upd H s.heap.objs.size (.tup xs)) { s with heap:=s.heap.push { cls:=.type "tuple",data:=.seq us.toArray },toks:=s.toks } :=
  I.laid (t':=s.toks) (fun b u e=>aM _ e) (aG _) ⟨hz,us,r,⟨_,bV _ Z,Z,_,Z⟩⟩
 have I2:=I1.Fl (h':=h') (t':=t') (its:=its) (fun b o hb e=>?_) (fun b hb=>⟨nf b hb,(hf b hb).2⟩)
 .exact I2
 .have e':(s.heap.push { cls:=.type "tuple",data:=.seq us.toArray }).get? b=some o:=e;have IM:b<s.heap.objs.size+1:=by have:=bZ e';rw[g4] at this;exact this
  rcases ů b s.heap.objs.size with z | z
  .cases q:s.heap.get? b with
   | none =>
    exact absurd e' (by
     intro e'';have:(s.heap.push { cls:=.type "tuple",data:=.seq us.toArray }).get? b=s.heap.get? b:=by
      first | exact Heap.get?_push_lt _ z | exact Heap.get?_push_of_lt _ z | (simp[Heap.get?,Heap.push,Array.getElem?_push,Nat.ne_of_lt z])
     rw[this,q] at e'';cases e'')
   | some o' =>
    have:=aM { cls:=.type "tuple",data:=.seq us.toArray } q;rw[e'] at this;cases this;exact k b o hb q
  .have eb:b=s.heap.objs.size:=Nat.le_antisymm (Nat.le_of_lt_succ IM) z;subst eb;rw[bV _ Z] at e';rw[ht];exact e'
end
def QT (K:zfq)(a:Addr):It :=
 ⟨fun i H=>∃xs x,mj K H a xs/\xs[i]?=some x,fun i H v H'=>∃p x,v=.ref p/\H p=none/\(∀xs,mj K H a xs->xs[i]?=some x)/\H'=upd H p (.tup [.int i,x]),fun i H=>∃xs,mj K H a xs/\xs.length<=i⟩
def HX {P:Program}{w:World}{K:zfq}{elts:ő}{x1}{pos:Pos}(a e it:Addr)(Pm:e≠it):Turn P w K (.Tuple elts x1 pos) (QT K a) [e,it] e (fun i h=>∃old,IsEnum h e it ((i:Nat):Int) old/\h.IsListIter it a i) where
 mem:=by simp
 obj:=fun i h st b hb=>by
  obtain⟨old,he,o,e1,c,d⟩:=st;rcases ũ.mp hb with z | z
  .subst z;exact⟨_,he,fun v z=>by
    have z':Data.fields _=Data.cell v:=z;cases z'⟩
  .have z':b=it:=by simpa using z
   subst z';exact⟨o,e1,fun v z=>by rw[d] at z;cases z⟩
 keep:=fun i h h' st k=>by
  obtain⟨old,he,st⟩:=st;exact⟨old,k e lB _ he,st.at fun o e'=>k it lB o e'⟩
 item:=by
  intro X hP hw hK hc i â s σ H E I hf st hg;subst hP hw hK;obtain⟨old,he,st⟩:=st;obtain⟨xs,x,hq,hx⟩:=hg;obtain⟨its,rv,p,hz⟩:=I.list hq;obtain⟨u,hu,ru⟩:=rv.get hx;have Vg:e<s.heap.objs.size:=bZ he;have WG:it<s.heap.objs.size:=by obtain⟨o,e1,_⟩:=st;exact Heap.lt_size e1
  refine wpAny_pyNext_enum_item he st p.isList (x:=u) (by simpa using hu) Pm fun h1 eo st1 ht1 hz1 hk1=>?_;refine⟨_,Z,jX eo fun h2 Pn hs2=>?_⟩
  replace hs2:Heap.SameBut e h1 h2:=hs2
  have nm:∀b,b∉[e,it]->b≠e/\b≠it:=fun b hb=>⟨fun z=>hb (by simp[z]),fun z=>hb (by simp[z])⟩;have IT:=I.Br (t':=s.toks+1) (h':=h2) (its:=[e,it]) (xs:=[.int ((i:Nat):Int),x]) (us:=[.int i s.toks,u]) (fun b o hb q=>hs2.extBut b o (nm b hb).1 (hk1 b o (nm b hb).1 (nm b hb).2 q)) hf
   (fun b hb=>by
    rcases ũ.mp hb with z | z
    .rw[z];exact Vg
    .have z':b=it:=by simpa using z
     rw[z'];exact WG)
   (hs2.extBut _ _ (iT Vg) ht1) lR (.cons ⟨_,Z⟩ (.cons ru .nil))
  refine⟨.ref s.heap.objs.size,_,IT.1,Z,⟨_,x,Z,I.hok.fresh (aG _),fun ys hy=>by rw[I.vO hy hq];exact hx,Z⟩,⟨u,?_,st1.extBut hs2.extBut (dR Pm)⟩,IT.2⟩;have:((i+1:Nat):Int)=(i:Int)+1:=by push_cast;rfl
  rw[this];exact Pn
 done:=by
  intro X hP hw hK hc i â s σ H E I hf st hg;subst hP hw hK;obtain⟨old,he,st⟩:=st;obtain⟨xs,hq,hx⟩:=hg;obtain⟨its,rv,p,hz⟩:=I.list hq;have hl:=rv.length;obtain⟨f0,f1,f2,f3,f4,f5⟩:=hf it lB;exact wpAny_pyNext_enum_end (I.ok.hd hc) he st p.isList (by simp;lia) fun h' eb=>⟨Z,I.turned (t':=s.toks) (fun b o hb e=>eb b o hb e) f0 f1 f3 f4 f5⟩
 self:=fun A i s Q E st h=>by
  obtain⟨old,he,st⟩:=st;exact iB he h
section
variable {X:Cx}
inductive NL (K:zfq)(R:(It->Hp->Prop))(vs:ň)(H1:Hp):Prop
 | mk (a:_)(_:vs=[.ref a])(_:∃xs,mj K H1 a xs)(_:R (QT K a) H1)
def Uy (K:zfq)(ta:TA):TI:=fun σ H R=>ta σ H fun vs H1=>NL K R vs H1
def qE {elts:ő}{x1}{pos':Pos}{a:Expr}{ta:TA}{p pos:Pos}(hg:Gl X "enumerate")(hm:X.mg "enumerate"=none)(ha:PA X [a] ta)(hs:starEach [a] X.env=[(false,eval a X.env)]:=by rfl):PI X (.Tuple elts x1 pos') (.Call (.Name "enumerate" p) [a] [] pos) (Uy X.K ta):=by
 intro â s σ H R I h;refine Call_ (rT I hg hm boot_enumerate (cQ (oR (ha pos â s σ H _ I h) fun us s1 ⟨vs,H1,I1,r1,q1⟩=>?_) hs Z));obtain⟨a,e,⟨xs,hq⟩,q⟩:=q1;subst e;cases r1 with
 | cons r rr =>
  cases rr;cases r;obtain⟨its,rv,p,hz⟩:=I1.list hq;refine call_enumerate_list p.isList fun h' he hit hz hk=>?_;have I2:Inv X â σ H1 { s1 with heap:=h' }:=I1.kept (t':=s1.toks) hk;refine iB he ?_;refine⟨_,[s1.heap.objs.size+1,s1.heap.objs.size],_,_,H1,Z,I2,HX a _ _ (kJ _),⟨.none,he,hit⟩,fun b hb=>?_,q⟩;rcases ũ.mp hb with z | z
  .subst z;exact I1.Dy (gN _) (I1.hok.fresh (gN _))
  .have z':b=s1.heap.objs.size:=by simpa using z
   subst z';exact I1.Dy (aG _) (I1.hok.fresh (aG _))
end
def OT (K:zfq)(a b:Addr):It :=
  ⟨fun i H=>∃xs ys x y,mj K H a xs/\mj K H b ys/\xs[i]?=some x/\ys[i]?=some y,fun i H v H'=>∃p x y,v=.ref p/\H p=none/\(∀xs,mj K H a xs->xs[i]?=some x)/\(∀ys,mj K H b ys->ys[i]?=some y)/\H'=upd H p (.tup [x,y]),
   fun i H=>∃xs ys,mj K H a xs/\mj K H b ys/\(xs.length<=i\/ys.length<=i)⟩
def Jf {P:Program}{w:World}{K:zfq}{elts:ő}{x1}{pos:Pos}(a b z TI TO i1 i2:Addr)(D:ZipApart z TI TO i1 i2 a b):Turn P w K (.Tuple elts x1 pos) (OT K a b) [z,TI,TO,i1,i2] z
  (fun i h=>IsZip h z TI TO .none/\IsPair h TI (.ref i1) (.ref i2)/\(∃u v,IsPair h TO u v)/\h.IsListIter i1 a i/\h.IsListIter i2 b i) where
 mem:=by simp
 obj:=fun i h st c hc=>by
  obtain⟨hz,h1,⟨u,v,h2⟩,⟨o1,e1,c1,d1⟩,⟨o2,e2,c2,d2⟩⟩:=st;simp only[ũ,ĭ,or_false] at hc;rcases hc with rfl | rfl | rfl | rfl | rfl
  .exact⟨_,hz,fun v q=>by
    have q':Data.fields _=Data.cell v:=q;cases q'⟩
  .exact⟨_,h1,fun v q=>by
    have q':Data.seq _ _=Data.cell v:=q;cases q'⟩
  .exact⟨_,h2,fun v q=>by
    have q':Data.seq _ _=Data.cell v:=q;cases q'⟩
  .exact⟨o1,e1,fun v q=>by rw[d1] at q;cases q⟩
  .exact⟨o2,e2,fun v q=>by rw[d2] at q;cases q⟩
 keep:=fun i h h' st k=>by
  obtain⟨hz,h1,⟨u,v,h2⟩,s1,s2⟩:=st;exact⟨k z lB _ hz,k TI lB _ h1,⟨u,v,k TO lB _ h2⟩,s1.at fun o e=>k i1 lB o e,s2.at fun o e=>k i2 lB o e⟩
 item:=by
  intro X hP hw hK hc i â s σ H E I hf st hg;subst hP hw hK;obtain⟨hz,h1,⟨u0,v0,h2⟩,s1,s2⟩:=st;obtain⟨xs,ys,x,y,hq,zV,hx,hy⟩:=hg;obtain⟨its,rv,p,hzl⟩:=I.list hq;obtain⟨its',Si,p',zbo⟩:=I.list zV;obtain⟨u,hu,ru⟩:=rv.get hx;obtain⟨u',IN,ru'⟩:=Si.get hy;have ltz:z<s.heap.objs.size:=bZ hz;have lt1:TI<s.heap.objs.size:=bZ h1;have lt2:TO<s.heap.objs.size:=bZ h2;have WG:i1<s.heap.objs.size:=by obtain⟨o,e1,_⟩:=s1;exact Heap.lt_size e1
  have ltj:i2<s.heap.objs.size:=by obtain⟨o,e1,_⟩:=s2;exact Heap.lt_size e1
  refine wpAny_pyNext_zip_item D hz h1 h2 s1 s2 p.isList p'.isList (x:=u) (y:=u') (by simpa using hu) (by simpa using IN) fun g1 a1 a2 a3 a4 a5 a6 hk=>?_;refine⟨_,Z,wpAny_letOwnedTupleGo_zip a1 fun g2 Pn hs2=>?_⟩
  replace hs2:Heap.SameBut z g1 g2:=hs2
  have nm:∀b,b∉[z,TI,TO,i1,i2]->b≠z/\b≠TO/\b≠i1/\b≠i2:=fun b hb=>⟨fun q=>hb (by simp[q]),fun q=>hb (by simp[q]),fun q=>hb (by simp[q]),fun q=>hb (by simp[q])⟩;have IT:=I.Br (t':=s.toks) (h':=g2) (its:=[z,TI,TO,i1,i2]) (xs:=[x,y]) (us:=[u,u']) (fun b o hb q=>hs2.extBut b o (nm b hb).1 (hk b o (nm b hb).1 (nm b hb).2.1 (nm b hb).2.2.1 (nm b hb).2.2.2 q)) hf
   (fun b hb=>by
    simp only[ũ,ĭ,or_false] at hb;rcases hb with rfl | rfl | rfl | rfl | rfl<;>assumption)
   (hs2.extBut _ _ (iT ltz) a5) lR (.cons ru (.cons ru' .nil))
  exact⟨.ref s.heap.objs.size,_,IT.1,Z,⟨_,x,y,Z,I.hok.fresh (aG _),fun ys Fb=>by rw[I.vO Fb hq];exact hx,fun ys Fb=>by rw[I.vO Fb zV];exact hy,Z⟩,
   ⟨Pn,hs2.extBut _ _ D.TIz (hk _ _ D.TIz D.TITO D.TIi1 D.TIi2 h1),⟨_,_,hs2.extBut _ _ D.TOz a2⟩,a3.extBut hs2.extBut D.i1z,a4.extBut hs2.extBut D.i2z⟩,IT.2⟩
 done:=by
  intro X hP hw hK hc i â s σ H E I hf st hg;subst hP hw hK;obtain⟨hz,h1,⟨u0,v0,h2⟩,s1,s2⟩:=st;obtain⟨xs,ys,hq,zV,hx⟩:=hg;obtain⟨its,rv,p,hzl⟩:=I.list hq;obtain⟨its',Si,p',zbo⟩:=I.list zV;have hl:=rv.length;have hl':=Si.length;refine wpAny_pyNext_zip_end (I.ok.hd hc) D hz h1 h2 s1 s2 p.isList p'.isList (by rcases hx with q | q;exact .inl (by simp;lia);exact .inr (by simp;lia)) fun h' hk=>⟨rfl,I.Fl (t':=s.toks) (its:=[z,TI,TO,i1,i2]) (fun b o hb e=>hk b o ?_ ?_ ?_ ?_ e) hf⟩
  .exact fun q=>hb (by simp[q])
  .exact fun q=>hb (by simp[q])
  .exact fun q=>hb (by simp[q])
  .exact fun q=>hb (by simp[q])
 self:=fun A i s Q E st h=>wpAny_pyIter_zip st.1 h
section
variable {X:Cx}
inductive QG (K:zfq)(R:(It->Hp->Prop))(vs:ň)(H1:Hp):Prop
 | mk (a:_)(b:_)(_:vs=[.ref a,.ref b])(_:∃xs,mj K H1 a xs)(_:∃ys,mj K H1 b ys)(_:R (OT K a b) H1)
def YL (K:zfq)(ta:TA):TI:=fun σ H R=>ta σ H fun vs H1=>QG K R vs H1
def qP {elts:ő}{x1}{pos':Pos}{a b:Expr}{ta:TA}{p pos:Pos}(hg:Gl X "zip")(hm:X.mg "zip"=none)(ha:PA X [a,b] ta)(hs:starEach [a,b] X.env=[(false,eval a X.env),(false,eval b X.env)]:=by rfl)(hs2:starEach [b] X.env=[(false,eval b X.env)]:=by rfl) :
  PI X (.Tuple elts x1 pos') (.Call (.Name "zip" p) [a,b] [] pos) (YL X.K ta):=by
 intro â s σ H R I h;refine Call_ (rT I hg hm boot_zip (cQ (oR (ha pos â s σ H _ I h) fun us s1 ⟨vs,H1,I1,r1,q1⟩=>?_) (by rw[hs,hs2]) (by rw[hs2];rfl)));obtain⟨a,b,e,⟨xs,hq⟩,⟨ys,zV⟩,q⟩:=q1;subst e;cases r1 with
 | cons r rr =>
  cases rr with
  | cons r' rr =>
   cases rr;cases r;cases r';obtain⟨its,rv,p,hz⟩:=I1.list hq;obtain⟨its',Si,p',hz'⟩:=I1.list zV;have la:a<s1.heap.objs.size:=by obtain⟨o,e1,_⟩:=p.isList;exact Heap.lt_size e1
   have lb:b<s1.heap.objs.size:=by obtain⟨o,e1,_⟩:=p'.isList;exact Heap.lt_size e1
   refine call_zip_2 p.isList p'.isList fun h' hz hTI hTO hi1 hi2 hsz hk=>?_;have I2:Inv X â σ H1 { s1 with heap:=h' }:=I1.kept (t':=s1.toks) hk;refine wpAny_pyIter_zip hz ?_;refine⟨_,_,_,_,H1,Z,I2,Jf a b _ _ _ _ _ (zipApart_new la lb),⟨hz,hTI,⟨_,_,hTO⟩,hi1,hi2⟩,fun c hc=>?_,q⟩;simp only[ũ,ĭ,or_false] at hc;rcases hc with rfl | rfl | rfl | rfl | rfl<;>exact I1.Dy O (I1.hok.fresh O)
end
def rY {K:zfq}{a:Addr}{xs:ň}{g:TG}{tb:TS}{D:Ends}{σ:St}{H:Hp}(Pv:Nat->St->Hp->Prop)(h0:Pv 0 σ H)(hl:∀i σ H,i<=xs.length->Pv i σ H->mj K H a xs)
  (hs:∀i x σ H p,xs[i]?=some x->Pv i σ H->H p=none->g (.ref p) σ (upd H p (.tup [.int i,x])) fun pK H2=>tb { D with nx:=Pv (i+1),ct:=Pv (i+1),bk:=D.nx } pK H2)(hd:∀σ H,Pv xs.length σ H->D.nx σ H) :
  ∃W:Nat->Nat->St->Hp->Prop,(∃m,W 0 m σ H)/\∀i m σ H,W i m σ H ->
   ((QT K a).stop i H/\D.nx σ H)\/((QT K a).go i H/\∃N:St->Hp->Prop,(∀nC H',N nC H'->∃m',m'<m/\W (i+1) m' nC H')/\∀x H',(QT K a).yld i H x H'->g x σ H' fun pK H2=>tb { D with nx:=N,ct:=N,bk:=D.nx } pK H2):=by
 refine⟨fun i m σ H=>m=xs.length-i/\i<=xs.length/\Pv i σ H,⟨xs.length,lB,ý _,h0⟩,?_⟩;rintro i m σ H ⟨rfl,hi,p⟩;have q:=hl i σ H hi p
 by_cases rK:i<xs.length
 .refine .inr ⟨⟨xs,xs[i],q,by simp[rK]⟩,Pv (i+1),fun nC H' p'=>⟨xs.length-(i+1),O,Z,rK,p'⟩,fun x H' y=>?_⟩;obtain⟨r,y,rfl,hr,hy,rfl⟩:=y;exact hs i y σ _ r (hy xs q) p hr
 .have e:i=xs.length:=O;subst e;exact .inl ⟨⟨xs,q,aG _⟩,hd σ H p⟩
def ug {K:zfq}{a:Addr}{xs:ň}{g:TG}{tc:TT}{te:TE}{nC:St}{H:Hp}{Q:VK}(Pv:Nat->ň->Hp->Prop)(h0:Pv 0 [] H)(hl:∀i ys H,i<=xs.length->Pv i ys H->mj K H a xs)(hz:∀i ys H,i<xs.length->Pv i ys H->ys.length<sizeLine)
  (hs:∀i x ys H p,xs[i]?=some x->Pv i ys H->H p=none->g (.ref p) nC (upd H p (.tup [.int i,x])) fun pK H2=>tc pK H2 fun b H3=>if b=true then te pK H3 fun y H4=>Pv (i+1) (ys++[y]) H4 else Pv (i+1) ys H3)(hd:∀ys H,Pv xs.length ys H->∀D,H D=none->Q (.ref D) (upd H D (.lst ys))) :
  qj (QT K a) g tc te nC Q H:=by
 refine⟨fun i m ys H=>m=xs.length-i/\i<=xs.length/\Pv i ys H,⟨xs.length,lB,ý _,h0⟩,?_⟩;rintro i m ys H ⟨rfl,hi,p⟩;have q:=hl i ys H hi p
 by_cases rK:i<xs.length
 .refine .inr ⟨⟨xs,xs[i],q,by simp[rK]⟩,hz i ys H rK p,Pv (i+1),fun Sd H' p'=>⟨xs.length-(i+1),O,Z,rK,p'⟩,fun x H' y=>?_⟩;obtain⟨r,y,rfl,hr,hy,rfl⟩:=y;exact hs i y ys _ r (hy xs q) p hr
 .have e:i=xs.length:=O;subst e;exact .inl ⟨⟨xs,q,aG _⟩,hd ys H p⟩
def zt {K:zfq}{a b:Addr}{xs ys:ň}{g:TG}{tc:TT}{te:TE}{nC:St}{H:Hp}{Q:VK}(æ:xs.length=ys.length)(Pv:Nat->ň->Hp->Prop)(h0:Pv 0 [] H)(hl:∀i rs H,i<=xs.length->Pv i rs H->mj K H a xs/\mj K H b ys)(hz:∀i rs H,i<xs.length->Pv i rs H->rs.length<sizeLine)
  (hs:∀i x y rs H p,xs[i]?=some x->ys[i]?=some y->Pv i rs H->H p=none->g (.ref p) nC (upd H p (.tup [x,y])) fun pK H2=>tc pK H2 fun b H3=>if b=true then te pK H3 fun y H4=>Pv (i+1) (rs++[y]) H4 else Pv (i+1) rs H3)(hd:∀rs H,Pv xs.length rs H->∀D,H D=none->Q (.ref D) (upd H D (.lst rs))) :
  qj (OT K a b) g tc te nC Q H:=by
 refine⟨fun i m rs H=>m=xs.length-i/\i<=xs.length/\Pv i rs H,⟨xs.length,lB,ý _,h0⟩,?_⟩;rintro i m rs H ⟨rfl,hi,p⟩;have q:=hl i rs H hi p
 by_cases rK:i<xs.length
 .refine .inr ⟨⟨xs,ys,xs[i],ys[i],q.1,q.2,by simp[rK],lB⟩,hz i rs H rK p,Pv (i+1),fun Sd H' p'=>⟨xs.length-(i+1),O,Z,rK,p'⟩,fun x H' y=>?_⟩;obtain⟨r,x,y,rfl,hr,hx,hy,rfl⟩:=y;exact hs i x y rs _ r (hx xs q.1) (hy ys q.2) p hr
 .have e:i=xs.length:=O;subst e;exact .inl ⟨⟨xs,ys,q.1,q.2,.inl (aG _)⟩,hd rs H p⟩
def wX {K:zfq}{n i j:Nat}(h:n<=i)(h':n<=j):tK n (M7 K 2 (xk (nu i) (xk (nu j) M4))):=by
 rintro x σ H Q ⟨a,xs,rfl,hq,hl,v,r,rfl,v',r',rfl,rfl,q⟩;exact⟨a,_,Z,hq,hl,v,_,Z,v',_,Z,Z,⟨lB,fun k hk=>by rw[List.getElem?_set_ne O,List.getElem?_set_ne O]⟩,q⟩
def K3:bootBuiltins "all"=some (.builtin "all"):=by decide +kernel
def P1:bootBuiltins "min"=some (.builtin "min"):=by decide +kernel
def LW:bootBuiltins "max"=some (.builtin "max"):=by decide +kernel
open PySem PySem.Spec PyProof.Rows PySem.SeqAt
mutual
inductive GR (K:zfq)(H:Hp):V->PyData->Prop
 | non:GR K H .non .none
 | bl (b:Bool):GR K H (.bl b) (.bool b)
 | int (i:Int):GR K H (.int i) (.int i)
 | str (x:Str):GR K H (.str x) (.str x)
 | lst {a:Addr}{xs:ň}{ds:List PyData}:mj K H a xs->Dj K H xs ds->GR K H (.ref a) (.list ds)
 | tup {a:Addr}{xs:ň}{ds:List PyData}:mW K H a xs->Dj K H xs ds->GR K H (.ref a) (.tuple ds)
inductive Dj (K:zfq)(H:Hp):ň->List PyData->Prop
 | nil:Dj K H [] []
 | cons {x:V}{d:PyData}{xs:ň}{ds:List PyData}:GR K H x d->Dj K H xs ds->Dj K H (x::xs) (d::ds)
end
section
variable {X:Cx}{â:ł}{σ:St}{H:Hp}{s:Shared}
mutual
theorem tR (I:Inv X â σ H s):∀{x:V}{d:PyData}{u:Value},GR X.K H x d->RelV x u->∃as,Reads s.heap u d as
 | _,_,_,.non,r=>by cases r;exact⟨_,.none⟩
 | _,_,_,.bl b,r=>by cases r;exact⟨_,.bool b⟩
 | _,_,_,.int i,⟨t,e⟩=>by subst e;exact⟨_,.int i t⟩
 | _,_,_,.str y,⟨t,e⟩=>by subst e;exact⟨_,.str y t⟩
 | _,_,_,.lst h hs,r=>by
  cases r;obtain⟨its,rv,pl,_⟩:=I.list h;obtain⟨as,ra⟩:=tL I hs rv;obtain⟨o,ho,hc,n,hd⟩:=pl.isList;exact⟨_,.list ho hc hd ra⟩
 | _,_,_,.tup h hs,r=>by
  cases r;obtain⟨its,rv,pl,_⟩:=I.tuple h;obtain⟨as,ra⟩:=tL I hs rv;obtain⟨o,ho,hc,n,hd⟩:=pl;exact⟨_,.tuple ho hc hd ra⟩
theorem tL (I:Inv X â σ H s):∀{xs:ň}{ds:List PyData}{us:ņ},Dj X.K H xs ds->Vals xs us->∃as,ReadsAll s.heap us ds as
 | _,_,_,.nil,.nil=>⟨_,.nil⟩
 | _,_,_,.cons h t,.cons r rs=>by
  obtain⟨as,ra⟩:=tR I h r;obtain⟨bs,rb⟩:=tL I t rs;exact⟨_,.cons ra rb⟩
end
end
inductive Nq (K:zfq)(x:V)(y:V)(H:Hp)(Q:VK):Prop
 | mk (d:_)(e:_)(_:GR K H x d)(_:GR K H y e)(_:shaped d=true)(_:shaped e=true)(_:noMix d e=true)(_:Q (.bl (same d e)) H)
inductive LP (K:zfq)(x:V)(y:V)(H:Hp)(Q:VK):Prop
 | mk (d:_)(e:_)(_:GR K H x d)(_:GR K H y e)(_:shaped d=true)(_:shaped e=true)(_:noMix d e=true)(_:Q (.bl (!same d e)) H)
def Of {A:Around}{k:Nat}(hr:oT k A):A.units+64<cLine:=by have:=hr.un;lia
section
variable {X:Cx}
def JH (hu:X.A.units+64<cLine):wy X (compareOp .Eq) (Nq X.K):=by
 intro â s σ H x y v u Q I rx ry h;obtain⟨d,e,h1,h2,s1,s2,nm,q⟩:=h;obtain⟨as,ra⟩:=tR I h1 rx;obtain⟨bs,rb⟩:=tR I h2 ry;exact eq_dataH_same ra rb s1 s2 hu nm ⟨.bl _,H,I,Z,q⟩
def Kl (hu:X.A.units+64<cLine):wy X (compareOp .NotEq) (LP X.K):=by
 intro â s σ H x y v u Q I rx ry h;obtain⟨d,e,h1,h2,s1,s2,nm,q⟩:=h;obtain⟨as,ra⟩:=tR I h1 rx;obtain⟨bs,rb⟩:=tR I h2 ry;exact ne_dataH_same ra rb s1 s2 hu nm ⟨.bl _,H,I,Z,q⟩
end
def B5 {K:zfq}{H:Hp}:∀ns:ń,Dj K H (ns.map zad) (ns.map PyData.int)
 | []=>.nil
 | n::r=>.cons (.int n) (B5 r)
def Lu {K:zfq}{H:Hp}{a:Addr}{ns:ń}(h:mj K H a (ns.map zad)):GR K H (.ref a) (.list (ns.map PyData.int)):=.lst h (B5 ns)
def Jq (ns ms:ń):noMix (.list (ns.map PyData.int)) (.list (ms.map PyData.int))=true:=by simp only[noMix];exact PySem.W.noMix_ints ns ms
def Ez (ns ms:ń):same (.list (ns.map PyData.int)) (.list (ms.map PyData.int))=decide (ns=ms):=by simp only[same];exact PySem.W.same_ints ns ms
def QS {K:zfq}{H:Hp}{a b:Addr}{ns ms:ń}{Q:VK}(h1:mj K H a (ns.map zad))(h2:mj K H b (ms.map zad))(q:Q (.bl (decide (ns=ms))) H):Nq K (.ref a) (.ref b) H Q :=
 ⟨_,_,Lu h1,Lu h2,iN ns,iN ms,Jq ns ms,by rw[Ez];exact q⟩
def AK:∀{ns:ń}{its:ņ},Vals (ns.map zad) its->∃ts:List (Int×Tok),its=ts.map (fun p=>Value.int p.1 p.2)/\ts.map (·.1)=ns
 | [],_,.nil=>⟨[],Z,Z⟩
 | n::r,_,.cons ⟨t,e⟩ rs=>by
  obtain⟨ts,e1,e2⟩:=AK rs;subst e;exact⟨(n,t)::ts,by rw[e1];rfl,by rw[<-e2];rfl⟩
section
variable {X:Cx}
def wO (hc:X.calm=true):r8 X (.builtin "sum") (fun xs H Q=>∃(a:Addr)(ns:ń),xs=[.ref a]/\mj X.K H a (ns.map zad)/\Q (.int ns.sum) H):=by
 intro â s σ H xs us Q I r h;obtain⟨a,ns,rfl,hl,q⟩:=h;obtain⟨u,rfl,ru⟩:=vals1 r;cases ru;obtain⟨its,rv,pl,_⟩:=I.list hl;obtain⟨ts,e1,e2⟩:=AK rv;have hi:s.heap.IsList a (intItems ts.toArray):=by
  have e:intItems ts.toArray=its.toArray:=by rw[e1];simp[intItems]
  rw[e];exact pl.isList
 refine sum_intListG (I.ok.hd hc) hi fun h' tk t' hk=>⟨.int ns.sum,H,I.kept (t':=tk) hk,⟨t',?_⟩,q⟩;rw[preSum_eq,jH lB,<-e2]
end
end L2
open L2 renaming inClass→zdm, qh→zee, tN→zew, oJ→zfn
namespace Ld
variable {n B C:Nat}{F:ř}{x:Int}{a b:ń}
def S:Nat->(Int->Int)->Int
 | 0,_=>0
 | n+1,F=>S n F+F n
def lP {F G:ř}:∀{n:Nat},(∀j:Nat,j<n->F j=G j)->S n F=S n G
 | 0,_=>rfl
 | n+1,h=>by simp only[S];rw[lP fun j hj=>h j lC,h n lC]
def oC:∀n:Nat,S n (fun _=>0)=0
 | 0=>rfl
 | n+1=>by simp only[S];rw[oC n];rfl
def oh (F G:ř):∀n:Nat,S n (fun j=>F j+G j)=S n F+S n G
 | 0=>rfl
 | n+1=>by simp only[S];rw[oh F G n];lia
def mK (c:Int)(F:ř):∀n:Nat,S n (fun j=>c*F j)=c*S n F
 | 0=>by simp[S]
 | n+1=>by simp only[S];rw[mK c F n,Int.mul_add]
def rM (c:Int)(F:ř)(n:Nat):S n (fun j=>F j*c)=S n F*c:=by
 rw[ay,<-mK];exact lP fun j _=>ay _ _
def oK (F:ŗ)(m:Nat):∀n:Nat,S n (fun j=>S m (fun k=>F j k))=S m (fun k=>S n (fun j=>F j k))
 | 0=>by simp only[S];rw[oC]
 | n+1=>by simp only[S];rw[oK F m n,<-oh]
def vn {c:Int}{G:ř}:∀{n:Nat},0<=c->S n (fun j=>if j=c then G j else 0)=if c<n then G c else 0
 | 0,h=>by simp only[S];rw[if_neg lC]
 | n+1,h=>by
  simp only[S];rw[vn h]
  by_cases e:(n:Int)=c
  .subst e;rw[ah lC,aA Z,aA lC];lia
  .rw[ah e]
   by_cases q:c<(n:Int)
   .rw[aA q,aA lC];lia
   .rw[ah q,ah lC];lia
def oB (n:Nat)(F:ř):Prop:=∀x y:Int,x%n=y%n->F x=F y
def oB.md (h:oB n F)(x:Int):F (x%n)=F x:=h _ _ (aX x (cq _))
def OL (hn:0<n)(hF:oB n F)(φ ψ:ř)(hφ:∀x y:Int,x%n=y%n->φ x%n=φ y%n)(hψ:∀x y:Int,x%n=y%n->ψ x%n=ψ y%n)
 (h1:∀x,ψ (φ x)%n=x%n)(h2:∀x,φ (ψ x)%n=x%n):S n (fun j=>F (φ j))=S n F:=by
  have np:(0:Int)<n:=lC;have e1:S n (fun j=>F (φ j))=S n (fun j=>S n (fun k=>if k=φ j%n then F k else 0)):=lP fun j hj=>by
    rw[vn (aH _ lC),aA (aF _ np),hF.md]
  rw[e1,oK];refine lP fun k hk=>?_;have e2:S n (fun j=>if (k:Int)=φ j%n then F k else 0)=S n (fun j=>if j=ψ k%n then F k else 0):=lP fun j hj=>by
    have ej:(j:Int)%n=j:=aT lC lC;have ek:(k:Int)%n=k:=aT lC lC;have iff:((k:Int)=φ j%n)↔((j:Int)=ψ k%n):=by
      constructor
      · intro e
        have:=hψ k (φ j) (by rw[ek];exact e);rw[this,h1,ej]
      · intro e
        have:=hφ j (ψ k) (by rw[ej];exact e);rw[this,h2,ek]
    by_cases q:(k:Int)=φ j%n
    · rw[aA q,aA (iff.mp q)]
    · rw[ah q,ah fun z=>q (iff.mpr z)]
  rw[e2,vn (G:=fun _=>F k) (aH _ lC),aA (aF _ np)]
def xf {n y:Int}(c:Int)(h:x%n=y%n):(x+c)%n=(y+c)%n:=by rw[Int.add_emod,h,<-Int.add_emod]
def xh {n y:Int}(c:Int)(h:x%n=y%n):(x*c)%n=(y*c)%n:=by rw[eT,h,<-eT]
def tZ {n y:Int}(c:Int)(h:x%n=y%n):(c-x)%n=(c-y)%n:=by rw[dr,h,<-dr]
def Je (hn:0<n)(hF:oB n F)(c:Int):S n (fun j=>F (c-j))=S n F :=
 OL hn hF (fun j=>c-j) (fun j=>c-j) (fun x y h=>tZ c h) (fun x y h=>tZ c h) (fun x=>by congr 1;omega) (fun x=>by congr 1;omega)
def Q4 (hn:0<n)(hF:oB n F){u v:Int}(huv:(u*v)%n=1%n):S n (fun j=>F (j*u))=S n F:=by
 have one:∀x:Int,(x*(u*v))%n=x%n:=fun x=>by rw[eT,huv,<-eT,bX]
 refine OL hn hF (fun j=>j*u) (fun j=>j*v) (fun x y h=>xh u h) (fun x y h=>xh v h) (fun x=>?_) (fun x=>?_)
 .show (x*u*v)%n=_
  rw[aE];exact one x
 .show (x*v*u)%n=_
  rw[aE,ay v u];exact one x
def at' (a:ń)(x:Int):Int:=a.getD (x%a.length).toNat 0
def Jg (a:ń):oB a.length (at' a):=fun x y h=>by unfold at';rw[h]
def m7 (h:a.length=n):oB n (at' a):=h▸Jg a
def uu (hn:0<n)(x:Int):(x%n).toNat<n:=by
 have h1:=aH x (show (n:Int)≠0 by omega);have h2:=aF x (show (0:Int)<n by omega);omega
def xS (hn:0<n)(x:Int):(((x%n).toNat:Nat):Int)=x%n:=cR (aH x lC)
def rP (h:0<a.length):a[(x%a.length).toNat]?=some (at' a x):=by
 have:=uu h x;unfold at';rw[ak,az this];rfl
def pZ {k:Nat}{v:Int}(h:a[k]?=some v):at' a k=v:=by
 have hk:k<a.length:=(aJ.mp h).1;unfold at';rw[aT lC lC,ae,ak,h];rfl
def Bc {k:Nat}(h:k<a.length):a[k]?=some (at' a k):=by
 rw[az h];exact cA some (pZ (az h)).symm
def ext (hl:a.length=b.length)(h:∀k:Nat,k<a.length->at' a k=at' b k):a=b:=by
 refine iV fun k=>?_
 by_cases hk:k<a.length
 .rw[Bc hk,Bc (hl▸hk),h k hk]
 .rw[cF lC,cF lC]
def wx (hl:a.length=n)(hn:0<n)(x v y:Int):at' (a.set (x%n).toNat v) y=if y%n=x%n then v else at' a y:=by
 have hx:=uu hn x;have hy:=uu hn y;unfold at';rw[cI,hl,ak,List.getElem?_set]
 by_cases e:y%n=x%n
 .rw[aA e,e,aA Z,aA lC];rfl
 .rw[ah e,ah fun z=>e ?_,<-ak];have:=cA (Nat.cast (R:=Int)) z;rw[xS hn,xS hn] at this;exact this.symm
def Ey (n:Nat)(x:Int):at' (ş n 0) x=0:=by
 unfold at';rw[ak,fI];split<;>rfl
def PR (n:Nat)(h w:Int):ń:=(ş n 0).set (h%n).toNat w
def plus (a b:ń):ń:=ž (· + ·) a b
def p9 (h:a.length=b.length):(plus a b).length=a.length:=by simp[plus,h]
def sF (h:a.length=b.length)(hn:0<a.length)(x:Int):at' (plus a b) x=at' a x+at' b x:=by
 have e:=rP (a:=plus a b) (x:=x) (by rw[p9 h];exact hn);rw[p9 h] at e;unfold plus at e;rw[cy,rP hn,show (x%a.length).toNat=(x%b.length).toNat by rw[h],rP lC] at e;exact(bO e).symm
def scaled (a:ń)(m:Int):ń:=a.map (· * m)
def oW (a:ń)(m:Int):(scaled a m).length=a.length:=by simp[scaled]
def ur (hn:0<a.length)(m x:Int):at' (scaled a m) x=at' a x*m:=by
 have e:=rP (a:=scaled a m) (x:=x) (by rw[oW];exact hn);rw[oW] at e;unfold scaled at e;rw[af,rP hn] at e;exact(bO e).symm
def conv (a b:ń):ń:=(ŭ b.length).map fun x:Nat=>S b.length fun j=>at' a j*at' b ((x:Int)-j)
def oH (a b:ń):(conv a b).length=b.length:=by simp[conv]
def Jn (h:b.length=n):oB n fun x=>S n fun j=>at' a j*at' b (x-j):=fun x y e=>lP fun j _=>by
 have:at' b (x-j)=at' b (y-j):=m7 h _ _ (by rw[dr,e,<-dr]);rw[this]
def sy (h:b.length=n)(hn:0<n)(x:Int):at' (conv a b) x=S n fun j=>at' a j*at' b (x-j):=by
 subst h;have e:=rP (a:=conv a b) (x:=x) (by rw[oH];exact hn);rw[oH] at e;unfold conv at e;rw[af,dj (uu hn x)] at e;have e':=bO e;unfold conv;rw[<-e'];show (S b.length fun j=>at' a j*at' b (((x%b.length).toNat:Nat)-j))=_
 rw[xS hn];exact(Jn (a:=a) (b:=b) Z).md x
def wH (h:oB n F)(c:Int):oB n fun j=>F (c-j):=fun x y e=>h _ _ (tZ c e)
def A9 {G:ř}(h:oB n F)(g:oB n G):oB n fun j=>F j*G j:=fun x y e=>by show F x*G x=_;rw[h x y e,g x y e]
def Bd (B:Nat)(a:ń):Prop:=∀x∈a,x.natAbs<=B
def pP (h:Bd B a)(l:B<=C):Bd C a:=fun x hx=>aS (h x hx) l
def Q1 {k:Nat}{v:Int}(h:Bd B a)(l:B<=C)(hv:v.natAbs<=C):Bd C (a.set k v):=fun x hx=>by
 rcases ó hx with z | z
 .exact aS (h x z) l
 .rw[z];exact hv
def Qw (B n:Nat):Bd B (ş n 0):=fun x hx=>by rw[(gJ.mp hx).2];exact dW _
def rJ (h:Bd B a)(x:Int):(at' a x).natAbs<=B:=by
 unfold at';rw[ak];cases e:a[(x%a.length).toNat]? with
 | none=>exact dW _
 | some v=>exact h v (ao e)
def Gn (h:∀k:Nat,k<a.length->(at' a k).natAbs<=B):Bd B a:=fun x hx=>by
 obtain⟨k,hk,rfl⟩:=ø.mp hx;have:=h k hk;rwa [pZ (az hk)] at this
def Nj (e:a.length=b.length)(ha:Bd B a)(hb:Bd C b):Bd (B+C) (plus a b):=Gn fun k hk=>by
 rw[p9 e] at hk;rw[sF e lC];have:=rJ ha k;have:=rJ hb k;omega
def Ia {m:Int}(ha:Bd B a)(hm:m.natAbs<=C):Bd (B*C) (scaled a m):=fun x hx=>by
 obtain⟨y,hy,rfl⟩:=ţ.mp hx;rw[aR];exact cU (ha y hy) hm
def TR {B:Nat}{F:ř}:∀{n:Nat},(∀j:Nat,j<n->(F j).natAbs<=B)->(S n F).natAbs<=n*B
 | 0,_=>by simp[S]
 | n+1,h=>by
  have a:=TR (n:=n) fun j hj=>h j lC;have b:=h n lC;simp only[S];rw[fv];omega
def MF (IM:b.length=n)(ha:Bd B a)(hb:Bd C b):Bd (n*(B*C)) (conv a b):=Gn fun k hk=>by
 rw[oH,IM] at hk;rw[sy IM lC];refine TR fun j _=>?_;rw[aR];exact cU (rJ ha _) (rJ hb _)
variable {B:Nat}{a:ń}
def nz (a:ń)(i:Nat):ľ:=((ŭ i).map fun j:Nat=>((j:Int),at' a j)).filter fun p=>decide (¬p.2=0)
def xP (a:ń)(i:Nat):nz a (i+1)=nz a i++(if at' a i=0 then [] else [((i:Int),at' a i)]):=by
 unfold nz;rw[iC,aQ,kg];congr 1
 by_cases h:at' a i=0<;>simp[h]
def Ei (a:ń)(i:Nat):(nz a i).length<=i:=by
 unfold nz;refine aS (jU _ _) ?_;simp
def LD (a b:ń)(x:Int):∀i:Nat,((nz a i).map fun p=>p.2*at' b (x-p.1)).sum=S i fun j=>at' a j*at' b (x-j)
 | 0=>by simp[nz,S]
 | i+1=>by
  rw[xP,aQ,kU,LD a b x i];simp only[S]
  by_cases h:at' a i=0
  .rw[aA h,h];simp
  .rw[ah h];simp
def UR (h:Bd B a){i:Nat}{p:Int×Int}(hp:p∈nz a i):p.2.natAbs<=B:=by
 unfold nz at hp;obtain⟨j,_,rfl⟩:=ţ.mp (List.mem_filter.mp hp).1;exact rJ h _
def KQ {C n:Nat}{b:ń}(IM:b.length=n)(hn:n<=420)(ha:Bd (2^B) a)(hb:Bd (2^C) b):Bd (2^(B+C+9)) (conv a b):=by
 refine pP (MF IM ha hb) ?_;rw[fO 2 (B+C) 9,fO 2 B C,dJ];exact dY _ O
def KS {b:ń}(e:a.length=b.length)(ha:Bd (2^B) a)(hb:Bd (2^B) b):Bd (2^(B+1)) (plus a b):=by
 refine pP (Nj e ha hb) ?_;rw[dX];lia
def yG {C:Nat}{m:Int}(ha:Bd (2^B) a)(hm:m.natAbs<=2^C):Bd (2^(B+C)) (scaled a m):=by
 rw[fO];exact Ia ha hm
end Ld
open Ld renaming S→zag, at'→zaw, lP→zbc, scaled→zbj, mK→zbk, oB→zbl, Bd→zbz, oh→zca, m7→zcv, plus→zdb, oK→zdf, oC→zdh, pZ→zdt, rM→zec, conv→zef, rJ→zev, nz→zfg, oW→zfm
set_option maxHeartbeats 5000000
namespace L2
variable {n:Nat}{a:ń}
open PySem PySem.Spec PyProof.Rows PySem.SeqAt
def t8 {k:Int}(h0:0<=k)(h1:k<n):IJ n k=some k.toNat:=by unfold IJ;rw[if_pos h0,if_pos h1]
def vF {xs:ň}(hl:xs.length=n)(hn:0<n)(x:Int):IJ xs.length (x%n)=some (x%n).toNat:=by
 rw[hl];exact t8 (aH _ O) (aF _ O)
def v6 (hl:a.length=n):(a.map zad).length=n:=by rw[aa,hl]
def xU (hl:a.length=n)(hn:0<n)(x:Int):oi (a.map zad) (x%n)=some (.int (zaw a x)):=by
 subst hl;unfold oi;rw[vF (v6 Z) hn];show (a.map zad)[(x%(a.length:Int)).toNat]?=_
 rw[af,Ld.rP hn];rfl
def AC {k:Int}(h0:0<=k)(hk:k<a.length):oi (a.map zad) k=some (.int (zaw a k)):=by
 have:=xU (a:=a) Z O k;rwa [aT h0 hk] at this
def rep0 (m:Nat):(ş ((m:Nat):Int).toNat [zad 0]).flatten=(ş m (0:Int)).map zad:=by
 rw[ae]
 induction m with
 | zero=>rfl
 | succ k ih=>rw[dQ,fX,ih,dQ,eD];rfl
def set_int {j:Nat}{v:Int}:(a.map zad).set j (.int v)=(a.set j v).map zad:=by rw[List.map_set]
def og {l:ń}{i:Nat}{v:Int}(h:l[i]?=some v):(l.take (i+1)).map zad=(l.take i).map zad++[.int v]:=by
 rw[k5,h,aQ];rfl
def oz {l:ń}(h:l.length=n):(l.take n).map zad=l.map zad:=by rw[<-h,b5]
def Di (H:Hp)(r:Addr)(ps:ľ):Prop:=∃as:ŋ,H r=some (.lst (as.map zbb))/\Paired (fun a (x:Int×Int)=>H a=some (.tup [.int x.1,.int x.2])) as ps
def rh {as:ŋ}{i:Nat}{x:V}(h:(as.map zbb)[i]?=some x):∃a,x=.ref a/\as[i]?=some a:=by
 rw[af] at h;cases e:as[i]? with
 | none=>rw[e] at h;cases h
 | some v=>rw[e] at h;cases h;exact⟨v,Z,Z⟩
def Nr {a b:Int}{B C:Nat}(ha:a.natAbs<=2^B)(hb:b.natAbs<=2^C)(h:B+C<=1000000):IntMulOk a b :=
 sL (m:=B+1) (n:=C+1) (bL ha (jY L (bQ _))) (bL hb (jY L (bQ _))) O
def oy {g:TG}{tb:TS}{D:Ends}{σ:St}{H:Hp}(Pv:Nat->St->Hp->Prop)(h0:Pv 0 σ H)
 (hs:∀i σ H,i<n->Pv i σ H->g (.int i) σ H fun pK H2=>tb { D with nx:=Pv (i+1),ct:=Pv (i+1),bk:=D.nx } pK H2)(hd:∀σ H,Pv n σ H->D.nx σ H) :
    ∃W:Nat->Nat->St->Hp->Prop,(∃m,W 0 m σ H)/\∀i m σ H,W i m σ H ->
      ((Ie 0 n).stop i H/\D.nx σ H)\/((Ie 0 n).go i H/\∃N:St->Hp->Prop,(∀nC H',N nC H'->∃m',m'<m/\W (i+1) m' nC H')/\∀x H',(Ie 0 n).yld i H x H'->g x σ H' fun pK H2=>tb { D with nx:=N,ct:=N,bk:=D.nx } pK H2) :=
  Hq Pv h0 (fun i σ H hi p=>by rw[eI];exact hs i σ H hi p) hd
def rH {g:TG}{tc:TT}{te:TE}{nC:St}{H:Hp}{Q:VK}(Pv:Nat->ň->Hp->Prop)(h0:Pv 0 [] H)(hz:∀i ys H,i<n->Pv i ys H->ys.length<sizeLine)
 (hs:∀i ys H,i<n->Pv i ys H->g (.int i) nC H fun pK H2=>tc pK H2 fun b H3=>if b=true then te pK H3 fun y H4=>Pv (i+1) (ys++[y]) H4 else Pv (i+1) ys H3)(hd:∀ys H,Pv n ys H->∀D,H D=none->Q (.ref D) (upd H D (.lst ys))) :
    qj (Ie 0 n) g tc te nC Q H:=yr Pv h0 hz (fun i ys H hi p=>by rw[eI];exact hs i ys H hi p) hd
def Km {xs:ň}(hl:xs.length=n)(hn:0<n){x:Int}(hx:x%n=x):IJ xs.length x=some (x%n).toNat:=(cA (IJ xs.length) hx.symm).trans (vF hl hn x)
def qI {X:Cx}{K:zfq}(h:X.K=K):R6 X (T5 K):=by subst h;exact mU
def HI {X:Cx}{K:zfq}(h:X.K=K):r8 X (.builtin "len") (fun xs H Q=>∃p ys,xs=[.ref p]/\(mj K H p ys\/mW K H p ys)/\Q (.int ys.length) H):=by subst h;exact vK
open PySem PySem.Spec PyProof.Rows
def Lw (lo st:Int)(n:Nat):It:=⟨fun i _=>i<n,fun i H x H'=>H'=H/\x=.int (lo+i*st),fun i _=>n<=i⟩
def Dp {P:Program}{w:World}{K:zfq}{tg:Expr}(it:Addr)(lo st:Int)(n:Nat):Turn P w K tg (Lw lo st n) [it] it (fun i h=>IsRangeIter h it (lo+(i:Nat)*st) ((n:Int)-(i:Nat)) st) where
 mem:=by simp
 obj:=fun i h st b hb=>by
  have e:b=it:=by simpa using hb
  subst e;exact⟨_,st,fun v z=>by
   have z':Data.fields _=Data.cell v:=z;cases z'⟩
 keep:=fun i h h' st k=>k it lB _ st
 item:=by
  intro X hP hw hK hc i â s σ H E I hf Rp hg;subst hP hw hK;obtain⟨f0,f1,f2,f3,f4,f5⟩:=hf it lB;have W:=Walks.range (prog:=X.prog) (w:=X.w) (I.ok.hd hc) it lo st n;refine W.item i s _ _ hg Rp fun v h' tk hv Vh kk=>?_;obtain⟨t,rfl⟩:=hv;have I1:Inv X â σ H { s with heap:=h',toks:=tk }:=I.turned (fun b o hb e=>kk b o (by simpa using hb) e) f0 f1 f3 f4 f5;exact⟨_,Z,KN (s:={ s with heap:=h',toks:=tk }) (n:="range_iterator") Vh Z Z L ⟨.int (lo+i*st),H,I1,⟨t,Z⟩,⟨Z,Z⟩,Vh,fun b hb=>(hf b hb).1⟩⟩
 done:=by
  intro X hP hw hK hc i â s σ H E I hf st hg;subst hP hw hK;obtain⟨f0,f1,f2,f3,f4,f5⟩:=hf it lB;exact ky (I.ok.hd hc) st (by have:n<=i:=hg;omega) fun h' eb=>⟨Z,I.turned (t':=s.toks) (fun b o hb e=>eb b o hb e) f0 f1 f3 f4 f5⟩
 self:=fun _ _ _ _ _ st h=>kC st h
def ya (lo hi st:Int):Nat:=if lo<hi then ((hi-lo-1)/st+1).toNat else 0
def ON {lo hi st:Int}(h:0<st):Builtin.Range.rangeSize lo hi st=(ya lo hi st:Nat):=by
 unfold Builtin.Range.rangeSize ya;rw[aA h];split
 .have:=de (show 0<=hi-lo-1 by omega) (show 0<=st by omega);omega
 .rfl
def Nt {lo hi st:Int}(h:0<st)(h0:0<=lo)(h1:hi<=1000000):ya lo hi st<=1000000:=by
 unfold ya;split
 .have:=cx (b:=st) (show 0<=hi-lo-1 by omega);omega
 .omega
section
def DW {lo st:Int}{n:Nat}{g:TG}{tb:TS}{D:Ends}{σ:St}{H:Hp}(Pv:Nat->St->Hp->Prop)(h0:Pv 0 σ H)
  (hs:∀i σ H,i<n->Pv i σ H->g (.int (lo+i*st)) σ H fun pK H2=>tb { D with nx:=Pv (i+1),ct:=Pv (i+1),bk:=D.nx } pK H2)(hd:∀σ H,Pv n σ H->D.nx σ H) :
  ∃W:Nat->Nat->St->Hp->Prop,(∃m,W 0 m σ H)/\∀i m σ H,W i m σ H ->
   ((Lw lo st n).stop i H/\D.nx σ H)\/((Lw lo st n).go i H/\∃N:St->Hp->Prop,(∀nC H',N nC H'->∃m',m'<m/\W (i+1) m' nC H')/\∀x H',(Lw lo st n).yld i H x H'->g x σ H' fun pK H2=>tb { D with nx:=N,ct:=N,bk:=D.nx } pK H2):=by
 refine⟨fun i m σ H=>m=n-i/\i<=n/\Pv i σ H,⟨n,lB,ý _,h0⟩,?_⟩;rintro i m σ H ⟨rfl,hi,p⟩
 by_cases rK:i<n
 .refine .inr ⟨rK,Pv (i+1),fun nC H' p'=>⟨n-(i+1),lC,Z,rK,p'⟩,fun x H' y=>?_⟩;obtain⟨e,y⟩:=y;subst e y;exact hs i σ _ rK p
 .have e:i=n:=lC;subst e;exact .inl ⟨aG _,hd σ H p⟩
end
def Ha (H:Hp)(r:Addr)(ts:ļ):Prop:=∃as:ŋ,H r=some (.lst (as.map zbb))/\Paired (fun a (x:Int×Int×Int)=>H a=some (.tup [.int x.1,.int x.2.1,.int x.2.2])) as ts
def Ha.same {H H':Hp}{r:Addr}{ts:ļ}(h:Ha H r ts)(s:lO H H'):Ha H' r ts:=let ⟨as,h1,h2⟩:=h;⟨as,s _ _ h1,Paired.uB h2 fun d x e=>s _ _ e⟩
section
variable {X:Cx}
abbrev vZ (i:Int):Int:=((Builtin.Int.intBits i:Nat):Int)
inductive Ua (x:V)(vs:ň)(H:Hp)(Q:VK):Prop
 | mk (i:Int)(_:x=.int i)(_:vs=[])(_:Q (.int (vZ i)) H)
def vL:MtM X "int.bit_length" Ua:=by
 intro â s σ H x vs v us Q I rx rv h;obtain⟨i,rfl,rfl,q⟩:=h;cases rv;obtain⟨t,rfl⟩:=rx;exact call_int_bit_length ⟨.int (vZ i),H,I.tok _,⟨_,Z⟩,q⟩
def Dk {i:Int}(h:¬vZ i > 0):i=0:=by
 unfold vZ Builtin.Int.intBits at h
 by_cases e:i=0
 .exact e
 .rw[ah (by simpa using e)] at h;omega
def Oc {i:Int}(h:vZ i > 0):¬i=0:=by
 rintro rfl;exact absurd h L
def uG:∀{l:ņ}{n:Nat}{F:Nat->V},l.length=n->(∀(j:Nat) v,l[j]?=some v->RelV (F j) v)->Vals ((ŭ n).map F) l
 | [],n,F,hl,_=>by cases hl;exact .nil
 | v::l,n,F,hl,h=>by
  cases hl;have e:(ŭ (v::l).length).map F=F 0::(ŭ l.length).map (fun j=>F (j+1)):=by
   rw[bJ,List.range_succ_eq_map,eD,jI];rfl
  rw[e];exact .cons (h 0 v Z) (uG Z fun j u hj=>h (j+1) u hj)
def Dx (lo st:Int)(n:Nat):ń:=(ŭ n).map fun (i:Nat)=>lo+(i:Int)*st
inductive QB (Q:VK)(vs:ň)(H1:Hp):Prop
 | mk (i j k:Int)(_:vs=[.int i,.int j,.int k])(_:0<=i/\i<=1000000/\0<=j/\j<=1000000/\0<k/\k<=1000000)(_:∀l,H1 l=none->Q (.ref l) (upd H1 l (.lst ((Dx i k (ya i j k)).map zad))))
def ZJ (ta:TA):TE:=fun σ H Q=>ta σ H fun vs H1=>QB Q vs H1
def KC {a b c:Expr}{ta:TA}{p p2 pos IF:Pos}(hcm:X.calm=true)(Vi:Gl X "list")(hml:X.mg "list"=none)(hg:Gl X "range")(hm:X.mg "range"=none)(ha:PA X [a,b,c] ta)
  (he:starEach [a,b,c] X.env=(false,eval a X.env)::starEach [b,c] X.env:=by rfl)(zu:(backTo IF (starEach [b,c] X.env)).any (·.1)=false:=by rfl)
  (Pn:starEach [.Call (.Name "range" p2) [a,b,c] [] IF] X.env=(false,eval (.Call (.Name "range" p2) [a,b,c] [] IF) X.env)::starEach [] X.env:=by rfl) :
  PE X (.Call (.Name "list" p) [.Call (.Name "range" p2) [a,b,c] [] IF] [] pos) (ZJ ta):=by
 intro â s σ H Q I h;refine gV (rT I Vi hml qh ?_);refine cQ ?_ Pn Z;rw[Pn];show wpAny _ _ (spliced ((false,eval (.Call (.Name "range" p2) [a,b,c] [] IF) X.env)::backTo pos (starEach [] X.env))) _ _ s
 refine Calls.spliced_cons ?_;refine Call_ (rT I hg hm boot_range (cQ (oR (ha IF â s σ H _ I h) fun us s1 ⟨vs,H1,I1,r1,q1⟩=>?_) he zu));obtain⟨i,j,k,e,⟨q1,q2,q3,q4,q5,q6⟩,q⟩:=q1;subst e;cases r1 with
 | cons r rr =>
  cases rr with
  | cons r' rr =>
   cases rr with
   | cons WH rr =>
    cases rr;obtain⟨t,rfl⟩:=r;obtain⟨t',rfl⟩:=r';obtain⟨Sj,rfl⟩:=WH;refine call_range_3 lC ?_ (.inl (jJ lC));have c3:=Nt (lo:=i) q5 q1 q4;have sm:Builtin.Range.small i j k=true:=by
     unfold Builtin.Range.small;rw[ON q5];simp only[Builtin.Range.rangeFitsLong,Ĵ,Ļ,decide_eq_true_eq,beq_iff_eq,q5,if_true,gt_iff_lt];omega
    have I2:Inv X â σ H1 { s1 with heap:=s1.heap.push { cls:=.type "range",data:=.fields #[.int i t,.int j t',.int k Sj] },toks:=s1.toks }:=I1.kept fun b o e=>aM _ e;refine Calls.spliced_nil ?_;refine call_list_range (n:=ya i j k) (I2.ok.hd hcm) (kX ..) sm (ON q5) lC fun h' tk Vj c' kp e items=>?_;have vals:Vals ((Dx i k (ya i j k)).map zad) Vj.toList:=by
     unfold Dx;rw[jI];refine uG (by rw[ġ];exact items.1) fun m v hm=>?_;have:=items.2 m v (by rw[<-Array.getElem?_toList];exact hm);obtain⟨t,rfl⟩:=this;exact⟨t,Z⟩
    have hz:((Dx i k (ya i j k)).map zad).length<=sizeLine:=by
     unfold Dx;rw[š,š,û];exact ĉ c3 L
    refine⟨.ref _,_,I2.laid (t':=tk) kp (aG _) (show pL X.prog X.w _ h' _ (.lst ((Dx i k (ya i j k)).map zad)) from ⟨hz,Vj.toList,c',vals,by simpa using e⟩),Z,q _ (I2.hok.fresh (Ě _))⟩
end
variable {xs:List (List Key×Addr×Value)}
section
variable {κ:Type} [DecidableEq κ]
def wo (kvs:List (κ×V))(k:κ):œ:=(kvs.find? fun kv=>decide (kv.1=k)).map (·.2)
def putK (kvs:List (κ×V))(k:κ)(v:V):List (κ×V) :=
 if (kvs.any fun kv=>decide (kv.1=k))=true then kvs.map (fun kv=>if kv.1=k then (kv.1,v) else kv) else kvs++[(k,v)]
def Cp {p:κ×V}{r:List (κ×V)}{k:κ}(e:p.1=k):wo (p::r) k=some p.2:=by simp[wo,List.find?_cons,e]
def Cz {p:κ×V}{r:List (κ×V)}{k:κ}(e:¬p.1=k):wo (p::r) k=wo r k:=by simp[wo,List.find?_cons,e]
def vD.getD {o:œ}{u:Option Value}{d:V}{d':Value}(r:vD o u)(rd:RelV d d'):RelV (o.getD d) (u.getD d'):=by
 cases o with
 | none=>cases u with
  | none=>exact rd
  | some _=>exact(show e8 from r).elim
 | some _=>cases u with
  | none=>exact(show e8 from r).elim
  | some _=>exact r
def KV.val {kvs:List (κ×V)}{vs:List (κ×Value)}(r:KV kvs vs)(k:κ):vD (wo kvs k) (valueAt vs k):=by
 unfold KV at r
 induction r with
 | nil=>exact True.intro
 | @cons p q ps qs h t ih =>
  obtain⟨h1,h2⟩:=h
  by_cases e:p.1=k
  .have e':q.1=k:=h1.symm.trans e;have b:valueAt (q::qs) k=some q.2:=by simp[valueAt,List.find?_cons,e']
   rw[Cp e,b];exact h2
  .have e':¬q.1=k:=fun z=>e (h1.trans z);have b:valueAt (q::qs) k=valueAt qs k:=by simp[valueAt,List.find?_cons,e']
   rw[Cz e,b];exact ih
def KV.length {kvs:List (κ×V)}{vs:List (κ×Value)}(r:KV kvs vs):kvs.length=vs.length:=fK r
end
abbrev KT (H:Hp):List (List Key×V)->List (List Key×Addr×Value)->Prop:=Paired fun p q=>p.1=q.1/\H q.2.1=some (.tup (p.1.map kV))/\RelV p.2 q.2.2
def KT.val {H:Hp}{kvs:List (List Key×V)}(r:KT H kvs xs)(k:List Key):vD (wo kvs k) ((atKey xs k).map (·.2)):=by
 induction r with
 | nil=>exact True.intro
 | @cons p q ps qs h t ih =>
  obtain⟨h1,_,h2⟩:=h
  by_cases e:p.1=k
  .have e':q.1=k:=h1.symm.trans e;have b:atKey (q::qs) k=some q.2:=by simp[atKey,List.find?_cons,e']
   rw[Cp e,b];exact h2
  .have e':¬q.1=k:=fun z=>e (h1.trans z);have b:atKey (q::qs) k=atKey qs k:=by simp[atKey,List.find?_cons,e']
   rw[Cz e,b];exact ih
def KT.keeps {H H':Hp}{kvs:List (List Key×V)}(r:KT H kvs xs)(ht:∀b ys,H b=some (.tup ys)->H' b=some (.tup ys)):KT H' kvs xs :=
 Paired.uB r fun _ _ z=>⟨z.1,ht _ _ z.2.1,z.2.2⟩
def zQ (H:Hp)(a:Addr)(y:V)(r:œ):Prop :=
 (∃kvs k,Rd H a (.dK kvs)/\y=kV k/\r=wo kvs k)\/∃kvs k b,Rd H a (.dT kvs)/\y=.ref b/\H b=some (.tup (k.map kV))/\r=wo kvs k
def zG (H:Hp)(a:Addr)(y v:V)(H':Hp):Prop :=
 (∃kvs k,H a=some (.dK kvs)/\y=kV k/\kvs.length<sizeLine/\H'=upd H a (.dK (putK kvs k v))) \/
 ∃kvs k b,H a=some (.dT kvs)/\y=.ref b/\H b=some (.tup (k.map kV))/\kvs.length<sizeLine/\H'=upd H a (.dT (putK kvs k v))
def zQ.k {H:Hp}{a:Addr}{kvs:List (Key×V)}{k:Key}(e:H a=some (.dK kvs)):zQ H a (kV k) (wo kvs k):=.inl ⟨kvs,k,.inl e,Z,Z⟩
def zQ.t {H:Hp}{a b:Addr}{kvs:List (List Key×V)}{k:List Key}(e:H a=some (.dT kvs))(eb:H b=some (.tup (k.map kV))):zQ H a (.ref b) (wo kvs k):=.inr ⟨kvs,k,b,.inl e,Z,eb,Z⟩
def zG.k {H:Hp}{a:Addr}{kvs:List (Key×V)}{k:Key}{v:V}(e:H a=some (.dK kvs))(hl:kvs.length<sizeLine):zG H a (kV k) v (upd H a (.dK (putK kvs k v))):=.inl ⟨kvs,k,e,Z,hl,Z⟩
def zG.t {H:Hp}{a b:Addr}{kvs:List (List Key×V)}{k:List Key}{v:V}(e:H a=some (.dT kvs))(eb:H b=some (.tup (k.map kV)))(hl:kvs.length<sizeLine) :
  zG H a (.ref b) v (upd H a (.dT (putK kvs k v))):=.inr ⟨kvs,k,b,e,Z,eb,hl,Z⟩
section
variable {X:Cx}{â:ł}{σ:St}{H:Hp}{s:Shared}
def Inv.big (I:Inv X â σ H s):sysModules<s.heap.objs.size:=by
 have h:mainGlobals<s.heap.objs.size:=(I.mod.glob.keeps I.bk).lt;exact jK L h
end
structure M1 (X:Cx)(o:Expr)(m:Str)(apos:Pos)(e:Expr)(cpos:Pos):Prop where
 base:attributeBase o m X.env (eval o X.env)=eval o X.env
 DU:((backTo cpos (starEach [e] X.env)).all (fun x=>!x.1) && (backToKw cpos (keywordEach [] X.env)).all (fun x=>x.1.isSome)
  && decide (([e]:ő).length+([]:List Keyword).length+(if ([]:List Keyword).isEmpty then 0 else 1)<30))=true
 line:(apos.endLine == cpos.line)=true
 trees:backTo cpos (starEach [e] X.env)=[(false,eval e X.env)]
structure M2 (X:Cx)(o:Expr)(m:Str)(apos:Pos)(e f:Expr)(cpos:Pos):Prop where
 base:attributeBase o m X.env (eval o X.env)=eval o X.env
 DU:((backTo cpos (starEach [e,f] X.env)).all (fun x=>!x.1) && (backToKw cpos (keywordEach [] X.env)).all (fun x=>x.1.isSome)
  && decide (([e,f]:ő).length+([]:List Keyword).length+(if ([]:List Keyword).isEmpty then 0 else 1)<30))=true
 line:(apos.endLine == cpos.line)=true
 trees:backTo cpos (starEach [e,f] X.env)=[(false,eval e X.env),(false,eval f X.env)]
abbrev kI (i:Int):Key:=.inl i
abbrev k2 (p h:Int):List Key:=[.inl p,.inl h]
def zQ.p {H:Hp}{a b:Addr}{kvs:List (List Key×V)}{p h:Int}(e:H a=some (.dT kvs))(eb:H b=some (.tup [.int p,.int h])):zQ H a (.ref b) (wo kvs (k2 p h)):=zQ.t (k:=k2 p h) e eb
def zG.p {H:Hp}{a b:Addr}{kvs:List (List Key×V)}{p h:Int}{v:V}(e:H a=some (.dT kvs))(eb:H b=some (.tup [.int p,.int h]))(hl:kvs.length<sizeLine):zG H a (.ref b) v (upd H a (.dT (putK kvs (k2 p h) v))):=zG.t (k:=k2 p h) e eb hl
def zQ.i {H:Hp}{a:Addr}{kvs:List (Key×V)}{i:Int}(e:H a=some (.dK kvs)):zQ H a (.int i) (wo kvs (kI i)):=zQ.k (k:=kI i) e
def zG.i {H:Hp}{a:Addr}{kvs:List (Key×V)}{i:Int}{v:V}(e:H a=some (.dK kvs))(hl:kvs.length<sizeLine):zG H a (.int i) v (upd H a (.dK (putK kvs (kI i) v))):=zG.k (k:=kI i) e hl
def Fs:∀{bs:List Bool}{its:ņ},Vals (bs.map V.bl) its->its=bs.map Value.bool
 | [],_,.nil=>rfl
 | b::r,_,.cons e rs=>by
  have e':_=Value.bool b:=e;rw[eD,<-Fs rs,<-e']
def Er (bs:List Bool):((ŭ bs.length).all fun i=>(bs[i]?).getD true)=bs.all id:=by
 rw[fT,fi,fi];constructor
 .intro h b hb;obtain⟨i,hi,e⟩:=ų hb;have:=h i (fj.mpr hi);simp only[List.getElem?_eq_getElem hi,ù,e] at this;exact this
 .intro h i hi;have RA:=fj.mp hi;simp only[List.getElem?_eq_getElem RA,ù];exact h _ (cJ RA)
def MQ {s:Shared}{h':Heap}{o:Obj}(hk:∀b x,b∉[s.heap.objs.size]->(s.heap.push o).get? b=some x->h'.get? b=some x):∀b x,s.heap.get? b=some x->h'.get? b=some x :=
 fun b x e=>hk b x (fun hm=>by rw[cm.mp hm] at e;exact fD _ (bZ e)) (aM _ e)
section
variable {X:Cx}
def Am (hc:X.calm=true):r8 X (.builtin "all") (fun xs H Q=>∃(a:Addr)(bs:List Bool),xs=[.ref a]/\mj X.K H a (bs.map V.bl)/\Q (.bl (bs.all id)) H):=by
 intro â s σ H xs us Q I r h;obtain⟨a,bs,rfl,hl,q⟩:=h;obtain⟨u,rfl,ru⟩:=vals1 r;cases ru;obtain⟨its,rv,pl,_⟩:=I.list hl;have ei:=Fs rv;subst ei;have hL:=pl.isList;have rK:a<s.heap.objs.size:=by obtain⟨_,e,_⟩:=hL;exact Heap.lt_size e
 refine call_all_walk (wpAny_pyIter_list hL ?_);refine⟨s.heap.objs.size,[s.heap.objs.size,a],[s.heap.objs.size],(bs.map Value.bool).toArray.size,_,_,fun i=>(bs[i]?).getD true,Z,Walks.list (A:=X.A.in1) (I.ok.hd hc) _ a (c9 rK) (bs.map Value.bool).toArray,
  ⟨⟨_,bV _ Z,Z,Z⟩,hL.push _⟩,fun i v s' Q' E' hP hQ=>?_,fun h' tk hk=>?_⟩
 .have Vk:(bs.map Value.bool)[i]?=some v:=by simpa using hP
  rw[af] at Vk;cases e:bs[i]? with
  | none=>rw[e] at Vk;cases Vk
  | some b =>
   rw[e] at Vk;cases Vk;simp only[e,ù] at hQ;exact gZ hQ
 .have e:((ŭ (bs.map Value.bool).toArray.size).all fun i=>(bs[i]?).getD true)=bs.all id:=by
   rw[cf,aa];exact Er bs
  rw[e];exact⟨.bl _,H,I.kept (t':=tk) (MQ hk),Z,q⟩
end
def rep1 (m:Nat):(ş ((m:Nat):Int).toNat [zad 1]).flatten=(ş m (1:Int)).map zad:=by
 rw[ae]
 induction m with
 | zero=>rfl
 | succ m ih=>rw[dQ,fX,ih,dQ,eD];rfl
def rp {c A B:Prop} [Decidable c] (h:c)(a:A):if c then A else B:=by rw[aA h];exact a
def oQ {c A B:Prop} [Decidable c] (h:¬c)(b:B):if c then A else B:=by rw[ah h];exact b
def BO {K:zfq}{a b:Addr}{xs ys:ň}{g:TG}{tb:TS}{D:Ends}{σ:St}{H:Hp}(æ:xs.length=ys.length)(Pv:Nat->St->Hp->Prop)(h0:Pv 0 σ H)(hl:∀i σ H,i<=xs.length->Pv i σ H->mj K H a xs/\mj K H b ys)
  (hs:∀i x y σ H p,xs[i]?=some x->ys[i]?=some y->Pv i σ H->H p=none->g (.ref p) σ (upd H p (.tup [x,y])) fun pK H2=>tb { D with nx:=Pv (i+1),ct:=Pv (i+1),bk:=D.nx } pK H2)(hd:∀σ H,Pv xs.length σ H->D.nx σ H) :
  ∃W:Nat->Nat->St->Hp->Prop,(∃m,W 0 m σ H)/\∀i m σ H,W i m σ H ->
   ((OT K a b).stop i H/\D.nx σ H)\/((OT K a b).go i H/\∃N:St->Hp->Prop,(∀nC H',N nC H'->∃m',m'<m/\W (i+1) m' nC H')/\∀x H',(OT K a b).yld i H x H'->g x σ H' fun pK H2=>tb { D with nx:=N,ct:=N,bk:=D.nx } pK H2):=by
 refine⟨fun i m σ H=>m=xs.length-i/\i<=xs.length/\Pv i σ H,⟨xs.length,lB,ý _,h0⟩,?_⟩;rintro i m σ H ⟨rfl,hi,p⟩;obtain⟨q1,q2⟩:=hl i σ H hi p
 by_cases rK:i<xs.length
 .refine .inr ⟨⟨xs,ys,xs[i],ys[i]'O,q1,q2,by simp[rK],by simp[show i<ys.length by lia]⟩,Pv (i+1),fun nC H' p'=>⟨xs.length-(i+1),O,Z,rK,p'⟩,fun x H' y=>?_⟩;obtain⟨r,y1,y2,rfl,hr,hy1,hy2,rfl⟩:=y;exact hs i y1 y2 σ _ r (hy1 xs q1) (hy2 ys q2) p hr
 .have e:i=xs.length:=O;subst e;exact .inl ⟨⟨xs,ys,q1,q2,.inl (aG _)⟩,hd σ H p⟩
def Cs (ns:ń)(k:Nat):uC (ns.map zad) (some (k:Int)) none=(ns.drop k).map zad:=by
 unfold uC;rw[HT.Bo,HT.L1,aa,<-Đ,<-Ď];congr 1
 by_cases h:k<=ns.length
 .rw[jh h,jH (by rw[cH];lia)]
 .rw[Nat.min_eq_right O,jL (aG _),jL O];simp
def Paired.ER {α β:Type}{F:α->β->Prop}:∀{a c:List α}{b d:List β},Paired F a b->Paired F c d->Paired F (a++c) (b++d)
 | _,_,_,_,.nil,h=>h
 | _,_,_,_,.cons h t,g=>.cons h (Paired.ER t g)
abbrev d3 (t:Int×Int×Int):PyData:=.tuple [.int t.1,.int t.2.1,.int t.2.2]
variable {as:ŋ}{è:ĸ}
def JL {X:Cx}{K:zfq}(h:X.K=K):SlR X (T8 K):=by subst h;exact v3
def Uo (x y z w a b c d:Int):same (.tuple [.int x,.int y,.int z,.int w]) (.tuple [.int a,.int b,.int c,.int d])=decide (x=a/\y=b/\z=c/\w=d):=by
 simp only[same,PySem.Spec.sameAll]
 by_cases h1:x=a<;>by_cases h2:y=b<;>by_cases h3:z=c<;>by_cases h4:w=d<;>simp[h1,h2,h3,h4]
def Z9 {K:zfq}{H:Hp}{r s:Addr}{x y z w a b c d:Int}{Q:VK}(h1:H r=some (.tup [.int x,.int y,.int z,.int w]))(h2:H s=some (.tup [.int a,.int b,.int c,.int d]))(q:Q (.bl (!decide (x=a/\y=b/\z=c/\w=d))) H):LP K (.ref r) (.ref s) H Q :=
 ⟨_,_,.tup (mW.of h1) (.cons (.int _) (.cons (.int _) (.cons (.int _) (.cons (.int _) .nil)))),.tup (mW.of h2) (.cons (.int _) (.cons (.int _) (.cons (.int _) (.cons (.int _) .nil)))),Z,Z,by simp[noMix,noMixAll],by rw[Uo];exact q⟩
def rF {K:zfq}{n i j k:Nat}(h:n<=i)(h':n<=j)(h'':n<=k):tK n (M7 K 3 (xk (nu i) (xk (nu j) (xk (nu k) M4)))):=by
 rintro x σ H Q ⟨a,xs,rfl,hq,hl,v,r,rfl,v',r',rfl,v'',WH,rfl,rfl,q⟩;exact⟨a,_,Z,hq,hl,v,_,Z,v',_,Z,v'',_,Z,Z,⟨lB,fun m hk=>by rw[List.getElem?_set_ne O,List.getElem?_set_ne O,List.getElem?_set_ne O]⟩,q⟩
structure Mn (K:zfq)(C:Addr)(m q:Str)(st:Stmt)(ps:ō):Prop where
 ex:∃(f:Addr)(fd:FuncData),Fw K m q st f fd/\Binds K fd ps []/\Meth K C m f
structure Mf (P:Program)(w:World)(K:zfq)(mg:ś)(base:Heap)(k:Nat)(C:Addr)(m:Str)(ps:ō)(sp:Sp):Prop where
 ex:∃(f:Addr)(fd:FuncData),tH P w K mg base GQ k f fd ps sp/\Binds K fd ps []/\Meth K C m f
structure Kn (K:zfq)(mg:ś)(C:Addr)(x q:Str)(st:Stmt)(ps:ō):Prop where
 ex:∃(f:Addr)(fd:FuncData),Fw K "__init__" q st f fd/\Binds K fd ps []/\Mk K C f/\mg x=some (.ref C)
structure Kf (P:Program)(w:World)(K:zfq)(mg:ś)(base:Heap)(k:Nat)(C:Addr)(x:Str)(ps:ō)(sp:Sp):Prop where
 ex:∃(f:Addr)(fd:FuncData),tH P w K mg base GQ k f fd ps sp/\Binds K fd ps []/\Mk K C f/\mg x=some (.ref C)
def Mn.ok {P:Program}{w:World}{K:zfq}{mg:ś}{base:Heap}{C:Addr}{m q:Str}{st:Stmt}{N ps:ō}{k:Nat}{sp:Sp}(D:Mn K C m q st ps)(S:lZ N ps (lU st))(len:∀vs H Q E,sp vs H Q E->vs.length=ps.length)
  (hbody:∀(f:Addr)(cdv:Value)(A:Around)(outer:List Env)(s:Shared)(H:Hp)(vs:ň)(Q:VK)(E:XK),oT k (A.deeper (envOfC q (lU st) s.heap.objs.size f cdv))->sp vs H Q E ->
   ∃t,xc (zP GQ P w K mg base N q (lU st) f cdv A outer s H E).IH (nH st) t/\t { nx:=fun _ H'=>Q .non H',rt:=Q } (start N vs) H):Mf P w K mg base (k+1) C m ps sp:=by
 obtain⟨f,fd,F,b,mt⟩:=D.ex;exact⟨f,fd,F.ok S len (fun cdv A outer s H vs Q E hr h=>hbody f cdv A outer s H vs Q E hr h),b,mt⟩
def Kn.ok {P:Program}{w:World}{K:zfq}{mg:ś}{base:Heap}{C:Addr}{x q:Str}{st:Stmt}{N ps:ō}{k:Nat}{sp:Sp}(D:Kn K mg C x q st ps)(S:lZ N ps (lU st))(len:∀vs H Q E,sp vs H Q E->vs.length=ps.length)
  (hbody:∀(f:Addr)(cdv:Value)(A:Around)(outer:List Env)(s:Shared)(H:Hp)(vs:ň)(Q:VK)(E:XK),oT k (A.deeper (envOfC q (lU st) s.heap.objs.size f cdv))->sp vs H Q E ->
   ∃t,xc (zP GQ P w K mg base N q (lU st) f cdv A outer s H E).IH (nH st) t/\t { nx:=fun _ H'=>Q .non H',rt:=Q } (start N vs) H):Kf P w K mg base (k+1) C x ps sp:=by
 obtain⟨f,fd,F,b,mt⟩:=D.ex;exact⟨f,fd,F.ok S len (fun cdv A outer s H vs Q E hr h=>hbody f cdv A outer s H vs Q E hr h),b,mt⟩
section
variable {X:Cx}{k:Nat}{C:Addr}{x m:Str}{ps:ō}{sp:Sp}{e o:Expr}{es:ő}{ta:TE}{t:TA}{p pos apos:Pos}
def yO {pl:Sem Bool}(he:PE X o ta)(c:IK X.K C)(D:Mf X.prog X.w X.K X.mg X.base k C m ps sp)(hr:oT k X.A)(ha:PA X (e::es) t)
  (uX:starEach (e::es) X.env=(false,eval e X.env)::starEach es X.env:=by rfl)(zu:(backTo pos (starEach es X.env)).any (·.1)=false:=by rfl)
  (ht:eval (.Call (.Attribute o m apos) (e::es) [] pos) X.env=(do
   let ov <-eval o X.env
   standAt apos.atName
   let (f,first) <-holding [ov] (getMethod ov m pl)
   callWith pos f first (backTo pos (starEach (e::es) X.env)) (backToKw pos (keywordEach [] X.env))):=by rfl) :
  PE X (.Call (.Attribute o m apos) (e::es) [] pos) (OI C m sp [] E0 ta t):=by
 obtain⟨f,fd,F,hb,hm⟩:=D.ex;exact M8 (pl:=pl) he c hm F hr hb .nil Ju ha uX zu ht
def QI (D:Kf X.prog X.w X.K X.mg X.base k C x ps sp)(hr:oT (k+1) X.A)(hg:Gl X x)(ha:PA X (e::es) t)(IC:(x == ("__debug__":Str))=false:=by decide)
  (he:starEach (e::es) X.env=(false,eval e X.env)::starEach es X.env:=by rfl)(zu:(backTo pos (starEach es X.env)).any (·.1)=false:=by rfl) :
  PE X (.Call (.Name x p) (e::es) [] pos) (OP C sp [] E0 t):=by
 obtain⟨f,fd,F,hb,M,hm⟩:=D.ex;exact MU M F hr hg hm hb .nil Ju ha IC he zu
end
def nM (H:Hp)(r:Addr)(è:ĸ):Prop:=∃as:ŋ,H r=some (.lst (as.map zbb))/\Paired (fun a (x:ń)=>H a=some (.lst (x.map zad))) as è
def m5 {H H':Hp}(sm:lO H H')(h:Paired (fun a (x:ń)=>H a=some (.lst (x.map zad))) as è):Paired (fun a (x:ń)=>H' a=some (.lst (x.map zad))) as è:=by
 induction h with
 | nil=>exact .nil
 | cons a _ ih=>exact .cons (sm _ _ a) ih
def nM.same {H H':Hp}(sm:lO H H'){r:Addr}(h:nM H r è):nM H' r è :=
 let ⟨as,h1,h2⟩:=h;⟨as,sm _ _ h1,m5 sm h2⟩
def mw {α β:Type}{F:α->β->Prop}:∀{a:List α}{b:List β},Paired F a b->a.length=b.length
 | _,_,.nil=>rfl
 | _,_,.cons _ t=>cA (· + 1) (mw t)
def oM {H:Hp}(h:Paired (fun a (x:ń)=>H a=some (.lst (x.map zad))) as è){i:Nat}{x:V}(e:(as.map zbb)[i]?=some x):∃(a:Addr)(row:ń),x=.ref a/\as[i]?=some a/\è[i]?=some row/\H a=some (.lst (row.map zad)):=by
 obtain⟨a,rfl,ha⟩:=rh e;obtain⟨row,hr,hh⟩:=m9 h ha;exact⟨a,row,Z,ha,hr,hh⟩
def zc {H:Hp}(h:Paired (fun a (x:ń)=>H a=some (.lst (x.map zad))) as è){i:Nat}{row:ń}(e:è[i]?=some row):∃a:Addr,oi (as.map zbb) ((i:Nat):Int)=some (.ref a)/\H a=some (.lst (row.map zad)):=by
 have l:=mw h;have il:i<è.length:=(aJ.mp e).1;have ha:as[i]?=some (as[i]'O):=az O;obtain⟨row',hr,hh⟩:=m9 h ha;rw[e] at hr;cases hr;exact⟨_,nV (by rw[af,ha];rfl),hh⟩
def yE {α β:Type}{F:α->β->Prop}:∀{a:List α}{b:List β}{x:α}{y:β}(c:Nat),Paired F a b->F x y->Paired F (a.set c x) (b.set c y)
 | _,_,_,_,_,.nil,_=>.nil
 | _,_,_,_,0,.cons _ t,h=>.cons h t
 | _,_,_,_,c+1,.cons q t,h=>.cons q (yE c t h)
def nM.put {H:Hp}{D a:Addr}{l:ń}{c:Nat}(hD:H D=some (.lst (as.map zbb)))(pa:Paired (fun a (x:ń)=>H a=some (.lst (x.map zad))) as è)(ne:as≠[])(ha:H a=some (.lst (l.map zad))) :
  nM (upd H D (.lst ((as.map zbb).set c (.ref a)))) D (è.set c l):=by
 have nD:∀(b:Addr)(x:ń),H b=some (.lst (x.map zad))->b≠D:=fun b x hb=>p7 hb hD fun z=>by
  injection z with z;cases as with
  | nil=>exact ne Z
  | cons a0 WI=>cases x with
   | nil=>cases z
   | cons y ys=>injection z with z1;cases z1
 have old:Paired (fun a (x:ń)=>upd H D (.lst ((as.map zbb).set c (.ref a))) a=some (.lst (x.map zad))) as è->jd:=fun _=>trivial;have go:∀{uE:ŋ}{zw:ĸ}{o:HO},Paired (fun a (x:ń)=>H a=some (.lst (x.map zad))) uE zw->Paired (fun a (x:ń)=>upd H D o a=some (.lst (x.map zad))) uE zw:=fun {uE zw o} p=>by
  induction p with
  | nil=>exact .nil
  | cons h _ ih=>exact .cons ((mi (nD _ _ h)).trans h) ih
 refine⟨as.set c a,by rw[lH,List.map_set],yE c (go pa) ((mi (nD _ _ ha)).trans ha)⟩
section
variable {xs:ň}
variable {K:zfq}{a b:Addr}{g:TG}{te:TE}{nC:St}{H:Hp}{Q:VK}
def nT (zs:ń)(æ:zs.length=xs.length)(hz:xs.length<=20000)(hS:mj K H a xs)
 (hs:∀(i:Nat) x H2,xs[i]?=some x->lO H H2->∀R:VK,(∀H4 z,lO H2 H4->zs[i]?=some z->R (.int z) H4)->g x nC H2 fun pK H3=>te pK H3 R)
 (hd:∀D H2,lO H H2->H D=none->H2 D=some (.lst (zs.map zad))->Q (.ref D) H2):qj (N8 K a) g A8 te nC Q H:=by
  refine qB (K:=K) (xs:=xs) (fun i rs H2=>lO H H2/\rs=(zs.take i).map zad) ⟨lO.refl H,lB⟩ (fun i rs H2 _ z=>z.1.seq hS)
    (fun i rs H2 hi z=>by rw[z.2];simp only[š,ŷ];exact oq O) ?_ ?_
  · rintro i x rs H2 hx ⟨sm,rfl⟩
    exact hs i x H2 hx sm (fun y H4=>lO H H4/\(zs.take i).map zad++[y]=(zs.take (i+1)).map zad) fun H4 z s4 ez=>⟨sm.trans s4,by rw[og ez]⟩
  · rintro rs H2 ⟨sm,rfl⟩ D hD
    rw[oz æ];exact hd D _ (lQ sm hD) (sm.free hD) lH
def qY {ys:ň}(zs:ń)(Rv:xs.length=ys.length)(æ:zs.length=xs.length)(hz:xs.length<=20000)(hS:mj K H a xs)(hS2:mj K H b ys)
 (hs:∀(i:Nat) x y H2 p,xs[i]?=some x->ys[i]?=some y->lO H H2->H2 p=none->∀R:VK,(∀H4 z,lO H2 H4->zs[i]?=some z->R (.int z) H4)->g (.ref p) nC (upd H2 p (.tup [x,y])) fun pK H3=>te pK H3 R)
 (hd:∀D H2,lO H H2->H D=none->H2 D=some (.lst (zs.map zad))->Q (.ref D) H2):qj (OT K a b) g A8 te nC Q H:=by
  refine zt (K:=K) (xs:=xs) (ys:=ys) Rv (fun i rs H2=>lO H H2/\rs=(zs.take i).map zad) ⟨lO.refl H,lB⟩ (fun i rs H2 _ z=>⟨z.1.seq hS,z.1.seq hS2⟩)
    (fun i rs H2 hi z=>by rw[z.2];simp only[š,ŷ];exact oq O) ?_ ?_
  · rintro i x y rs H2 p hx hy ⟨sm,rfl⟩ hp
    exact hs i x y H2 p hx hy sm hp (fun y H4=>lO H H4/\(zs.take i).map zad++[y]=(zs.take (i+1)).map zad) fun H4 z s4 ez=>⟨sm.trans s4,by rw[og ez]⟩
  · rintro rs H2 ⟨sm,rfl⟩ D hD
    rw[oz æ];exact hd D _ (lQ sm hD) (sm.free hD) lH
def Hl {ys:ň}(zs:List Bool)(Rv:xs.length=ys.length)(æ:zs.length=xs.length)(hz:xs.length<=20000)(hS:mj K H a xs)(hS2:mj K H b ys)
 (hs:∀(i:Nat) x y H2 p,xs[i]?=some x->ys[i]?=some y->lO H H2->H2 p=none->∀R:VK,(∀H4 z,lO H2 H4->zs[i]?=some z->R (.bl z) H4)->g (.ref p) nC (upd H2 p (.tup [x,y])) fun pK H3=>te pK H3 R)
 (hd:∀D H2,lO H H2->H D=none->H2 D=some (.lst (zs.map V.bl))->Q (.ref D) H2):qj (OT K a b) g A8 te nC Q H:=by
  refine zt (K:=K) (xs:=xs) (ys:=ys) Rv (fun i rs H2=>lO H H2/\rs=(zs.take i).map V.bl) ⟨lO.refl H,lB⟩ (fun i rs H2 _ z=>⟨z.1.seq hS,z.1.seq hS2⟩)
    (fun i rs H2 hi z=>by rw[z.2];simp only[š,ŷ];exact oq O) ?_ ?_
  · rintro i x y rs H2 p hx hy ⟨sm,rfl⟩ hp
    exact hs i x y H2 p hx hy sm hp (fun y H4=>lO H H4/\(zs.take i).map V.bl++[y]=(zs.take (i+1)).map V.bl) fun H4 z s4 ez=>⟨sm.trans s4,by rw[dS,ez,aQ];rfl⟩
  · rintro rs H2 ⟨sm,rfl⟩ D hD
    have:(zs.take xs.length).map V.bl=zs.map V.bl:=by rw[<-æ,b5]
    rw[this];exact hd D _ (lQ sm hD) (sm.free hD) lH
def J4 (zs:ň)(æ:zs.length=xs.length)(hz:xs.length<=20000)(hS:mj K H a xs)
 (hs:∀(i:Nat) x H2,xs[i]?=some x->lO H H2->∀R:VK,(∀H4 z,lO H2 H4->zs[i]?=some z->R z H4)->g x nC H2 fun pK H3=>te pK H3 R)
 (hd:∀D H2,lO H H2->H D=none->H2 D=some (.lst zs)->Q (.ref D) H2):qj (N8 K a) g A8 te nC Q H:=by
  refine qB (K:=K) (xs:=xs) (fun i rs H2=>lO H H2/\rs=zs.take i) ⟨lO.refl H,lB⟩ (fun i rs H2 _ z=>z.1.seq hS)
    (fun i rs H2 hi z=>by rw[z.2];simp only[ŷ];exact oq O) ?_ ?_
  · rintro i x rs H2 hx ⟨sm,rfl⟩
    exact hs i x H2 hx sm (fun y H4=>lO H H4/\zs.take i++[y]=zs.take (i+1)) fun H4 z s4 ez=>⟨sm.trans s4,by rw[dS,ez];rfl⟩
  · rintro rs H2 ⟨sm,rfl⟩ D hD
    have:zs.take xs.length=zs:=by rw[<-æ,b5]
    rw[this];exact hd D _ (lQ sm hD) (sm.free hD) lH
def rA (zs:ĸ)(æ:zs.length=xs.length)(hz:xs.length<=20000)(hS:mj K H a xs)
 (hs:∀(i:Nat) x H2,xs[i]?=some x->lO H H2->∀R:VK,(∀H4 c z,lO H2 H4->zs[i]?=some z->H4 c=some (.lst (z.map zad))->R (.ref c) H4)->g x nC H2 fun pK H3=>te pK H3 R)
 (hd:∀D H2,lO H H2->H D=none->nM H2 D zs->Q (.ref D) H2):qj (N8 K a) g A8 te nC Q H:=by
  refine qB (K:=K) (xs:=xs) (fun i rs H2=>lO H H2/\∃as:ŋ,rs=as.map zbb/\Paired (fun a (x:ń)=>H2 a=some (.lst (x.map zad))) as (zs.take i)) ⟨lO.refl H,[],Z,.nil⟩ (fun i rs H2 _ z=>z.1.seq hS)
    (fun i rs H2 hi z=>by obtain⟨as,e,pa⟩:=z.2;rw[e,š,mw pa,ŷ];exact oq O) ?_ ?_
  · rintro i x rs H2 hx ⟨sm,as,rfl,pa⟩
    exact hs i x H2 hx sm (fun y H4=>lO H H4/\∃uE:ŋ,as.map zbb++[y]=uE.map zbb/\Paired (fun a (x:ń)=>H4 a=some (.lst (x.map zad))) uE (zs.take (i+1))) fun H4 c z s4 ez hc=>⟨sm.trans s4,as++[c],by rw[aQ];rfl,by
      rw[dS,ez];exact L2.Paired.ER (m5 s4 pa) (.cons hc .nil)⟩
  · rintro rs H2 ⟨sm,as,rfl,pa⟩ D hD
    have:zs.take xs.length=zs:=by rw[<-æ,b5]
    rw[this] at pa;exact hd D _ (lQ sm hD) (sm.free hD) ⟨as,lH,m5 (lQ (lO.refl _) hD) pa⟩
def Jb (zs:ĸ)(æ:zs.length=xs.length)(hz:xs.length<=20000)(hS:mj K H a xs)
 (hs:∀(i:Nat) x H2 p,xs[i]?=some x->lO H H2->H2 p=none->∀R:VK,(∀H4 c z,lO H2 H4->zs[i]?=some z->H4 c=some (.lst (z.map zad))->R (.ref c) H4)->g (.ref p) nC (upd H2 p (.tup [.int i,x])) fun pK H3=>te pK H3 R)
 (hd:∀D H2,lO H H2->H D=none->nM H2 D zs->Q (.ref D) H2):qj (QT K a) g A8 te nC Q H:=by
  refine ug (K:=K) (xs:=xs) (fun i rs H2=>lO H H2/\∃as:ŋ,rs=as.map zbb/\Paired (fun a (x:ń)=>H2 a=some (.lst (x.map zad))) as (zs.take i)) ⟨lO.refl H,[],Z,.nil⟩ (fun i rs H2 _ z=>z.1.seq hS)
    (fun i rs H2 hi z=>by obtain⟨as,e,pa⟩:=z.2;rw[e,š,mw pa,ŷ];exact oq O) ?_ ?_
  · rintro i x rs H2 p hx ⟨sm,as,rfl,pa⟩ hp
    exact hs i x H2 p hx sm hp (fun y H4=>lO H H4/\∃uE:ŋ,as.map zbb++[y]=uE.map zbb/\Paired (fun a (x:ń)=>H4 a=some (.lst (x.map zad))) uE (zs.take (i+1))) fun H4 c z s4 ez hc=>⟨sm.trans s4,as++[c],by rw[aQ];rfl,by
      rw[dS,ez];exact L2.Paired.ER (m5 s4 pa) (.cons hc .nil)⟩
  · rintro rs H2 ⟨sm,as,rfl,pa⟩ D hD
    have:zs.take xs.length=zs:=by rw[<-æ,b5]
    rw[this] at pa;exact hd D _ (lQ sm hD) (sm.free hD) ⟨as,lH,m5 (lQ (lO.refl _) hD) pa⟩
def Cy {n:Nat}(zs:ĸ)(æ:zs.length=n)(hz:n<=20000)
 (hs:∀(i:Nat) H2,i<n->lO H H2->∀R:VK,(∀H4 c z,lO H2 H4->zs[i]?=some z->H4 c=some (.lst (z.map zad))->R (.ref c) H4)->g (.int i) nC H2 fun pK H3=>te pK H3 R)
 (hd:∀D H2,lO H H2->H D=none->nM H2 D zs->Q (.ref D) H2):qj (Ie 0 n) g A8 te nC Q H:=by
  refine rH (fun i rs H2=>lO H H2/\∃as:ŋ,rs=as.map zbb/\Paired (fun a (x:ń)=>H2 a=some (.lst (x.map zad))) as (zs.take i)) ⟨lO.refl H,[],Z,.nil⟩
    (fun i rs H2 hi z=>by obtain⟨as,e,pa⟩:=z.2;rw[e,š,mw pa,ŷ];exact oq O) ?_ ?_
  · rintro i rs H2 hi ⟨sm,as,rfl,pa⟩
    exact hs i H2 hi sm (fun y H4=>lO H H4/\∃uE:ŋ,as.map zbb++[y]=uE.map zbb/\Paired (fun a (x:ń)=>H4 a=some (.lst (x.map zad))) uE (zs.take (i+1))) fun H4 c z s4 ez hc=>⟨sm.trans s4,as++[c],by rw[aQ];rfl,by
      rw[dS,ez];exact L2.Paired.ER (m5 s4 pa) (.cons hc .nil)⟩
  · rintro rs H2 ⟨sm,as,rfl,pa⟩ D hD
    have:zs.take n=zs:=by rw[<-æ,b5]
    rw[this] at pa;exact hd D _ (lQ sm hD) (sm.free hD) ⟨as,lH,m5 (lQ (lO.refl _) hD) pa⟩
end
def yW {a b:Int}(h1:-1000000000000<=a)(h2:a<=1000000000000):IntMulOk a b:=IntMulOk.of_left (gR O O)
abbrev dP (t:Int×Int):PyData:=.tuple [.int t.1,.int t.2]
def D4 {K:zfq}{H:Hp}:∀{as:ŋ}{ts:ľ},Paired (fun a (x:Int×Int)=>H a=some (.tup [.int x.1,.int x.2])) as ts->Dj K H (as.map zbb) (ts.map dP)
 | _,_,.nil=>.nil
 | _,_,.cons h t=>.cons (.tup (mW.of h) (.cons (.int _) (.cons (.int _) .nil))) (D4 t)
def Gg:∀ts:ľ,PyData.canLayAll0 (ts.map dP)=true
 | []=>by simp[PyData.canLayAll0]
 | t::r=>by simp[PyData.canLayAll0,PyData.canLay0,Gg r]
def GA:∀ts:ľ,PyData.depthAll (ts.map dP)<=2
 | []=>by simp[PyData.depthAll]
 | t::r=>by
  have:=GA r;simp only[ĕ,PyData.depthAll,PyData.depth];lia
def FW (ts:ľ):shaped (.list (ts.map dP))=true:=by
 have h1:=GA ts;unfold shaped;rw[gX];exact⟨by simp only[PyData.canLay0];exact Gg ts,decide_eq_true (by simp only[PyData.depth];lia)⟩
def Go:∀ts us:ľ,noMixAll (ts.map dP) (us.map dP)=true
 | [],[]=>by simp[noMixAll]
 | [],_::_=>by simp[noMixAll]
 | _::_,[]=>by simp[noMixAll]
 | t::r,u::q=>by simp[noMixAll,noMix,Go r q]
def Gm:∀ts us:ľ,PySem.Spec.sameAll (ts.map dP) (us.map dP)=decide (ts=us)
 | [],[]=>by simp[PySem.Spec.sameAll]
 | [],_::_=>by simp[PySem.Spec.sameAll]
 | _::_,[]=>by simp[PySem.Spec.sameAll]
 | (a,b)::r,(c,d)::q=>by
  simp only[ĕ,PySem.Spec.sameAll,PySem.Spec.same,Gm r q]
  by_cases h1:a=c<;>by_cases h2:b=d<;>by_cases h3:r=q<;>simp[h1,h2,h3]
def Nh {K:zfq}{H:Hp}{a b:Addr}{ts us:ľ}{Q:VK}(h1:Di H a ts)(h2:Di H b us)(q:Q (.bl (!decide (ts=us))) H):LP K (.ref a) (.ref b) H Q:=by
 obtain⟨as,e1,p1⟩:=h1;obtain⟨bs,e2,p2⟩:=h2;exact⟨_,_,.lst (mj.of e1) (D4 p1),.lst (mj.of e2) (D4 p2),FW ts,FW us,by simp only[noMix];exact Go ts us,by simp only[same];rw[Gm];exact q⟩
def uP {X:Cx}{K:zfq}(h:X.K=K):r8 X (.type "list") (fun xs H Q=>∃p ys,xs=[.ref p]/\(mj K H p ys\/mW K H p ys)/\∀l,H l=none->Q (.ref l) (upd H l (.lst ys))):=by subst h;exact oE
section
variable {g:TG}{te:TE}{nC:St}{H:Hp}{Q:VK}
def Ko {lo:Int}{n:Nat}(zs:ń)(æ:zs.length=n)(hz:n<=20000)
  (hs:∀(i:Nat) H2,i<n->lO H H2->∀R:VK,(∀H4 z,lO H2 H4->zs[i]?=some z->R (.int z) H4)->g (.int (lo+i)) nC H2 fun pK H3=>te pK H3 R)
  (hd:∀D H2,lO H H2->H D=none->H2 D=some (.lst (zs.map zad))->Q (.ref D) H2):qj (Ie lo n) g A8 te nC Q H:=by
 refine yr (fun i rs H2=>lO H H2/\rs=(zs.take i).map zad) ⟨lO.refl H,lB⟩
  (fun i rs H2 hi z=>by rw[z.2];simp only[š,ŷ];exact oq O) ?_ ?_
 .rintro i rs H2 hi ⟨sm,rfl⟩;exact hs i H2 hi sm (fun y H4=>lO H H4/\(zs.take i).map zad++[y]=(zs.take (i+1)).map zad) fun H4 z s4 ez=>⟨sm.trans s4,by rw[og ez]⟩
 .rintro rs H2 ⟨sm,rfl⟩ D hD;rw[oz æ];exact hd D _ (lQ sm hD) (sm.free hD) lH
end
section
variable {K:zfq}{x q m:Str}{st:Stmt}{f C:Addr}{T pm cd:Value}{h:Heap}{mg:ś}{ps:ō}
def BA (x q:Str)(st:Stmt)(ps:ō):Prop:=∀(kV doc pm:Value)(an:Option Addr)(cdv ct:Value)(us:ņ),us.length=ps.length->bindArgs (PySem.W.fnOf x q (n9 st) (nH st) (lU st) .none kV doc pm an cdv ct) ⟨us,[]⟩=pure (ps.zip us)
def ba1 (h:ps.length=1)(e:∀(kV doc pm:Value)(an:Option Addr)(cdv ct u0:Value),bindArgs (PySem.W.fnOf x q (n9 st) (nH st) (lU st) .none kV doc pm an cdv ct) ⟨[u0],[]⟩=pure (ps.zip [u0])):BA x q st ps:=fun _ _ _ _ _ _ us hl=>match us,hl.trans h with | [_],_=>e _ _ _ _ _ _ _
def ba2 (h:ps.length=2)(e:∀(kV doc pm:Value)(an:Option Addr)(cdv ct u0 u1:Value),bindArgs (PySem.W.fnOf x q (n9 st) (nH st) (lU st) .none kV doc pm an cdv ct) ⟨[u0,u1],[]⟩=pure (ps.zip [u0,u1])):BA x q st ps:=fun _ _ _ _ _ _ us hl=>match us,hl.trans h with | [_,_],_=>e _ _ _ _ _ _ _ _
def ba3 (h:ps.length=3)(e:∀(kV doc pm:Value)(an:Option Addr)(cdv ct u0 u1 u2:Value),bindArgs (PySem.W.fnOf x q (n9 st) (nH st) (lU st) .none kV doc pm an cdv ct) ⟨[u0,u1,u2],[]⟩=pure (ps.zip [u0,u1,u2])):BA x q st ps:=fun _ _ _ _ _ _ us hl=>match us,hl.trans h with | [_,_,_],_=>e _ _ _ _ _ _ _ _ _
def ba4 (h:ps.length=4)(e:∀(kV doc pm:Value)(an:Option Addr)(cdv ct u0 u1 u2 u3:Value),bindArgs (PySem.W.fnOf x q (n9 st) (nH st) (lU st) .none kV doc pm an cdv ct) ⟨[u0,u1,u2,u3],[]⟩=pure (ps.zip [u0,u1,u2,u3])):BA x q st ps:=fun _ _ _ _ _ _ us hl=>match us,hl.trans h with | [_,_,_,_],_=>e _ _ _ _ _ _ _ _ _ _
def ba5 (h:ps.length=5)(e:∀(kV doc pm:Value)(an:Option Addr)(cdv ct u0 u1 u2 u3 u4:Value),bindArgs (PySem.W.fnOf x q (n9 st) (nH st) (lU st) .none kV doc pm an cdv ct) ⟨[u0,u1,u2,u3,u4],[]⟩=pure (ps.zip [u0,u1,u2,u3,u4])):BA x q st ps:=fun _ _ _ _ _ _ us hl=>match us,hl.trans h with | [_,_,_,_,_],_=>e _ _ _ _ _ _ _ _ _ _ _
def Fa (K:zfq)(x:Str)(st:Stmt):Prop:=∃(f:Addr)(fd:FuncData),Fw K x x st f fd/\PySem.W.nsIn K mainGlobals x=some (some (.ref f))
def Fa.of (a:PySem.W.nsIn K mainGlobals x=some (some (.ref f)))(l:K.lookup f=some ⟨T,none,.func (PySem.W.fnOf x x (n9 st) (nH st) (lU st) .none .none .none pm none cd .none),⟨[]⟩⟩)(c:PySem.W.codeIn K cd x=true)(k:PySem.W.keepIn K (.ref f)=true):Fa K x st:=⟨f,_,Lr l c k,a⟩
def Fa.dn (D:Fa K x st)(X:K.In h)(G:h.Ns mainGlobals mg)(b:BA x x st ps):Dn K mg x st ps :=
 let ⟨f,fd,F,a⟩:=D
 ⟨f,fd,F,F.binds b,PySem.W.mg_of X G a⟩
def Fa.law (D:Fa K x st)(X:K.In h)(G:h.Ns mainGlobals mg)(e:mg x=some (.ref f)):∃fd,Fw K x x st f fd:=by
 obtain⟨g,fd,F,a⟩:=D;have e':=e.symm.trans (PySem.W.mg_of X G a);cases e';exact⟨fd,F⟩
def Fw.to {fd:FuncData}(F:Fw K x q st f fd)(b:BA x q st ["script"])(s:Shared)(v:Value):BindsTo s fd ⟨[v],[]⟩ [("script",v)]:=by
 obtain⟨oc,od,kV,doc,pm,an,cdv,ct,osl,rfl,lk,GT⟩:=F.ex;exact .of_eq (b kV doc pm an cdv ct [v] Z)
def Fm (K:zfq)(C:Addr)(m q:Str)(st:Stmt):Prop:=∃(f:Addr)(fd:FuncData),Fw K m q st f fd/\PySem.W.findIn K (.ref C) m=some (some (.ref f))/\PySem.W.isFn K (.ref f)=true/\PySem.W.keepIn K (.ref f)=true
def Fm.of (a:PySem.W.findIn K (.ref C) m=some (some (.ref f)))(i:PySem.W.isFn K (.ref f)=true)(l:K.lookup f=some ⟨T,none,.func (PySem.W.fnOf m q (n9 st) (nH st) (lU st) .none .none .none pm none cd .none),⟨[]⟩⟩)(c:PySem.W.codeIn K cd q=true)(k:PySem.W.keepIn K (.ref f)=true):Fm K C m q st:=⟨f,_,Lr l c k,a,i,k⟩
def Fm.mn (D:Fm K C m q st)(b:BA m q st ps):Mn K C m q st ps :=
 let ⟨f,fd,F,a,i,k⟩:=D
 ⟨f,fd,F,F.binds b,⟨a,i,k⟩⟩
def Fm.kn (D:Fm K C "__init__" q st)(mk:PySem.W.makesIn K C=true)(kc:PySem.W.keepIn K (.ref C)=true)(e:mg x=some (.ref C))(b:BA "__init__" q st ps):Kn K mg C x q st ps :=
 let ⟨f,fd,F,a,i,k⟩:=D
 ⟨f,fd,F,F.binds b,⟨mk,a,i,kc⟩,e⟩
end
section
variable {X:Cx}{k k':Nat}{x:Str}{ps:ō}{sp:Sp}{a b e:Expr}{es:ő}{ta tb te:TE}{t:TA}{p pos pos':Pos}{r:R2}
def mE (i:Nat)(hN:X.N.Nodup)(he:PE X e te)(hi:X.N[i]?=some x:=by exact rfl)(hx:Loc X.env.scope x:=by first | exact ć Z | exact ċ Z)(hs:swapsWith e (some (.Name x pos')) pos.line X.env=pure false:=by rfl)(hf:X.fn x=true\/X.env.scope.names.lookup x=some .local:=by first | exact .inl Z | exact .inr Z | assumption) :
  PS X (.Assign [.Name x pos'] e pos) (JU te (nu i)):=Q8 hN hi hx he hs hf
def nW (i:Nat)(hN:X.N.Nodup)(hi:X.N[i]?=some x:=by exact rfl)(hx:Loc X.env.scope x:=by first | exact ć Z | exact ċ Z)(hf:X.fn x=true\/X.env.scope.names.lookup x=some .local:=by first | exact .inl Z | exact .inr Z | assumption):PG X (.Name x pos) (nu i):=qH hN hi hx hf
def mD (D:Df X.prog X.w X.K X.mg X.base k x ps sp)(hr:oT k' X.A)(ha:PA X (e::es) t)(le:k<=k':=by decide)(hg:Gl X x:=by rfl)(IC:(x == ("__debug__":Str))=false:=by decide)
  (he:starEach (e::es) X.env=(false,eval e X.env)::starEach es X.env:=by rfl)(zu:(backTo pos (starEach es X.env)).any (·.1)=false:=by rfl) :
  PE X (.Call (.Name x p) (e::es) [] pos) (Ll sp [] E0 t):=QF D (hr.mono le) hg ha IC he zu
def mF (hr:R6 X r)(ha:PE X a ta)(hb:PE X b tb)(hs:Gw b:=by exact fun _ _=>Z):PE X (.Subscript a b pos) (R1 r ta tb):=Tc hr ha hb hs
def nQ {op:CmpOp}(ho:wy X (compareOp op) r)(ha:PE X a ta)(hb:PE X b tb)(hm:behindInMarks op b=false:=by exact pQ _):PT X (.Compare a [op] [b] pos) (Pd (R1 r ta tb)):=Nc ho ha hb hm
def pM (hm:X.mg "len"=none)(ha:PE X e te)(hg:Gl X "len":=by rfl)(hs:starEach [e] X.env=[(false,eval e X.env)]:=by rfl):PE X (.Call (.Name "len" p) [e] [] pos) (Zd (fun xs H Q=>∃p ys,xs=[.ref p]/\(mj X.K H p ys\/mW X.K H p ys)/\Q (.int (ys.length:Nat)) H) (C6 te Og)):=mZ vK hg hm KG (lG ha mB hs) (he:=hs)
def mT (ha:PE X e te)(hs:starEach [e] X.env=[(false,eval e X.env)]:=by rfl):PA X [e] (C6 te Og):=lG ha mB hs
def mJ {e':Expr}{te':TE}(ha:PE X e te)(hb:PE X e' te')(hs:starEach [e,e'] X.env=(false,eval e X.env)::starEach [e'] X.env:=by rfl)(IP:starEach [e'] X.env=[(false,eval e' X.env)]:=by rfl):PA X [e,e'] (C6 te (C6 te' Og)):=lG ha (lG hb mB IP) hs
end
section
variable {pE:List (Str×Nat)}
variable {X:Cx}{elt iter tg:Expr}{ifs:ő}{scope:Scope}{pos py L9:Pos}{x y:Str}{cl:List (Str×Addr)}{wi:TI}{g:TG}{tc:TT}{te:TE}
def qo {qX:ō}{C:Addr}{s:Shared}{H:Hp}{fp:ŋ}(i:Nat)(hN:(pE.map (·.1)++qX).Nodup:=by decide +kernel)(hi:(nB X scope cl (pE.map (·.1)++qX) C s H fp).N[i]?=some x:=by exact rfl)(hx:Loc (nB X scope cl (pE.map (·.1)++qX) C s H fp).env.scope x:=by exact ć Z)(hf:(nB X scope cl (pE.map (·.1)++qX) C s H fp).fn x=true\/(nB X scope cl (pE.map (·.1)++qX) C s H fp).env.scope.names.lookup x=some .local:=by exact ċ Z):PG (nB X scope cl (pE.map (·.1)++qX) C s H fp) (.Name x pos) (nu i):=qH hN hi hx hf
def tQ {qX:ō}{C:Addr}{s:Shared}{H:Hp}{fp:ŋ}{k:Nat}{p p':Pos}(i j:Nat)(hc:X.calm=true:=by exact rfl)(hN:(pE.map (·.1)++qX).Nodup:=by decide +kernel)(hi:(nB X scope cl (pE.map (·.1)++qX) C s H fp).N[i]?=some x:=by exact rfl)(hj:(nB X scope cl (pE.map (·.1)++qX) C s H fp).N[j]?=some y:=by exact rfl)(hx:Loc (nB X scope cl (pE.map (·.1)++qX) C s H fp).env.scope x:=by exact ć Z)(hy:Loc (nB X scope cl (pE.map (·.1)++qX) C s H fp).env.scope y:=by exact ć Z)(hf:(nB X scope cl (pE.map (·.1)++qX) C s H fp).fn x=true\/(nB X scope cl (pE.map (·.1)++qX) C s H fp).env.scope.names.lookup x=some .local:=by exact ċ Z)(hg:(nB X scope cl (pE.map (·.1)++qX) C s H fp).fn y=true\/(nB X scope cl (pE.map (·.1)++qX) C s H fp).env.scope.names.lookup y=some .local:=by exact ċ Z):PG (nB X scope cl (pE.map (·.1)++qX) C s H fp) (.Tuple [.Name x p,.Name y p'] k pos) (M7 X.K 2 (xk (nu i) (xk (nu j) M4))):=oY hc (mI (qH hN hi hx hf) (mI (qH hN hj hy hg) oe))
def oX (pE:List (Str×Nat))(qX:ō)(hi:PI X tg iter wi)
  (hb:∀C s H fp,PG (nB X scope cl (pE.map (·.1)++qX) C s H fp) tg g/\OQ (nB X scope cl (pE.map (·.1)++qX) C s H fp) ifs tc/\PE (nB X scope cl (pE.map (·.1)++qX) C s H fp) elt te)
  (v7:closureFor scope X.env=pure cl:=by exact rfl)(hc:X.calm=true:=by exact rfl)(sx:scope.kind=.function:=by exact rfl)
  (sP:∀x∈scope.names,x.2=.local->scope.names.lookup x.1=some .local:=by decide +kernel)(sw:∀y∈scope.names,y.2≠.cell:=by decide +kernel)
  (tF:∀y∈scope.names,y.2=.free->∃c,cl.lookup y.1=some c:=by exact GB Z)
  (ue:∀x c,cl.lookup x=some c->X.env.cells.lookup x=some c:=by repeat first | exact FT | refine DA Z ?_)
  (zv:∀p∈pE,X.N[p.2]?=some p.1/\(X.env.kindOf p.1=some .cell\/X.env.kindOf p.1=some .free)/\((relabel scope X.env).names.lookup p.1=some .cell\/(relabel scope X.env).names.lookup p.1=some .free)/\∃c,cl.lookup p.1=some c:=by repeat first | exact FK | refine Co ⟨Z,ć Z,ć Z,_,Z⟩ ?_)
  (hl:tK pE.length g:=by first | exact w5 L | exact wX L L | exact rF L L L)
  (hs:∀x,foldedSetIterable iter X.env x=pure x:=by intro _;rfl) :
  PE X (.ListComp elt [⟨tg,iter,ifs,0⟩] scope pos) (Ds pE qX.length wi g tc te):=Dm hc v7 sx sP sw tF ue zv hl hi hb hs
def xm (i:Nat)(pE:List (Str×Nat))(qX:ō)(hN:X.N.Nodup)(hi:PI X tg iter wi)
  (hb:∀C s H fp,PG (nB X scope cl (pE.map (·.1)++qX) C s H fp) tg g/\OQ (nB X scope cl (pE.map (·.1)++qX) C s H fp) ifs tc/\PE (nB X scope cl (pE.map (·.1)++qX) C s H fp) elt te)
  (v7:closureFor scope X.env=pure cl:=by exact rfl)(hc:X.calm=true:=by exact rfl)(sx:scope.kind=.function:=by exact rfl)
  (sP:∀x∈scope.names,x.2=.local->scope.names.lookup x.1=some .local:=by decide +kernel)(sw:∀y∈scope.names,y.2≠.cell:=by decide +kernel)
  (tF:∀y∈scope.names,y.2=.free->∃c,cl.lookup y.1=some c:=by exact GB Z)
  (ue:∀x c,cl.lookup x=some c->X.env.cells.lookup x=some c:=by repeat first | exact FT | refine DA Z ?_)
  (zv:∀p∈pE,X.N[p.2]?=some p.1/\(X.env.kindOf p.1=some .cell\/X.env.kindOf p.1=some .free)/\((relabel scope X.env).names.lookup p.1=some .cell\/(relabel scope X.env).names.lookup p.1=some .free)/\∃c,cl.lookup p.1=some c:=by repeat first | exact FK | refine Co ⟨Z,ć Z,ć Z,_,Z⟩ ?_)
  (hl:tK pE.length g:=by first | exact w5 L | exact wX L L | exact rF L L L)
  (hiy:X.N[i]?=some y:=by exact rfl)(hy:Loc X.env.scope y:=by first | exact ć Z | exact ċ Z)
  (hs:∀x,foldedSetIterable iter X.env x=pure x:=by intro _;rfl)
  (hsw:swapsWith (.ListComp elt [⟨tg,iter,ifs,0⟩] scope pos) (some (.Name y py)) L9.line X.env=pure true:=by rfl)
  (hf:X.fn y=true\/X.env.scope.names.lookup y=some .local:=by first | exact .inl Z | exact .inr Z | assumption) :
  PS X (.Assign [.Name y py] (.ListComp elt [⟨tg,iter,ifs,0⟩] scope pos) L9) (JU (Ds pE qX.length wi g tc te) (nu i)):=ED hN hiy hy hc v7 sx sP sw tF ue zv hl hi hb hs hsw hf
end
def mX {P:Program}{w:World}{K:zfq}{mg:ś}{base:Heap}{x:Str}{st:Stmt}{N ps:ō}{k:Nat}{sp:Sp}(D:Dn K mg x st ps)(S:lZ N ps (lU st))
  (hbody:∀(f:Addr)(cdv:Value)(A:Around)(outer:List Env)(s:Shared)(H:Hp)(vs:ň)(Q:VK)(E:XK),oT k (A.deeper (envOfC x (lU st) s.heap.objs.size f cdv))->N.Nodup->sp vs H Q E ->
   ∃t,xc (zP GQ P w K mg base N x (lU st) f cdv A outer s H E).IH (nH st) t/\t { nx:=fun _ H'=>Q .non H',rt:=Q } (start N vs) H)
  (len:∀vs H Q E,sp vs H Q E->vs.length=ps.length:=by intro _ _ _ _ h;cases h;subst_vars;rfl):Df P w K mg base (k+1) x ps sp:=by
 obtain⟨f,fd,F,b,m⟩:=D.ex;exact⟨f,fd,F.ok S len (fun cdv A outer s H vs Q E hr h=>hbody f cdv A outer s H vs Q E hr S.nd h),b,F.kp,m⟩
def Ti (n:Nat):Builtin.Range.rangeSize ((n:Int)-1) (-1) (-1)=(n:Nat):=by
 unfold Builtin.Range.rangeSize;rw[ah L];split
 .have:((n:Int)-1 - -1-1) / - -1=(n:Int)-1:=by
   rw[show (- -1:Int)=1 by decide,Int.ediv_one];lia
  lia
 .lia
section
variable {X:Cx}{tg:Expr}
inductive Oe (R:(It->Hp->Prop))(vs:ň)(H1:Hp):Prop
 | mk (n:Nat)(_:vs=[.int ((n:Int)-1),.int (-1),.int (-1)])(_:n<=1000000)(_:R (Lw ((n:Int)-1) (-1) n) H1)
def Uu (ta:TA):TI:=fun σ H R=>ta σ H fun vs H1=>Oe R vs H1
def Hx {a b c:Expr}{ta:TA}{p pos:Pos}(hg:Gl X "range")(hm:X.mg "range"=none)(ha:PA X [a,b,c] ta)(he:starEach [a,b,c] X.env=(false,eval a X.env)::starEach [b,c] X.env:=by rfl)(zu:(backTo pos (starEach [b,c] X.env)).any (·.1)=false:=by rfl) :
  PI X tg (.Call (.Name "range" p) [a,b,c] [] pos) (Uu ta):=by
 intro â s σ H R I h;refine Call_ (rT I hg hm boot_range (cQ (oR (ha pos â s σ H _ I h) fun us s1 ⟨vs,H1,I1,r1,q1⟩=>?_) he zu));obtain⟨n,e,n1,q⟩:=q1;subst e;cases r1 with
 | cons r rr =>
  cases rr with
  | cons r' rr =>
   cases rr with
   | cons WH rr =>
    cases rr;obtain⟨t,rfl⟩:=r;obtain⟨t',rfl⟩:=r';obtain⟨Sj,rfl⟩:=WH;obtain⟨i,hi⟩:∃i:Int,i=(n:Int)-1:=⟨_,Z⟩;have sz:=Ti n;rw[<-hi] at sz q ⊢;refine call_range_3 O ?_ (.inl (jJ O));have sm:Builtin.Range.small i (-1) (-1)=true:=by
     unfold Builtin.Range.small;rw[sz];simp only[Builtin.Range.rangeFitsLong,Ĵ,Ļ,decide_eq_true_eq,beq_iff_eq,if_true,gt_iff_lt];have c1:¬((0:Int) < -1):=L;simp only[c1,if_false];exact⟨O,.inr L⟩
    refine wpAny_pyIter_range (kX ..) sm ?_;have I2:Inv X â σ H1 { s1 with heap:=s1.heap.push { cls:=.type "range",data:=.fields #[.int i t,.int (-1) t',.int (-1) Sj] },toks:=s1.toks }:=I1.kept fun b o e=>aM _ e;refine⟨(s1.heap.push { cls:=.type "range",data:=.fields #[.int i t,.int (-1) t',.int (-1) Sj] }).objs.size,[(s1.heap.push { cls:=.type "range",data:=.fields #[.int i t,.int (-1) t',.int (-1) Sj] }).objs.size],_,_,H1,Z,
     I2.kept (t':=s1.toks) fun b o e=>aM _ e,Dp _ i (-1) n,?_,fun b hb=>?_,q⟩
    .have e1:i+((0:Nat):Int)*(-1)=i:=by simp
     have e2:((n:Nat):Int)-((0:Nat):Int)=Builtin.Range.rangeSize i (-1) (-1):=by rw[sz];simp
     show IsRangeIter _ _ (i+((0:Nat):Int)*(-1)) (((n:Nat):Int)-((0:Nat):Int)) (-1)
     rw[e1,e2];exact bV _ Z
    .have e:b=(s1.heap.push { cls:=.type "range",data:=.fields #[.int i t,.int (-1) t',.int (-1) Sj] }).objs.size:=by simpa using hb
     subst e;exact I2.Dy (aG _) (I2.hok.fresh (aG _))
end
def Lh {X:Cx}{ss:List Stmt}:xc X ss (fun _ _ _=>e8):=fun _ _ _ _ _ _ h=>h.elim
def wD {ns:ń}{its:ņ}(r:Vals (ns.map zad) its):∀is:ŏ,Vals ((is.filterMap fun i=>ns[i]?).map zad) (is.filterMap fun i=>its.toArray[i]?)
 | []=>.nil
 | i::is=>by
  have ih:=wD r is;rw[iL,iL];have e:its.toArray[i]?=its[i]?:=by simp
  cases h:ns[i]? with
  | none =>
   have hl:=r.length;rw[aa] at hl;have:its[i]?=none:=cF (by have:=List.getElem?_eq_none_iff.mp h;lia);rw[e,this];exact ih
  | some v =>
   obtain⟨u,hu,ru⟩:=r.get (i:=i) (x:=.int v) (by rw[List.getElem?_map,h];rfl);rw[e,hu];exact .cons ru ih
end L2
namespace Pt
def KL (m b:Int):Prop:=∀d,2<=d->d<b->¬d∣m
def oZ (p:Int):Prop:=2<=p/\∀d,2<=d->d<p->¬d∣p
def J5 (p q:Int):Prop:=∃e:Nat,q=p^(e+1)
def tG:ľ->Int
 | []=>1
 | a::r=>a.2*tG r
def Uk (a:Int):a^(0+1)=a:=by rw[bj,eU,cY]
def sJ:∀(a b:ľ),tG (a++b)=tG a*tG b
 | [],b=>by simp[tG]
 | x::r,b=>by simp[tG,sJ r b,ĥ]
structure Row (x:Int×Int):Prop where
 pr:oZ x.1
 pw:J5 x.1 x.2
structure zH (n:Int)(ps:ľ)(left p:Int):Prop where
 prd:tG ps*left=n
 Q6:KL left p
 row:∀x∈ps,Row x
 low:∀x∈ps,x.1<p
 srt:ps.Pairwise fun a b=>a.1<b.1
structure Parts (n:Int)(ps:ľ):Prop where
 prd:tG ps=n
 row:∀x∈ps,Row x
 srt:ps.Pairwise fun a b=>a.1<b.1
def start (n:Int):zH n [] n 2 :=
 ⟨by simp[tG],fun d h1 h2=>by lia,fun x h=>(nomatch h),fun x h=>(nomatch h),List.Pairwise.nil⟩
structure Bh (m p q:Int):Prop where
 pos:1<=q
 pw:∃e:Nat,q=p^e
 dv:q∣m
def q0 (m p:Int):Bh m p 1:=⟨O,⟨0,lB⟩,Int.one_dvd m⟩
def q1 {m p q:Int}(hp:2<=p)(h:Bh m p q)(d:m%(q*p)=0):Bh m p (q*p):=by
 obtain⟨h1,⟨e,he⟩,h3⟩:=h;have:=aB hp (show 0<=q by lia);exact⟨O,⟨e+1,by rw[he,bj]⟩,aY d⟩
def MX {m p q:Int}(hm:1<=m)(h:Bh m p q):q<=m:=aW O h.dv
def Ln {p q:Int}(hp:2<=p)(h:1<=q):q<q*p:=by
 have:=aB hp (show 0<=q by lia);lia
structure EJ (m p q:Int):Prop where
 inv:Bh m p q
 no:¬q*p∣m
def q2 {m p q:Int}(h:Bh m p q)(d:¬m%(q*p)=0):EJ m p q:=⟨h,fun z=>d (bB z)⟩
def KU {n:Int}{ps:ľ}{left p q:Int}(h:zH n ps left p)(hq:EJ left p q)(h1:¬q > 1):zH n ps left (p+1):=by
 have e:q=1:=by have:=hq.inv.pos;lia
 have no:¬p∣left:=by have:=hq.no;rw[e,cY] at this;exact this
 refine⟨h.prd,fun d h2 h3=>?_,h.row,fun x hx=>by have:=h.low x hx;lia,h.srt⟩
 by_cases c:d=p
 .rw[c];exact no
 .exact h.Q6 d h2 O
def JD {n:Int}{ps:ľ}{left p q:Int}(hp:2<=p)(h:zH n ps left p)(hq:EJ left p q)(h1:q > 1):zH n (ps++[(p,q)]) (left/q) (p+1):=by
 obtain⟨⟨q1,⟨e,he⟩,⟨c,hc⟩⟩,no⟩:=hq;have ec:left/q=c:=by rw[hc];exact aC c O
 cases e with
 | zero=>rw[he] at h1;simp at h1
 | succ e =>
  have pq:p∣q:=by rw[he,bj];exact fJ _ _
  have pl:p∣left:=bu pq ⟨c,hc⟩;have cl:c∣left:=⟨q,by rw[hc,ay]⟩;have Ma:oZ p:=⟨hp,fun d h2 h3 z=>h.Q6 d h2 h3 (bu z pl)⟩;refine⟨?_,?_,?_,?_,?_⟩
  .rw[sJ,ec];simp only[tG,Int.mul_one];rw[aE,<-hc];exact h.prd
  .rw[ec];intro d h2 h3 z
   by_cases k:d=p
   .apply no;obtain⟨f,hf⟩:=z;exact⟨f,by rw[hc,hf,k,aE]⟩
   .exact h.Q6 d h2 O (bu z cl)
  .intro x hx;rcases ŵ.mp hx with hx | hx
   .exact h.row x hx
   .obtain rfl:=ñ.mp hx;exact⟨Ma,⟨e,he⟩⟩
  .intro x hx;rcases ŵ.mp hx with hx | hx
   .have:=h.low x hx;lia
   .obtain rfl:=ñ.mp hx;show p<p+1;lia
  .rw[gf];refine⟨h.srt,iy _ _,fun a ha b hb=>?_⟩;obtain rfl:=ñ.mp hb;exact h.low a ha
def DK {left q:Int}(h:1<=left)(hd:q∣left)(hq:1<=q):1<=left/q/\left/q<=left:=by
 obtain⟨c,hc⟩:=hd;have ec:left/q=c:=by rw[hc];exact aC c O
 rw[ec];have cp:1<=c:=by
  rcases ū 0 c with z | z
  .lia
  .have:=aB z (show 0<=q by lia);lia
 have:=ar hq (show 0<=c by lia);lia
def JM {left p:Int}(hp:2<=p)(h:KL left p)(hb:¬p*p<=left)(h1:left > 1):oZ left/\p<=left:=by
 have pl:p<=left:=by
  rcases ū left p with z | z
  .exact absurd (cq left) (h left O z)
  .exact z
 refine⟨⟨O,fun d h2 h3 hd=>?_⟩,pl⟩;obtain⟨c,hc⟩:=id hd
 by_cases dp:d<p
 .exact h d h2 dp hd
 .have c2:2<=c:=by
   rcases ū c 2 with z | z
   .have:c<=1:=O;have:=aB this (show 0<=d by lia);lia
   .exact z
  by_cases cp:c<p
  .exact h c c2 cp ⟨d,by rw[hc,ay]⟩
  .have a1:=aB (show p<=c by lia) (show 0<=d by lia);have a2:=ar (show p<=d by lia) (show 0<=p by lia);lia
def S7 {n:Int}{ps:ľ}{left p:Int}(hp:2<=p)(h:zH n ps left p)(hb:¬p*p<=left)(h1:left > 1):Parts n (ps++[(left,left)]):=by
 obtain⟨pr,pl⟩:=JM hp h.Q6 hb h1;refine⟨?_,?_,?_⟩
 .rw[sJ];simp only[tG,Int.mul_one];exact h.prd
 .intro x hx;rcases ŵ.mp hx with hx | hx
  .exact h.row x hx
  .obtain rfl:=ñ.mp hx;exact⟨pr,⟨0,(Uk left).symm⟩⟩
 .rw[gf];refine⟨h.srt,iy _ _,fun a ha b hb=>?_⟩;obtain rfl:=ñ.mp hb;have:=h.low a ha;show a.1<left;lia
def Q7 {n:Int}{ps:ľ}{left p:Int}(h:zH n ps left p)(h0:1<=left)(h1:¬left > 1):Parts n ps:=by
 have:left=1:=O;refine⟨?_,h.row,h.srt⟩;have:=h.prd;rw[‹left=1›,bX] at this;exact this
def vV {p:Int}(hp:2<=p)(k:Nat):1<=p^k:=by
 induction k with
 | zero=>simp
 | succ k ih =>
  rw[bj];have:=aB hp (show 0<=p^k by lia);lia
def CU {p:Int}(hp:2<=p){k e:Nat}(h:k<=e):p^k<=p^e:=by
 obtain⟨d,rfl⟩:=ě h;rw[fe];have a:=vV hp k;have:=aB (vV hp d) (show 0<=p^k by lia);lia
def vg {x:Int×Int}(h:Row x):2<=x.1/\x.1<=x.2:=by
 obtain⟨e,he⟩:=h.pw;refine⟨h.pr.1,?_⟩;have a:=CU h.pr.1 (show 0+1<=e+1 by lia);rw[<-he,Uk] at a;exact a
def sI:∀(ps:ľ),(∀x∈ps,Row x)->1<=tG ps
 | [],_=>by simp[tG]
 | x::r,h=>by
  have a:=vg (h x av);have b:=sI r fun y hy=>h y (aq _ hy);have c:=ar (show 1<=x.2 by lia) (show 0<=tG r by lia);simp only[tG];lia
def EG:∀(ps:ľ),(∀x∈ps,Row x)->∀x∈ps,x.2<=tG ps
 | [],_,_,h=>nomatch h
 | y::r,h,x,hx=>by
  have a:=vg (h y av);have h':∀z∈r,Row z:=fun z hz=>h z (aq _ hz);have b:=sI r h';simp only[tG];rcases ũ.mp hx with e | e
  .rw[e];have c:=aB b (show 0<=y.2 by lia);lia
  .have i:=EG r h' x e;have c:=ar (show 1<=y.2 by lia) (show 0<=tG r by lia);lia
variable {p:Int}
def Nd {a:Int}(hp:oZ p)(h:¬p∣a):Nat.Coprime p.natAbs a.natAbs:=by
 have g1:(ą p.natAbs a.natAbs)∣p.natAbs:=Nat.gcd_dvd_left _ _;have g2:(ą p.natAbs a.natAbs)∣a.natAbs:=Nat.gcd_dvd_right _ _;have e1:((ą p.natAbs a.natAbs:Nat):Int)∣p:=kh.mpr g1;have e2:((ą p.natAbs a.natAbs:Nat):Int)∣a:=kh.mpr g2;have p2:=hp.1;have gp:0<ą p.natAbs a.natAbs:=Nat.gcd_pos_of_pos_left _ lC;have gl:((ą p.natAbs a.natAbs:Nat):Int)<=p:=aW O e1;show ą p.natAbs a.natAbs=1
 rcases ů (ą p.natAbs a.natAbs) 2 with z | z
 .lia
 .rcases ū ((ą p.natAbs a.natAbs:Nat):Int) p with y | y
  .exact absurd e1 (hp.2 _ O y)
  .have:((ą p.natAbs a.natAbs:Nat):Int)=p:=O;rw[this] at e2;exact absurd e2 h
def euclid {a b:Int}(hp:oZ p)(h:p∣a*b):p∣a\/p∣b:=by
 by_cases c:p∣a
 .exact .inl c
 .right;have q:=Nd hp c;have h':p.natAbs∣a.natAbs*b.natAbs:=by rw[<-aR];exact aU.mpr h
  exact aU.mp (q.dvd_of_dvd_mul_left h')
def uv {p r:Int}(hp:oZ p)(hr:oZ r):∀e:Nat,p∣r^e->p=r
 | 0,h=>by
  have:=aW (show (0:Int)<1 by decide) (show p∣1 by simpa using h);have:=hp.1;lia
 | e+1,h=>by
  rw[bj] at h;rcases euclid hp h with z | z
  .exact uv hp hr e z
  .have l:=aW (by have:=hr.1;lia) z;rcases ū p r with y | y
   .exact absurd z (hr.2 p hp.1 y)
   .lia
def uo {p:Int}(hp:oZ p):∀(ps:ľ),(∀x∈ps,Row x)->p∣tG ps->∃x∈ps,x.1=p
 | [],_,h=>by
  have:=aW L (show p∣1 from h);have:=hp.1;lia
 | x::r,h,d=>by
  have d':p∣x.2*tG r:=d;rcases euclid hp d' with z | z
  .obtain⟨e,he⟩:=(h x ē).pw;rw[he] at z;exact⟨x,av,(uv hp (h x av).pr _ z).symm⟩
  .obtain⟨y,hy,e⟩:=uo hp r (fun y hy=>h y (ÿ _ hy)) z;exact⟨y,aq _ hy,e⟩
def Rf (hp:2<=p)(k:Nat):p^k≠0:=by have:=vV hp k;lia
def uniq {p d d':Int}(hp:oZ p)(h:¬p∣d)(h':¬p∣d'):∀{j k:Nat},d*p^j=d'*p^k->j=k/\d=d'
 | 0,0,e=>by simpa using e
 | 0,k+1,e=>by
  exfalso;apply h;rw[eU,bX] at e;rw[e,bj,<-aE];exact fJ _ _
 | j+1,0,e=>by
  exfalso;apply h';rw[eU,bX] at e;rw[<-e,bj,<-aE];exact fJ _ _
 | j+1,k+1,e=>by
  rw[bj,bj,<-aE,<-aE] at e;have p2:=hp.1;obtain⟨a,b⟩:=uniq hp h h' (Č O e);exact⟨O,b⟩
def Nv {j e:Nat}(h:j+1<=e):p^(j+1)∣p^e:=by
 obtain⟨d,rfl⟩:=ě h;rw[fe p (j+1) d];exact dC _ _
structure DI (n c:Int)(low high:ń):Prop where
 sq:∀x,1<=x->x<c->x*x<=n
 ls:low.Pairwise (· < ·)
 lm:∀x,x∈low↔(1<=x/\x<c)/\x∣n
 hs:high.Pairwise (· < ·)
 hm:∀y,y∈high↔∃x,(1<=x/\x<c)/\x*x≠n/\x*y=n
def K5 (n s:Int):Prop :=
 ((∃p,oZ p/\p*p∣n)/\s=0)\/((∀p,oZ p->¬p*p∣n)/\∃l:ń,l.Nodup/\(∀p,p∈l↔oZ p/\p∣n)/\s=(-1)^l.length)
def DM {n:Int}(h:2<=n):∃p,oZ p/\p∣n:=by
 have:∀k:Nat,∀c:Int,2<=c->(n-c).toNat=k->c<=n->(∀d,2<=d->d<c->¬d∣n)->∃p,oZ p/\p∣n:=by
  intro k
  induction k with
  | zero =>
   intro c c2 ek cn no;have:c=n:=O;subst this;exact⟨c,⟨c2,no⟩,cq _⟩
  | succ k ih =>
   intro c c2 ek cn no
   by_cases z:c∣n
   .exact⟨c,⟨c2,fun d a b y=>no d a b (bu y z)⟩,z⟩
   .refine ih (c+1) O O O fun d a b=>?_
    by_cases q:d=c
    .subst q;exact z
    .exact no d a O
 exact this _ 2 O Z h (fun d a b=>by lia)
open Classical in
noncomputable def mu (n:Int):Int:=if h:∃s,K5 n s then Classical.choose h else 0
def take_snoc {α:Type}{ps:List α}{i:Nat}{x:α}(h:ps[i]?=some x):ps.take (i+1)=ps.take i++[x]:=by rw[dS,h];rfl
structure LI (n0 n p done:Int):Prop where
 ex:∃m,n0=m*n/\K5 m done/\1<=m/\(∀r,oZ r->r∣m->r<p)
 no:KL n p
variable {ps:ľ}
def v8 {x:Int×Int}(h:x∈ps)(srt:ps.Pairwise fun a b=>a.1<b.1)(row:∀y∈ps,Row y):∃m,tG ps=x.2*m/\¬x.1∣m/\1<=m:=by
 obtain⟨a,b,rfl⟩:=List.append_of_mem h;rw[gf,gK] at srt;have ra:∀y∈a,Row y:=fun y hy=>row y (cX _ hy);have rb:∀y∈b,Row y:=fun y hy=>row y (bP _ (aq _ hy));have rx:=row x h;refine⟨tG a*tG b,?_,fun z=>?_,?_⟩
 .rw[sJ];simp only[tG];rw[ĩ]
 .rcases euclid rx.pr z with z | z
  .obtain⟨y,hy,e⟩:=uo rx.pr a ra z;have:=srt.2.2 y hy x av;lia
  .obtain⟨y,hy,e⟩:=uo rx.pr b rb z;have:=srt.2.1.1 y hy;lia
 .have:=df (sI a ra) (sI b rb) O (by have:=sI a ra;lia);lia
def oI {n:Int}(h:Parts n ps)(x:Int×Int):x∈ps↔oZ x.1/\x.1∣n/\J5 x.1 x.2/\x.2∣n/\¬x.2*x.1∣n:=by
 constructor
 .intro hx;have rx:=h.row x hx;obtain⟨m,e,nd,m1⟩:=v8 hx h.srt h.row;rw[h.prd] at e;obtain⟨k,hk⟩:=rx.pw;have dq:x.2∣n:=⟨m,e⟩;refine⟨rx.pr,bu ?_ dq,rx.pw,dq,fun z=>nd ?_⟩
  .rw[hk,bj];exact fJ _ _
  .rw[e] at z;exact jq (by have:=vg rx;lia) z
 .rintro⟨pr,d,⟨k,hk⟩,dq,nd⟩;rw[<-h.prd] at d;obtain⟨y,hy,e⟩:=uo pr ps h.row d;obtain⟨m,e2,nm,m1⟩:=v8 hy h.srt h.row;rw[h.prd] at e2;obtain⟨j,hj⟩:=(h.row y hy).pw;rw[e] at hj nm;have p2:=pr.1;have le:∀{a b:Nat}{c:Int},¬x.1∣c->x.1^a∣x.1^b*c->a<=b:=by
   intro a b c hc hd;rcases ů b a with z | z
   .obtain⟨t,rfl⟩:=ě z;rw[show b+1+t=b+(t+1) by lia,fe] at hd;have:=jq (Rf p2 b) hd;exact absurd (bu ⟨x.1^t,by rw[bj,ay]⟩ this) hc
   .exact z
  have k1:k+1<=j+1:=le nm (by rw[<-hj,<-e2,<-hk];exact dq);have k2:¬k+1+1<=j+1:=fun z=>nd (by
   rw[hk,<-bj,e2,hj];exact bu (Nv z) (dC _ _))
  have:k=j:=O;have q:x=y:=g6 e.symm (by rw[hk,hj,this]);rw[q];exact hy
def CL:∀{a b:ľ},a.Pairwise (fun x y=>x.1<y.1)->b.Pairwise (fun x y=>x.1<y.1)->(∀x,x∈a↔x∈b)->a=b
 | [],[],_,_,_=>rfl
 | [],y::b,_,_,h=>by have:=(h y).mpr av;cases this
 | x::a,[],_,_,h=>by have:=(h x).mp av;cases this
 | x::a,y::b,ha,hb,h=>by
  rw[gK] at ha hb;have e:x=y:=by
   have h1:=(h x).mp av;have h2:=(h y).mpr av;rcases ũ.mp h1 with e | e
   .exact e
   .rcases ũ.mp h2 with f | f
    .exact f.symm
    .have:=hb.1 x e;have:=ha.1 y f;lia
  subst e;congr 1;refine CL ha.2 hb.2 fun z=>?_;have q:=h z;rw[gC,gC] at q;constructor
  .intro hz;rcases q.mp (.inr hz) with e | e
   .subst e;have:=ha.1 z hz;lia
   .exact e
  .intro hz;rcases q.mpr (.inr hz) with e | e
   .subst e;have:=hb.1 z hz;lia
   .exact e
def se {n:Int}{a b:ľ}(ha:Parts n a)(hb:Parts n b):a=b:=CL ha.srt hb.srt fun x=>by rw[oI ha,oI hb]
def cnt (n:Nat):Nat->Nat
 | 0=>0
 | d+1=>cnt n d+(bif Nat.beq (n%(d+1)) 0 then (bif Nat.blt ((d+1)*(d+1)) n then 2 else bif Nat.beq ((d+1)*(d+1)) n then 1 else 0) else 0)
structure CI (n c:Int)(k:Nat):Prop where
 ex:∃low high,DI n c low high/\low.length+high.length=k
def rt (n:Nat):Nat->Nat
 | 0=>0
 | d+1=>bif Nat.ble ((d+1)*(d+1)) n then d+1 else rt n d
end Pt
open Pt renaming oZ→zbn, take_snoc→zcg, Parts→zcs, oI→zeb, tG→zfd
namespace Eh
def G (a b:Int):Int:=(ż a b:Nat)
def ab (a:Int):Int:=if a<0 then -a else a
def BN (a:Int):ab a=(a.natAbs:Int):=by unfold ab;split<;>lia
def ZC (a b:Int):G (ab a) (ab b)=G a b:=by
 unfold G;rw[BN,BN];simp[ż]
def CA (a b:Int):0<=G a b:=kf _
def start (a b:Int):0<=ab a/\0<=ab b/\G (ab a) (ab b)=G a b:=by
 refine⟨?_,?_,ZC a b⟩<;>(rw[BN];lia)
def turn {a b g s:Int}(hg:0<=g)(hs:0<=s)(h:G g s=G a b)(ne:¬s=0) :
  0<=s/\0<=ī g s/\G s (ī g s)=G a b:=by
 have e:=dF g hs;refine⟨hs,?_,?_⟩
 .rw[e];exact aH _ ne
 .rw[e,<-h];unfold G;congr 1;obtain⟨m,rfl⟩:=ü hg;obtain⟨n,rfl⟩:=ü hs;rw[<-Int.natCast_emod];show ą n (m%n)=ą m n
  rw[jM n,<-Nat.gcd_rec,jM]
def less {g s:Int}(hs:0<=s)(ne:¬s=0):(ī g s).toNat<s.toNat:=by
 have e:=dF g hs;have:=aF g (show 0<s by lia);have:=aH g ne;lia
def out {a b g s:Int}(hg:0<=g)(h:G g s=G a b)(z:s=0):g=G a b:=by
 subst z;unfold G at *;have:ż g 0=g.natAbs:=Int.gcd_zero_right g;lia
def Tr {a b g s:Int}(hg:0<=g)(hs:0<=s)(h:G g s=G a b)(ne:¬s=0):0<=g%s/\G s (g%s)=G a b/\(g%s).toNat<s.toNat:=by
 have t:=turn hg hs h ne;have l:=less (g:=g) hs ne;rw[dF g hs] at t l;exact⟨t.2.1,t.2.2,l⟩
structure Bk (st n r c lr lc:Int):Prop where
 g:G r lr=G st n
 x:∃x,r=st*c+n*x
 y:∃y,lr=st*lc+n*y
def bk0 {st n:Int}(hn:0<n):0<=n/\0<=ī st n/\ī st n<n+1/\Bk st n n 0 (ī st n) 1:=by
 have e:=dF st (iU hn);have h0:=aH st (show n≠0 by lia);have h1:=aF st hn;refine⟨O,O,O,?_,⟨1,?_⟩,⟨-(st/n),?_⟩⟩
 .rw[e];unfold G;congr 1;have d:=bU st n;have q:ż n (st%n+n*(st/n))=ż n (st%n):=Int.gcd_add_mul_left_right ..;rw[d] at q;rw[<-q,Int.gcd_comm]
 .simp
 .rw[e,gh,bX];have:=bU st n;lia
def bkt {st n r c lr lc:Int}(hr:0<=r)(h0:0<=lr)(ne:¬lr=0)(h:Bk st n r c lr lc) :
  0<=lr/\0<=r-Ğ r lr*lr/\Bk st n lr lc (r-Ğ r lr*lr) (c-Ğ r lr*lc):=by
 have e:=fk r h0;rw[e];have m:r-r/lr*lr=r%lr:=by
  have:=bU r lr;rw[ay] at this;lia
 rw[m];obtain⟨hg,⟨x,hx⟩,⟨y,hy⟩⟩:=h;have t:=turn hr h0 hg ne;have f:=dF r h0;rw[f] at t;refine⟨h0,t.2.1,t.2.2,⟨y,hy⟩,⟨x-r/lr*y,?_⟩⟩;rw[<-m,cL,cL];have a1:st*(r/lr*lc)=r/lr*(st*lc):=by rw[dD]
 have a2:n*(r/lr*y)=r/lr*(n*y):=by rw[dD]
 have a3:r/lr*lr=r/lr*(st*lc)+r/lr*(n*y):=by rw[<-gi,<-hy]
 lia
def PM {r lr:Int}(h0:0<=lr)(ne:¬lr=0):(r-Ğ r lr*lr).toNat<lr.toNat:=by
 have e:=fk r h0;rw[e];have m:r-r/lr*lr=r%lr:=by
  have:=bU r lr;rw[ay] at this;lia
 rw[m];have:=aF r (show 0<lr by lia);have:=aH r ne;lia
def YS {st n:Int}(hn:0<n):0<=st%n/\st%n<n/\Bk st n n 0 (st%n) 1:=by
 have h:=bk0 (st:=st) hn;rw[dF st (iU hn)] at h;exact⟨h.2.1,aF st hn,h.2.2.2⟩
def zaB {st n r c lr lc:Int}(hr:0<=r)(h0:0<=lr)(ne:¬lr=0)(h:Bk st n r c lr lc) :
  0<=r-r/lr*lr/\(r-r/lr*lr)<lr/\(r-r/lr*lr).toNat<lr.toNat/\Bk st n lr lc (r-r/lr*lr) (c-r/lr*lc):=by
 have t:=bkt hr h0 ne h;have l:=PM (r:=r) h0 ne;rw[fk r h0] at t l;refine⟨t.2.1,O,l,t.2.2⟩
def us (n:Int)(i:Nat):ń:=((ŭ i).map fun (j:Nat)=>(1+(j:Int))).filter fun k=>decide (G k n=1)
end Eh
open Eh renaming G→zdk, ab→zex
namespace Ld
def tab (n:Nat)(F:ř):ń:=(ŭ n).map fun x:Nat=>F x
def xW (n:Nat)(F:ř):(tab n F).length=n:=by simp[tab]
def Js {n:Nat}{F:ř}(hn:0<n)(hF:oB n F)(x:Int):at' (tab n F) x=F x:=by
 have e:=rP (a:=tab n F) (x:=x) (by rw[xW];exact hn);rw[xW] at e;unfold tab at e;rw[af,dj (uu hn x)] at e;have e':=bO e;unfold tab;rw[<-e'];show F (((x%n).toNat:Nat):Int)=_
 rw[xS hn];exact hF.md x
def By {a b:ń}{n:Nat}(ha:a.length=n)(hb:b.length=n)(h:∀x:Int,at' a x=at' b x):a=b:=ext (ha.trans hb.symm) fun k _=>h k
def Yj {st n:Int}:∀(m:Nat)(r c lr lc:Int),lr.toNat=m->0<=r->0<=lr->Eh.Bk st n r c lr lc->∃c' x,zdk st n=st*c'+n*x:=by
 intro m
 induction m using ğ with
 | ind m ih =>
  intro r c lr lc hm hr h0 h
  by_cases z:lr=0
  .obtain⟨hg,⟨x,hx⟩,_⟩:=h;have:=Eh.out hr hg z;exact⟨c,x,by rw[<-this];exact hx⟩
  .have t:=Eh.zaB hr h0 z h;exact ih _ (by rw[<-hm];exact t.2.2.1) _ _ _ _ Z h0 t.1 t.2.2.2
def P6 {st:Int}{n:Nat}(hn:0<n)(g:zdk st n=1):∃v,(st*v)%n=1%n:=by
 have b:=Eh.YS (st:=st) (n:=n) O;obtain⟨c,x,e⟩:=Yj _ _ _ _ _ Z O b.1 b.2.2;refine⟨c,?_⟩;rw[g] at e;rw[e,cV]
def turned (a:ń)(AV:Int):ń:=tab a.length fun x=>at' a (x-AV)
def yZ (a:ń)(AV:Int):(turned a AV).length=a.length:=xW _ _
def N7 {a:ń}{n:Nat}(h:a.length=n)(c:Int):oB n fun x=>at' a (x-c):=fun x y e=>m7 h _ _ (by rw[dr,e,<-dr])
def AL {a:ń}(hn:0<a.length)(AV x:Int):at' (turned a AV) x=at' a (x-AV):=Js hn (N7 Z AV) x
structure Bg (n:Nat)(st:Int)(a o:ń):Prop where
 la:a.length=n
 lo:o.length=n
 at_:∀x:Int,at' o (x*st)=at' a x
def Bg.val {n:Nat}{st v:Int}{a o:ń}(h:Bg n st a o)(hv:(st*v)%n=1%n)(y:Int):at' o y=at' a (y*v):=by
 rw[<-h.at_];refine m7 h.lo _ _ ?_;rw[aE,ay v st,eT,hv,<-eT,bX]
def Bg.uniq {n:Nat}{st v:Int}{a o p:ń}(h:Bg n st a o)(g:Bg n st a p)(hv:(st*v)%n=1%n):o=p :=
 By h.lo g.lo fun x=>by rw[h.val hv,g.val hv]
def Bg.conv {n:Nat}(hn:0<n){s v:Int}{a b l r:ń}(h:Bg n s a l)(g:Bg n s b r)(hv:(s*v)%n=1%n):Bg n s (conv a b) (conv l r) :=
 ⟨by rw[oH,g.la],by rw[oH,g.lo],fun x=>by
  rw[sy g.lo hn,sy g.la hn];have p:oB n fun j=>at' l j*at' r (x*s-j):=A9 (m7 h.lo) (wH (m7 g.lo) _);rw[<-Q4 hn p hv];refine lP fun j _=>?_;show at' l (j*s)*at' r (x*s-j*s)=_
  rw[<-cZ,h.at_,g.at_]⟩
def Bg.plus {n:Nat}(hn:0<n){s:Int}{a b l r:ń}(h:Bg n s a l)(g:Bg n s b r):Bg n s (plus a b) (plus l r) :=
 ⟨by rw[p9 (h.la.trans g.la.symm),h.la],by rw[p9 (h.lo.trans g.lo.symm),h.lo],fun x=>by
  rw[sF (h.lo.trans g.lo.symm) (by rw[h.lo];exact hn),sF (h.la.trans g.la.symm) (by rw[h.la];exact hn),h.at_,g.at_]⟩
def Bg.turned {n:Nat}(hn:0<n){s:Int}{a l:ń}(h:Bg n s a l)(AV:Int):Bg n s (turned a AV) (turned l (AV*s)) :=
 ⟨by rw[yZ,h.la],by rw[yZ,h.lo],fun x=>by
  rw[AL (by rw[h.lo];exact hn),AL (by rw[h.la];exact hn),<-cZ,h.at_]⟩
variable {n q:Nat}{a:ń}
def Qu (a:ń)(q:Nat)(x:Int):Int:=if x%q=0 then at' a (x/q) else 0
def fin (a:ń)(q:Nat):ń:=tab (q*a.length) (Qu a q)
def oF (a:ń)(q:Nat):(fin a q).length=q*a.length:=xW _ _
def BK (hq:0<q){x y:Int}(h:x%((q*n:Nat):Int)=y%((q*n:Nat):Int)):x%q=y%q/\(x/q)%n=(y/q)%n:=by
 have d:((q:Nat):Int)∣((q*n:Nat):Int):=by rw[aI];exact dC _ _
 refine⟨?_,?_⟩
 .rw[<-aX x d,h,aX y d]
 .have e:((q*n:Nat):Int)∣x-y:=aY (aK.mp h);obtain⟨t,ht⟩:=e;rw[aI] at ht;have ex:x=y+q*(n*t):=by rw[<-aE];lia
  rw[ex,fW _ _ O,cV]
def Oi (ha:a.length=n)(hq:0<q):oB (q*n) (Qu a q):=fun x y h=>by
 have d:=BK hq h;unfold Qu;rw[d.1,m7 ha _ _ d.2]
def ub (hn:0<a.length)(hq:0<q)(x:Int):at' (fin a q) x=if x%q=0 then at' a (x/q) else 0:=Js (dI hq hn) (Oi Z hq) x
def sO (F:ř)(m:Nat):∀k:Nat,S (m+k) F=S m F+S k fun j=>F (m+j)
 | 0=>by simp[S]
 | k+1=>by
  show S (m+k) F+F ((m+k:Nat):Int)=_
  rw[sO F m k];simp only[S];rw[gI];lia
def Lq {q:Nat}(hq:0<q)(G:ř):∀n:Nat,S (q*n) (fun j=>if j%q=0 then G j else 0)=S n fun i=>G (q*i)
 | 0=>rfl
 | n+1=>by
  rw[Nat.mul_succ,sO,Lq hq G n];simp only[S];congr 1;have e:S q (fun j=>if (((q*n:Nat):Int)+j)%q=0 then G (((q*n:Nat):Int)+j) else 0)=S q (fun j=>if j=0 then G (((q*n:Nat):Int)+j) else 0):=lP fun j hj=>by
   have:(((q*n:Nat):Int)+j)%q=j:=by
    rw[aI,iW,cV,aT O O]
   rw[this]
  rw[e,vn (eL 0),aA O,dL,aI]
def LO {b:ń}(ha:a.length=n)(hb:b.length=n)(hn:0<n)(hq:0<q):fin (conv a b) q=conv (fin a q) (fin b q):=by
 have lb:(fin b q).length=q*n:=by rw[oF,hb]
 refine By (n:=q*n) (by rw[oF,oH,hb]) (by rw[oH,lb]) fun x=>?_;rw[ub (by rw[oH];lia) hq,sy lb (dI hq hn),sy hb hn];have e:S (q*n) (fun j=>at' (fin a q) j*at' (fin b q) (x-j))=S (q*n) (fun j=>if j%q=0 then at' a (j/q)*at' (fin b q) (x-j) else 0):=lP fun j _=>by
  rw[ub O hq]
  by_cases z:(j:Int)%q=0
  .rw[aA z,aA z]
  .rw[ah z,ah z,aZ]
 rw[e,Lq hq (fun j=>at' a (j/q)*at' (fin b q) (x-j))];have f:S n (fun i=>at' a (((q:Int)*i)/q)*at' (fin b q) (x-q*i))=S n (fun i=>if x%q=0 then at' a i*at' b (x/q-i) else 0):=lP fun i _=>by
  rw[aC _ O,ub O hq];have e1:(x-q*(i:Int))%q=x%q:=by rw[dr,fR,cS,aX _ (cq _)]
  rw[e1]
  by_cases z:x%q=0
  .rw[aA z,aA z];congr 2;rw[show ∀u:Int,x-u=x + -u from fun u=>Int.sub_eq_add_neg,<-gh,fW _ _ O];lia
  .rw[ah z,ah z,bi]
 rw[f]
 by_cases z:x%q=0
 .rw[aA z];exact lP fun i _=>by rw[aA z]
 .rw[ah z,lP (G:=fun _=>0) fun i _=>by rw[ah z],oC]
def J7 {st v:Int}(h:(st*v)%((q*n:Nat):Int)=1%((q*n:Nat):Int)):(st*v)%n=1%n/\(st*v)%q=1%q:=by
 have d1:((n:Nat):Int)∣((q*n:Nat):Int):=by rw[aI];exact fJ _ _
 have d2:((q:Nat):Int)∣((q*n:Nat):Int):=by rw[aI];exact dC _ _
 exact⟨by rw[<-aX _ d1,h,aX _ d1],by rw[<-aX _ d2,h,aX _ d2]⟩
def Bg.fin {n q:Nat}(hn:0<n)(hq:0<q){st v:Int}{a o:ń}(h:Bg n st a o)(hv:(st*v)%((q*n:Nat):Int)=1%((q*n:Nat):Int)):Bg (q*n) st (fin a q) (fin o q) :=
 ⟨by rw[oF,h.la],by rw[oF,h.lo],fun x=>by
  rw[ub (by rw[h.lo];exact hn) hq,ub (by rw[h.la];exact hn) hq];have iq:=(J7 hv).2
  by_cases z:x%q=0
  .obtain⟨y,rfl⟩:=ò z;rw[aA z,aA (by rw[aE,fR]),aE,aC _ O,aC _ O,h.at_]
  .rw[ah z,ah fun w=>z ?_];have:(x*st*v)%q=x%q:=by rw[aE,eT,iq,<-eT,bX]
   rw[<-this,eT,w,aZ,fE]⟩
def Qf {o:ń}{N i:Nat}(ho:o.length=N)(hN:N=q*n)(hq:0<q)(hi:i<n)(h1:∀k:Nat,k<i->at' o ((q:Int)*k)=at' a k)(h2:∀x:Int,(∀k:Nat,k<i->x%N≠q*k)->at' o x=0) :
  (∀k:Nat,k<i+1->at' (o.set (((q:Int)*i)%N).toNat (at' a i)) ((q:Int)*k)=at' a k)/\(∀x:Int,(∀k:Nat,k<i+1->x%N≠q*k)->at' (o.set (((q:Int)*i)%N).toNat (at' a i)) x=0):=by
 have hNp:0<N:=by rw[hN];exact dI hq O
 have lt:∀k:Nat,k<n->((q:Int)*k)%N=q*k:=fun k hk=>by
  refine aT (bF O O) ?_;rw[hN,aI];exact ia O O
 refine⟨fun k hk=>?_,fun x hx=>?_⟩
 .rw[wx ho hNp]
  by_cases e:((q:Int)*k)%N=((q:Int)*i)%N
  .rw[aA e];rw[lt k O,lt i hi] at e;have:=aL O e;rw[show k=i by lia]
  .rw[ah e];have:k≠i:=fun z=>e (by rw[z]);exact h1 k O
 .rw[wx ho hNp,ah (by rw[lt i hi];exact hx i O)];exact h2 x fun k hk=>hx k O
def IB {o:ń}(ha:a.length=n)(hn:0<n)(hq:0<q)(ho:o.length=q*n)(h1:∀k:Nat,k<n->at' o ((q:Int)*k)=at' a k)(h2:∀x:Int,(∀k:Nat,k<n->x%((q*n:Nat):Int)≠q*k)->at' o x=0):o=fin a q:=by
 have hNp:0<q*n:=dI hq hn;refine By ho (by rw[oF,ha]) fun x=>?_;rw[ub O hq];have d:=BK (n:=n) hq (show x%((q*n:Nat):Int)=(x%((q*n:Nat):Int))%((q*n:Nat):Int) from (aX x (cq _)).symm);have y0:=aH x (show ((q*n:Nat):Int)≠0 by lia);have y1:=aF x (show (0:Int)<((q*n:Nat):Int) by lia);have px:=(m7 ho).md x;rw[d.1,m7 ha _ _ d.2,<-px];generalize x%((q*n:Nat):Int)=y at y0 y1
 by_cases z:y%q=0
 .obtain⟨k,rfl⟩:=ò z;have k0:0<=k:=by
   rcases ū k 0 with w | w
   .have:=Int.mul_neg_of_pos_of_neg (show (0:Int)<q by lia) w;lia
   .exact w
  have k1:k<n:=by
   rw[aI] at y1;exact Int.lt_of_mul_lt_mul_left y1 O
  rw[aA z,aC _ O];have:=h1 k.toNat O;rwa [cR k0] at this
 .rw[ah z];refine h2 y fun k hk e=>z ?_;rw[aT y0 y1] at e;rw[e,fR]
def yJ {B:Nat}(h:Bd B a)(hn:0<a.length)(hq:0<q):Bd B (fin a q):=Gn fun k _=>by
 rw[ub hn hq];split
 .exact rJ h _
 .exact dW _
end Ld
open Ld renaming fin→zbm, oF→zed
namespace Pl
def Yg {m p:Int}(hm:1<=m)(hp:2<=p):∀(k:Nat)(q:Int),(m-q).toNat=k->Pt.Bh m p q->∃q',Pt.EJ m p q':=by
 intro k
 induction k using ğ with
 | ind k ih =>
  intro q hk h
  by_cases d:m%(q*p)=0
  .have h1:=Pt.q1 hp h d;have g:=Pt.Ln hp h.pos;have l:=Pt.MX hm h1;exact ih _ lC _ Z h1
  .exact⟨q,Pt.q2 h d⟩
def DE {n:Int}(hn:1<=n):∃ps,zcs n ps:=by
 have go:∀(k:Nat)(ps:ľ)(left p:Int),(n+2-p).toNat=k->Pt.zH n ps left p->2<=p->1<=left->left<=n->∃ps,zcs n ps:=by
  intro k
  induction k using ğ with
  | ind k ih =>
   intro ps left p hk h p2 l1 ln
   by_cases c:p*p<=left
   .have pl:p<=left:=by have:=aB (show 1<=p by lia) (show 0<=p by lia);lia
    obtain⟨q,hq⟩:=Yg l1 p2 _ 1 Z (Pt.q0 left p)
    by_cases g:q > 1
    .have lp:=Pt.DK l1 hq.inv.dv hq.inv.pos;exact ih _ O _ _ (p+1) Z (Pt.JD p2 h hq g) O lp.1 O
    .exact ih _ O _ _ (p+1) Z (Pt.KU h hq g) O l1 ln
   .by_cases g:left > 1
    .exact⟨_,Pt.S7 p2 h c g⟩
    .exact⟨_,Pt.Q7 h l1 g⟩
 exact go _ [] n 2 Z (Pt.start n) O hn (eL _)
def ds (n:Nat):Nat->ń
 | 0=>[]
 | k+1=>ds n k++(if ((k:Int)+1)∣(n:Int) then [(k:Int)+1] else [])
noncomputable def pv (n:Nat)(AV:Int):Int:=(((ds n n).filter fun d=>decide (d∣AV)).map fun d=>d*Pt.mu (n/d)).sum
noncomputable def mk (n:Nat)(d:Int):Int×Int:=(d,d*Pt.mu (n/d))
def LH (F:ř):∀n:Nat,((ŭ n).map fun j:Nat=>F j).sum=zag n F
 | 0=>rfl
 | n+1=>by rw[iC,aQ,kU,LH F n];simp[zag]
end Pl
namespace Rs
variable {ps:ľ}{x:Int×Int}
open Pt (Parts tG oZ Row J5)
def Yz {a b t:Int}(h:Nat.Coprime a.natAbs b.natAbs)(ha:a∣t)(hb:b∣t):a*b∣t:=by
 rw[<-aU] at ha hb ⊢;rw[aR];exact Nat.Coprime.mul_dvd_of_dvd_of_dvd h ha hb
def tM {a b t:Int}(h:Nat.Coprime a.natAbs b.natAbs)(hd:a∣b*t):a∣t:=by
 rw[<-aU] at hd ⊢;rw[aR] at hd;exact fH h hd
def sH {p m:Int}(hp:oZ p)(h:¬p∣m)(e:Nat):Nat.Coprime (p^e).natAbs m.natAbs:=by
 rw[k7];exact jZ e (Pt.Nd hp h)
def ox {n:Int}(hp:Parts n ps)(hx:x∈ps):∃m,n=x.2*m/\n/x.2=m/\¬x.1∣m/\2<=x.2/\x.1∣x.2/\Nat.Coprime x.2.natAbs m.natAbs:=by
 obtain⟨m,e,nd,_⟩:=Pt.v8 hx hp.srt hp.row;rw[hp.prd] at e;have row:=hp.row x hx;obtain⟨k,hk⟩:=row.pw;have l:=Pt.vg row;refine⟨m,e,by rw[e];exact aC _ O,nd,O,by rw[hk,bj];exact fJ _ _,?_⟩;rw[hk];exact sH row.pr nd _
def BR {n:Int}(hp:Parts n ps)(hx:x∈ps):zdk (n/x.2) x.2=1:=by
 obtain⟨m,_,e,_,_,_,c⟩:=ox hp hx;rw[e];unfold zdk ż;rw[jM];have:ą x.2.natAbs m.natAbs=1:=c;rw[this];rfl
def Jl {y:Int×Int}(hx:Row x)(hy:Row y)(ne:x.1≠y.1):Nat.Coprime x.2.natAbs y.2.natAbs:=by
 obtain⟨k,hk⟩:=hx.pw;obtain⟨j,hj⟩:=hy.pw;rw[hk];refine sH hx.pr (fun d=>ne ?_) _;rw[hj] at d;exact Pt.uv hx.pr hy.pr _ d
def GH {t:Int}:∀{ps:ľ},(∀x∈ps,Row x)->ps.Pairwise (fun a b=>a.1<b.1)->(∀x∈ps,x.2∣t)->tG ps∣t
 | [],_,_,_=>g7 t
 | x::r,row,srt,h=>by
  have ⟨s1,s2⟩:=gK.mp srt;have ih:=GH (fun y hy=>row y (aq _ hy)) s2 (fun y hy=>h y (aq _ hy));have zh:∀{l:ľ},(∀y∈l,Row y/\x.1≠y.1)->Nat.Coprime x.2.natAbs (tG l).natAbs:=by
   intro l
   induction l with
   | nil=>intro _;simp[tG]
   | cons y l ih =>
    intro hl;have a:=hl y av;have b:=ih fun z hz=>hl z (aq _ hz);simp only[tG];rw[aR];exact Nat.Coprime.mul_right (Jl (row x av) a.1 a.2) b
  exact Yz (zh fun y hy=>⟨row y (aq _ hy),by have:=s1 y hy;lia⟩) (h x av) ih
def Do {n:Int}(hp:Parts n ps){y:Int×Int}(hx:x∈ps)(hy:y∈ps)(ne:x.1≠y.1):x.2∣n/y.2:=by
 obtain⟨m,e,e',_⟩:=ox hp hy;obtain⟨m',f,_⟩:=ox hp hx;rw[e'];refine tM (Jl (hp.row x hx) (hp.row y hy) ne) ?_;rw[<-e,f];exact dC _ _
structure Sh (n q hole c:Int):Prop where
 lo:0<=c
 hi:c<q
 dv:q∣c*(n/q)-hole
def vM {n q hole u:Int}(hq:0<q)(hu:(n/q*u-1)%q=0):Sh n q hole (hole*u%q):=by
 refine⟨aH _ O,aF _ hq,?_⟩;have d1:q∣hole*u-hole*u%q:=Ę;have d2:q∣n/q*u-1:=aY hu;have e:hole*u%q*(n/q)-hole=hole*(n/q*u-1)-(hole*u-hole*u%q)*(n/q):=by
  rw[cL,cZ,bX];have:hole*(n/q*u)=hole*u*(n/q):=by rw[aE,ay u]
  lia
 rw[e];exact bE (ax d2) (aD d1)
def yc {n q h h' c c':Int}(zh:Nat.Coprime q.natAbs (n/q).natAbs)(a:Sh n q h c)(b:Sh n q h' c')(e:q∣h-h'):c=c':=by
 have d:q∣n/q*(c-c'):=by
  have:=bY (bE a.dv b.dv) e;have z:c*(n/q)-h-(c'*(n/q)-h')+(h-h')=n/q*(c-c'):=by
   rw[cL,ay (n/q) c,ay (n/q) c'];lia
  rwa [z] at this
 have d':=tM zh d;have z:=aK.mpr (bB d');rwa [aT a.lo a.hi,aT b.lo b.hi] at z
def vq {n:Int}(hp:Parts n ps)(hx:x∈ps):Nat.Coprime x.2.natAbs (n/x.2).natAbs:=by
 obtain⟨m,_,e,_,_,_,c⟩:=ox hp hx;rw[e];exact c
def IZ (n:Int)(l:ĺ):Int:=(l.map fun z=>z.2*(n/z.1.2)).sum
def Ic {n:Int}(hp:zcs n ps):(ps.length:Int)<=n:=by
 have key:∀l:ľ,(∀x∈l,Pt.Row x)->(l.length:Int)<=zfd l:=by
  intro l
  induction l with
  | nil=>intro _;simp[zfd]
  | cons x r ih =>
   intro h;have a:=ih fun y hy=>h y (aq _ hy);have b:=Pt.vg (h x av);have c:=Pt.sI r fun y hy=>h y (aq _ hy);simp only[zfd,į];have:=ar (show 2<=x.2 by lia) (show 0<=zfd r by lia);lia
 have:=key ps hp.row;rwa [hp.prd] at this
end Rs
open Rs renaming vM→zem, ox→zen
namespace Eb
def BY {a b:Int}(ha:0<=a)(hb:b<=0):a*b<=0:=by
 have:=bF ha (show 0<=-b by lia);rw[gh] at this;lia
def Sg (x y z w:Int):Prop:=(0<=x/\y<=0/\z<=0/\0<=w)\/(x<=0/\0<=y/\0<=z/\w<=0)
def Sg.step {x y z w q:Int}(h:Sg x y z w)(hq:0<=q):Sg z w (x-q*z) (y-q*w):=by
 rcases h with ⟨a,b,c,d⟩ | ⟨a,b,c,d⟩
 .have:=BY hq c;have:=bF hq d;exact .inr ⟨c,d,O,O⟩
 .have:=bF hq c;have:=BY hq d;exact .inl ⟨c,d,O,O⟩
inductive Tn (A B:Int):Int->Int->Int->Int->Prop where
 | one:Tn A B 1 0 0 1
 | step {x y z w:Int}(q:Int):Tn A B x y z w->0<z*A+w*B->0<=(x-q*z)*A+(y-q*w)*B->(x-q*z)*A+(y-q*w)*B<z*A+w*B->0<=q->Tn A B z w (x-q*z) (y-q*w)
def Tn.sg {A B x y z w:Int}(h:Tn A B x y z w):Sg x y z w:=by
 induction h with
 | one=>exact .inl ⟨L,L,L,L⟩
 | step q _ _ _ _ hq ih=>exact ih.step hq
def Tn.le {A B x y z w:Int}(h:Tn A B x y z w):z*A+w*B<=B:=by
 induction h with
 | one=>lia
 | step q _ _ _ lt _ ih=>lia
def Tn.lt {A B x y z w:Int}(h:Tn A B x y z w)(ne:¬(x=1/\y=0/\z=0/\w=1)):z*A+w*B<B:=by
 cases h with
 | one=>exact absurd ⟨Z,Z,Z,Z⟩ ne
 | step q h _ _ lt _=>have:=h.le;lia
def Tn.pos {A B x y z w:Int}(h:Tn A B x y z w)(hA:0<=A)(hB:0<=B):0<=x*A+y*B/\0<=z*A+w*B:=by
 induction h with
 | one=>exact⟨O,O⟩
 | step q _ p n _ _ _=>exact⟨O,n⟩
structure St (one other r0 r1 c0 c1:Int):Prop where
 p0:0<=r0
 p1:0<=r1
 sg:(c0<=0/\0<=c1)\/(0<=c0/\c1<=0)
 m:∃m0 m1:Int,r0=m0*one+c0*other/\r1=m1*one+c1*other/\(m0*c1-m1*c0=1\/m0*c1-m1*c0=-1)
def St.start {one other:Int}(h1:0<=one)(h2:0<=other):St one other one other 0 1:=⟨h1,h2,.inl ⟨L,L⟩,1,0,O,O,.inl L⟩
def St.step {one other r0 r1 c0 c1 q:Int}(h:St one other r0 r1 c0 c1)(hq:0<=q)(p:0<=r0-q*r1):St one other r1 (r0-q*r1) c1 (c0-q*c1):=by
 obtain⟨p0,p1,sg,m0,m1,e0,e1,d⟩:=h;refine⟨p1,p,?_,m1,m0-q*m1,e1,by grind,?_⟩
 .rcases sg with ⟨a,b⟩ | ⟨a,b⟩
  .have:=bF hq b;exact .inr ⟨b,O⟩
  .have:=BY hq b;exact .inl ⟨b,O⟩
 .have e:m1*(c0-q*c1)-(m0-q*m1)*c1=-(m0*c1-m1*c0):=by grind
  rw[e];rcases d with d | d<;>rw[d]
  .exact .inr Z
  .exact .inl Z
def Tn.st {one other r0 r1 c0 c1 x y z w:Int}(t:Tn r0 r1 x y z w)(h:St one other r0 r1 c0 c1):St one other (x*r0+y*r1) (z*r0+w*r1) (x*c0+y*c1) (z*c0+w*c1):=by
 induction t with
 | one =>
  have e1:1*r0+0*r1=r0:=O;have e2:0*r0+1*r1=r1:=O;have e3:1*c0+0*c1=c0:=O;have e4:0*c0+1*c1=c1:=O;rw[e1,e2,e3,e4];exact h
 | @step x y z w q _ _ n _ hq ih =>
  have e1:(x-q*z)*r0+(y-q*w)*r1=(x*r0+y*r1)-q*(z*r0+w*r1):=by grind
  have e2:(x-q*z)*c0+(y-q*w)*c1=(x*c0+y*c1)-q*(z*c0+w*c1):=by grind
  rw[e1] at n ⊢;rw[e2];exact ih.step hq n
def St.Do {one other r0 r1 c0 c1:Int}(h:St one other r0 r1 c0 c1)(h1:0<=one):r0*c1.natAbs+r1*c0.natAbs=one:=by
 obtain⟨p0,p1,sg,m0,m1,e0,e1,d⟩:=h;have e:r0*c1-r1*c0=(m0*c1-m1*c0)*one:=by rw[e0,e1];grind
 rcases sg with ⟨a,b⟩ | ⟨a,b⟩
 .have k1:(c1.natAbs:Int)=c1:=O;have k0:(c0.natAbs:Int)=-c0:=O;rw[k1,k0,gh];have p2:=bF p0 b;have p3:=bF p1 (show 0<=-c0 by lia);rw[gh] at p3;rcases d with d | d<;>rw[d] at e<;>lia
 .have k1:(c1.natAbs:Int)=-c1:=O;have k0:(c0.natAbs:Int)=c0:=O;rw[k1,k0,gh];have p2:=bF p0 (show 0<=-c1 by lia);have p3:=bF p1 a;rw[gh] at p2;rcases d with d | d<;>rw[d] at e<;>lia
def err {u v α β H:Int}(h:(0<=u/\v<=0)\/(u<=0/\0<=v))(a0:0<=α)(a1:α<=H)(b0:0<=β)(b1:β<=H){d:Int}(du:(u.natAbs:Int)<=d)(dv:(v.natAbs:Int)<=d):-(d*H)<=u*α+v*β/\u*α+v*β<=d*H:=by
 have H0:0<=H:=O;have key:∀{x y:Int},0<=x->x<=d->0<=y->y<=H->x*y<=d*H:=fun hx hd hy hH=>df hd hH hy O;rcases h with ⟨a,b⟩ | ⟨a,b⟩
 .have k1:=key a O a0 a1;have k2:=key (show 0<=-v by lia) O b0 b1;have p1:=bF a a0;have p2:=bF (show 0<=-v by lia) b0;rw[j4] at k2 p2;lia
 .have k1:=key b O b0 b1;have k2:=key (show 0<=-u by lia) O a0 a1;have p1:=bF b b0;have p2:=bF (show 0<=-u by lia) a0;rw[j4] at k2 p2;lia
def sure {A B a b α β H x y z w:Int}(hH:1<=H)(eA:A=a*H+α)(eB:B=b*H+β)(a0:0<=α)(a1:α<H)(b0:0<=β)(b1:β<H)(t:Tn A B x y z w){q:Int}(hq:0<=q)
  (L0:0<z*A+w*B){d d':Int}(dx:((x-q*z).natAbs:Int)<=d)(dy:((y-q*w).natAbs:Int)<=d)(dz:(z.natAbs:Int)<=d')(dw:(w.natAbs:Int)<=d')
  (n1:d<(x-q*z)*a+(y-q*w)*b)(n2:d+d'<(z*a+w*b)-((x-q*z)*a+(y-q*w)*b)) :
  Tn A B z w (x-q*z) (y-q*w)/\H<=(x-q*z)*A+(y-q*w)*B:=by
 have s:=t.sg;have s2:=s.step hq;have d0:0<=d:=O;have d'0:0<=d':=O;have e1:=err (H:=H-1) (u:=x-q*z) (v:=y-q*w) (α:=α) (β:=β) (d:=d) (by rcases s2 with ⟨_,_,a,b⟩ | ⟨_,_,a,b⟩;exact .inr ⟨a,b⟩;exact .inl ⟨a,b⟩) a0 O b0 O dx dy;have e2:=err (H:=H-1) (u:=z) (v:=w) (α:=α) (β:=β) (d:=d') (by rcases s with ⟨_,_,a,b⟩ | ⟨_,_,a,b⟩;exact .inr ⟨a,b⟩;exact .inl ⟨a,b⟩) a0 O b0 O dz dw;have t1:(x-q*z)*A+(y-q*w)*B=((x-q*z)*a+(y-q*w)*b)*H+((x-q*z)*α+(y-q*w)*β):=by rw[eA,eB];grind
 have t2:z*A+w*B=(z*a+w*b)*H+(z*α+w*β):=by rw[eA,eB];grind
 generalize (x-q*z)*a+(y-q*w)*b=new at *;generalize z*a+w*b=ç at *;generalize (x-q*z)*α+(y-q*w)*β=s1 at *;generalize z*α+w*β=s2' at *;have m1:=ar (show d+1<=new by lia) (show 0<=H by lia);have m2:=ar (show d+d'+1<=ç-new by lia) (show 0<=H by lia);have x1:(d+1)*H=d*(H-1)+d+H:=by grind
 have x2:(d+d'+1)*H=d*(H-1)+d'*(H-1)+d+d'+H:=by grind
 rw[x1] at m1;rw[x2,cZ] at m2;have big:H<=(x-q*z)*A+(y-q*w)*B:=by rw[t1];lia
 exact⟨.step q t L0 O (by rw[t1,t2];lia) hq,big⟩
def MO {m c d:Int}(u v:Int)(e:m*u-v*c=1\/m*u-v*c=-1)(hm:d∣v)(hc:d∣u):d∣1:=by
 have:d∣m*u-v*c:=bE (ax hc) (aD hm);rcases e with e | e
 .rwa [e] at this
 .rw[e] at this;exact dZ.mp this
def St.TZ {one other r0 r1 c0 c1:Int}(h:St one other r0 r1 c0 c1)(h1:0<one){s t k:Int}(hs:0<s)(e:s*other=t+k*one)(zh:ż s t=1)
  (small:t.natAbs*c1.natAbs+s*r1<one):(c1=s/\r1=t)\/(c1=-s/\r1=-t):=by
 obtain⟨p0,p1,sg,m0,m1,e0,e1,d⟩:=h;have z1:s*r1-t*c1=(s*m1+c1*k)*one:=by
  have:s*r1=s*m1*one+c1*(s*other):=by rw[e1];grind
  rw[this,e];grind
 have ab:((s*r1-t*c1).natAbs:Int)<one:=by
  have a1:((s*r1-t*c1).natAbs:Int)<=(s*r1).natAbs+(t*c1).natAbs:=lC;have a2:((s*r1).natAbs:Int)=s*r1:=by have:=bF (show 0<=s by lia) p1;lia
  have a3:((t*c1).natAbs:Int)=t.natAbs*c1.natAbs:=by rw[aR,aI]
  lia
 have z2:s*m1+c1*k=0:=by
  rw[z1] at ab;rcases İ (s*m1+c1*k) 0 with g | g | g
  .have:=ar (show s*m1+c1*k<=-1 by lia) (show 0<=one by lia);lia
  .exact g
  .have:=ar (show 1<=s*m1+c1*k by lia) (show 0<=one by lia);lia
 rw[z2,aZ] at z1
 -- s divides c1
 have sd:s∣c1:=by
  have:s∣t*c1:=⟨r1,O⟩;have zbs:Nat.Coprime s.natAbs t.natAbs:=zh;have:=aU.mpr this;rw[aR] at this;exact aU.mp (zbs.dvd_of_dvd_mul_left this)
 obtain⟨f,hf⟩:=sd;have er:r1=t*f:=by
  refine aL (show s≠0 by lia) ?_;rw[hf] at z1;grind
 have em:m1=-(f*k):=by
  refine aL (show s≠0 by lia) ?_;rw[hf] at z2;grind
 have f1:f∣1:=MO (m:=m0) (c:=c0) c1 m1 d (by rw[em];exact dZ.mpr (dC ..)) (by rw[hf];exact fJ ..);have fb:=aU.mpr f1;have fle:=fG L fb;have f0:f≠0:=fun z=>by rw[z] at f1;have:=gS.mp f1;lia
 have:f=1\/f=-1:=by
  have:f.natAbs<=1:=fle;lia
 rcases this with z | z
 .left;rw[z,bX] at hf er;exact⟨hf,er⟩
 .right;rw[z] at hf er;exact⟨O,O⟩
def Tn.c0 {one other r0 r1 c0 c1 x y z w:Int}(t:Tn r0 r1 x y z w)(h:St one other r0 r1 c0 c1)(o1:0<=one)(p0:1<=r0)(ne:¬(x=1/\y=0/\z=0/\w=1)) :
  ((x*c0+y*c1).natAbs:Int)<=one/\1<=x*r0+y*r1/\x*r0+y*r1<=r1:=by
 cases t with
 | one=>exact absurd ⟨Z,Z,Z,Z⟩ ne
 | @step a b _ _ q t p n l hq =>
  have s:=t.st h;have c:=s.Do o1;have le:=t.le;refine⟨?_,O,lC⟩;have a1:1<=a*r0+b*r1:=by
   cases t with
   | one=>lia
   | step q t p n l hq=>lia
  have q1:=bF s.p1 (show (0:Int)<=(a*c0+b*c1).natAbs by lia);have q2:=ar a1 (show (0:Int)<=(x*c0+y*c1).natAbs by lia);lia
def St.c1 {one other r0 r1 c0 c1:Int}(h:St one other r0 r1 c0 c1)(o1:0<=one)(p0:1<=r0):(c1.natAbs:Int)<=one:=by
 have c:=h.Do o1;have q1:=bF h.p1 (show (0:Int)<=c0.natAbs by lia);have q2:=ar p0 (show (0:Int)<=c1.natAbs by lia);lia
def St.dvd {one other r0 r1 c0 c1:Int}(h:St one other r0 r1 c0 c1)(z:r1=0):r0∣one/\r0∣other:=by
 obtain⟨m0,m1,e0,e1,d⟩:=h.m;rw[z] at e1;constructor
 .rcases d with d | d
  .refine⟨c1,?_⟩;rw[e0];have:(m0*c1-m1*c0)*one=one:=by rw[d,cY]
   have e:c0*(m1*one+c1*other)=0:=by rw[<-e1,bi]
   grind
  .refine⟨-c1,?_⟩;rw[e0];have:(m0*c1-m1*c0)*one=-one:=by rw[d];lia
   have e:c0*(m1*one+c1*other)=0:=by rw[<-e1,bi]
   grind
 .rcases d with d | d
  .refine⟨-m1,?_⟩;rw[e0];have:(m0*c1-m1*c0)*other=other:=by rw[d,cY]
   have e:m0*(m1*one+c1*other)=0:=by rw[<-e1,bi]
   grind
  .refine⟨m1,?_⟩;rw[e0];have:(m0*c1-m1*c0)*other=-other:=by rw[d];lia
   have e:m0*(m1*one+c1*other)=0:=by rw[<-e1,bi]
   grind
def St.OY {one other r0 r1 c0 c1:Int}(h:St one other r0 r1 c0 c1)(lt:r1<one):c1≠0:=fun z=>by
 obtain⟨m0,m1,e0,e1,d⟩:=h.m;rw[z] at e1 d;have u:m1*c0=1\/m1*c0=-1:=lC;have m1u:m1=1\/m1=-1:=by
  have n:m1.natAbs*c0.natAbs=1:=by
   rw[<-aR];rcases u with u | u<;>rw[u]<;>rfl
  have:=Nat.eq_one_of_mul_eq_one_right n;lia
 have p1:=h.p1;rcases m1u with y | y<;>rw[y] at e1<;>lia
def St.back {n st c0 c1:Int}(h:St n (st%n) 1 0 c0 c1)(n1:1<=n):1<=(c0-1)%n+1/\(c0-1)%n+1<=n/\n∣st*((c0-1)%n+1)-1:=by
 have a:=aH (c0-1) (show n≠0 by lia);have b:=aF (c0-1) (show 0<n by lia);refine⟨O,O,?_⟩;obtain⟨m0,m1,e0,e1,d⟩:=h.m;have e:(c0-1)%n=c0-1-n*((c0-1)/n):=jO ..;have f:st%n=st-n*(st/n):=jO ..;rw[f] at e0;rw[e];refine⟨-m0+c0*(st/n)-st*((c0-1)/n),?_⟩;grind
end Eb
open Eb renaming St→zfo
namespace Lt
variable {one other:ń}{k:Nat}
abbrev g (v:ń)(i:Nat):Int:=v.getD i 0
def mix (one:ń)(a:Int)(other:ń)(b m:Int):ń:=ž (fun x y=>(x*a+y*b)%m) one other
def vN {K:Nat}(h1:one.length=K)(h2:other.length=K)(a b m:Int):(mix one a other b m).length=K:=by unfold mix;rw[List.length_zipWith,h1,h2,Nat.min_self]
def qV {K:Nat}(h1:one.length=K)(h2:other.length=K)(a b m:Int)(i:Nat):g (mix one a other b m) i=(g one i*a+g other i*b)%m:=by
 unfold g mix;rw[ak,ak,ak,cy]
 by_cases c:i<K
 .rw[az O,az O];rfl
 .rw[cF O,cF O];show (0:Int)=(0*a+0*b)%m
  rw[aZ,aZ,dL,fE]
def dt (k:Nat)(v:ń)(a:ř):Int:=zag k fun i=>g v i.toNat*a i
def pV {m:Int}{F G:ř}:∀{k:Nat},(∀i:Nat,i<k->m∣F i-G i)->m∣zag k F-zag k G
 | 0,_=>by show m∣(0:Int)-0;exact bx _
 | k+1,h=>by
  have a:=pV (k:=k) fun i hi=>h i (bT hi);have b:=h k (bQ k);show m∣(zag k F+F k)-(zag k G+G k)
  rw[show (zag k F+F k)-(zag k G+G k)=(zag k F-zag k G)+(F k-G k) by lia];exact bY a b
def p4 {m x y:Int}(h:m∣x-y):m∣x↔m∣y:=by
 constructor
 .intro d;have:=bE d h;rwa [show x-(x-y)=y by lia] at this
 .intro d;have:=bY d h;rwa [show y+(x-y)=x by lia] at this
def nF (x m:Int):m∣x%m-x:=by
 have:=bU x m;exact⟨-(x/m),by rw[gh];lia⟩
def Bu {K:Nat}(h1:one.length=K)(h2:other.length=K)(a b m:Int)(k:Nat)(w:ř):m∣dt k (mix one a other b m) w-(a*dt k one w+b*dt k other w):=by
 have e:a*dt k one w+b*dt k other w=zag k fun i=>a*(g one i.toNat*w i)+b*(g other i.toNat*w i):=by
  unfold dt;rw[zca,zbk,zbk]
 rw[e];refine pV fun i _=>?_;rw[qV h1 h2];obtain⟨z,hz⟩:=nF (g one (i:Int).toNat*a+g other (i:Int).toNat*b) m;refine⟨z*w i,?_⟩;have:(g one (i:Int).toNat*a+g other (i:Int).toNat*b)%m=m*z+(g one (i:Int).toNat*a+g other (i:Int).toNat*b):=O;rw[this];grind
inductive Ent (m:Int):Nat->ĸ->ń->ĸ->Prop where
 | nil {c:Nat}{left:ń}:Ent m c [] left []
 | skip {c:Nat}{l left:ń}{ls ls':ĸ}:g left c=0->Ent m (c+1) ls left ls'->Ent m c (l::ls) left (l::ls')
 | mix {c:Nat}{l left:ń}{ls ls':ĸ}(α β G:Int):g left c≠0->1<=G->G∣g l c->G∣g left c->α*g l c+β*g left c=G ->
   Ent m (c+1) ls (mix left (g l c/G) l (-(g left c/G)) m) ls'->Ent m c (l::ls) left (mix l α left β m::ls')
def Ev (m:Int)(K:Nat):Nat->ĸ->Prop
 | _,[]=>jd
 | c,l::ls=>(l.length=K/\(∀i,i<c->g l i=0)/\1<=g l c/\g l c∣m)/\Ev m K (c+1) ls
structure Lf (m:Int)(K c:Nat)(left:ń):Prop where
 len:left.length=K
 zero:∀i,i<c->g left i=0
 CD:∀i,0<=g left i/\g left i<m
def Lf.next {m:Int}{K c:Nat}{left:ń}(h:Lf m K c left)(z:g left c=0):Lf m K (c+1) left :=
 ⟨h.len,fun i hi=>(by rcases ť.mp hi with y | y;exact h.zero i y;rw[y];exact z),h.CD⟩
def Lf.mixed {m:Int}(hm:1<=m){K c:Nat}{l left:ń}(h:Lf m K c left)(ll:l.length=K)(lz:∀i,i<c->g l i=0){G:Int}(hG:1<=G)(d1:G∣g l c)(d2:G∣g left c):Lf m K (c+1) (mix left (g l c/G) l (-(g left c/G)) m):=by
 refine⟨vN h.len ll _ _ _,fun i hi=>?_,fun i=>?_⟩
 .rw[qV h.len ll];rcases ť.mp hi with y | y
  .rw[h.zero i y,lz i y,aZ,aZ,dL,fE]
  .rw[y];obtain⟨x,hx⟩:=d1;obtain⟨z,hz⟩:=d2;have:g left c*(g l c/G)+g l c * -(g left c/G)=0:=by
    rw[hx,hz,aC _ O,aC _ O];grind
   rw[this,fE]
 .rw[qV h.len ll];exact⟨aH _ O,aF _ O⟩
def Ent.E6 {m:Int}(hm:1<=m){K:Nat}:∀{c:Nat}{ls:ĸ}{left:ń}{ls':ĸ},Ent m c ls left ls'->Ev m K c ls->Lf m K c left->Ev m K c ls'/\ls'.length=ls.length:=by
 intro c ls left ls' h
 induction h with
 | nil=>intro _ _;exact⟨trivial,Z⟩
 | skip z _ ih =>
  intro t f;have:=ih t.2 (f.next z);exact⟨⟨t.1,this.1⟩,by rw[bJ,bJ,this.2]⟩
 | @mix c l left ls ls' α β G nz G1 d1 d2 e _ ih =>
  intro t f;obtain⟨⟨ll,lz,l1,lm⟩,t2⟩:=t;have:=ih t2 (f.mixed hm ll lz G1 d1 d2);have rg:=f.CD c;have Gle:G<=g left c:=aW O d2;refine⟨⟨⟨vN ll f.len _ _ _,fun i hi=>?_,?_,?_⟩,this.1⟩,by rw[bJ,bJ,this.2]⟩
  .rw[qV ll f.len,lz i hi,f.zero i hi,aZ,aZ,dL,fE]
  .rw[qV ll f.len,show g l c*α+g left c*β=G by rw[ay,ay (g left c)];exact e,aT O O];exact G1
  .rw[qV ll f.len,show g l c*α+g left c*β=G by rw[ay,ay (g left c)];exact e,aT O O];exact bu d1 lm
def Hj (m:Int)(k:Nat)(a:ř)(ls:ĸ):Prop:=∀l∈ls,m∣dt k l a
def back {m:Int}{K:Nat}{l left:ń}(ll:l.length=K)(fl:left.length=K){α β x d:Int}(e:α*d+β*x=1)(a:ř)
 (h1:m∣dt k (mix l α left β m) a)(h2:m∣dt k (mix left d l (-x) m) a):m∣dt k l a/\m∣dt k left a:=by
  have a1:=(p4 (Bu ll fl α β m k a)).mp h1;have a2:=(p4 (Bu fl ll d (-x) m k a)).mp h2;generalize dt k l a=u at *;generalize dt k left a=v at *;constructor
  · have b1:m∣d*(α*u+β*v):=ax a1
    have b2:m∣β*(d*v + -x*u):=ax a2;have:=bE b1 b2;rwa [show d*(α*u+β*v)-β*(d*v + -x*u)=(α*d+β*x)*u by grind,e,Int.one_mul] at this
  · have b1:m∣x*(α*u+β*v):=ax a1
    have b2:m∣α*(d*v + -x*u):=ax a2;have:=bY b1 b2;rwa [show x*(α*u+β*v)+α*(d*v + -x*u)=(α*d+β*x)*v by grind,e,Int.one_mul] at this
def FE {α β G u v:Int}(hG:1<=G)(d1:G∣u)(d2:G∣v)(e:α*u+β*v=G):α*(u/G)+β*(v/G)=1:=by
 obtain⟨x,rfl⟩:=d1;obtain⟨y,rfl⟩:=d2;rw[aC _ O,aC _ O];refine aL (show G≠0 by lia) ?_;rw[bX];have:G*(α*x+β*y)=α*(G*x)+β*(G*y):=by grind
 rw[this];exact e
def Od {v:ń}(h:∀i,i<k->g v i=0)(a:ř):dt k v a=0:=by
 unfold dt;rw[zbc (G:=fun _=>0) fun i hi=>by rw[ae,h i hi,aZ]];exact zdh k
def Ent.kill {m:Int}(hm:1<=m){K:Nat}(a:ř):∀{c:Nat}{ls:ĸ}{left:ń}{ls':ĸ},Ent m c ls left ls'->Ev m K c ls->Lf m K c left->c+ls.length=k->Hj m k a ls'->Hj m k a ls/\m∣dt k left a:=by
 intro c ls left ls' h
 induction h with
 | nil =>
  intro _ f e _;refine⟨fun l hl=>(nomatch hl),?_⟩;rw[Od (fun i hi=>f.zero i (by simp at e;lia)) a];exact Int.dvd_zero _
 | @skip c l left ls ls' z _ ih =>
  intro t f e kl;have:=ih t.2 (f.next z) (by rw[bJ] at e;lia) fun y hy=>kl y (aq _ hy);refine⟨fun y hy=>?_,this.2⟩;rcases ũ.mp hy with w | w
  .rw[w];exact kl l av
  .exact this.1 y w
 | @mix c l left ls ls' α β G nz G1 d1 d2 eb _ ih =>
  intro t f e kl;obtain⟨⟨ll,lz,l1,lm⟩,t2⟩:=t;have r:=ih t2 (f.mixed hm ll lz G1 d1 d2) (by rw[bJ] at e;lia) fun y hy=>kl y (aq _ hy);have b:=back (k:=k) ll f.len (FE G1 d1 d2 eb) a (kl _ av) r.2;refine⟨fun y hy=>?_,b.2⟩;rcases ũ.mp hy with w | w
  .rw[w];exact b.1
  .exact r.1 y w
def ML (m:Int)(k:Nat):Nat->ĸ->Prop
 | _,[]=>jd
 | c,l::ls=>(∀a:Int->Int,Hj m k a ls->m∣m/g l c*dt k l a)/\ML m k (c+1) ls
def Ent.how {m:Int}(hm:1<=m){K:Nat}:∀{c:Nat}{ls:ĸ}{left:ń}{ls':ĸ},Ent m c ls left ls'->Ev m K c ls->Lf m K c left->c+ls.length=k->ML m k c ls->ML m k c ls':=by
 intro c ls left ls' h
 induction h with
 | nil=>intro _ _ _ _;trivial
 | @skip c l left ls ls' z en ih =>
  intro t f e hw;refine⟨fun a kl=>?_,ih t.2 (f.next z) (by rw[bJ] at e;lia) hw.2⟩;exact hw.1 a (en.kill hm a t.2 (f.next z) (by rw[bJ] at e;lia) kl).1
 | @mix c l left ls ls' α β G nz G1 d1 d2 eb en ih =>
  intro t f e hw;obtain⟨⟨ll,lz,l1,lm⟩,t2⟩:=t;have f2:=f.mixed hm ll lz G1 d1 d2;have e2:c+1+ls.length=k:=by rw[bJ] at e;lia
  refine⟨fun a kl=>?_,ih t2 f2 e2 hw.2⟩;obtain⟨k1,k2⟩:=en.kill hm a t2 f2 e2 kl;have o:=hw.1 a k1;have rg:=f.CD c;have Gle:G<=g left c:=aW O d2;have eG:g (Lt.mix l α left β m) c=G:=by
   rw[qV ll f.len,show g l c*α+g left c*β=G by rw[ay,ay (g left c)];exact eb,aT O O]
  rw[eG];have q1:=Bu ll f.len α β m k a;have q2:=(p4 (Bu f.len ll (g l c/G) (-(g left c/G)) m k a)).mp k2;have bz:=FE G1 d1 d2 eb;obtain⟨d,hd⟩:=d1;obtain⟨x,hx⟩:=d2;obtain⟨r,hr⟩:=lm;have dG:g l c/G=d:=by rw[hd];exact aC _ O
  have xG:g left c/G=x:=by rw[hx];exact aC _ O
  have mr:m/g l c=r:=by rw[hr];exact aC _ O
  have mG:m/G=d*r:=by
   rw[hr,hd,aE];exact aC _ O
  rw[dG,xG] at q2 bz;rw[mr] at o;rw[mG];have q3:m∣d*r*(dt k (Lt.mix l α left β m) a-(α*dt k l a+β*dt k left a)):=ax q1;generalize dt k (Lt.mix l α left β m) a=n at *;generalize dt k l a=u at *;generalize dt k left a=v at *;have q4:m∣r*β*(d*v + -x*u):=ax q2;have:=bY (bY q3 q4) o;have ee:d*r*(n-(α*u+β*v))+r*β*(d*v + -x*u)+r*u=d*r*n+r*u*(1-(α*d+β*x)):=by grind
  rw[ee,bz,cG,bi,dL] at this;exact this
end Lt
open Lt renaming g→zbh, nF→zds, mix→zeo, pV→zff, dt→zfl
namespace Mx
variable {M:ŗ}
open Lt (pV p4 nF)
def vT {m:Int}{F:ř}:∀{k:Nat},(∀i:Nat,i<k->m∣F i)->m∣zag k F
 | 0,_=>bx _
 | k+1,h=>bY (vT (k:=k) fun i hi=>h i (bT hi)) (h k (bQ k))
def xz (p:Int)(k:Nat)(M:ŗ):Prop:=∀y:Int->Int,(∀t:Nat,t<k->p∣zag k fun s=>y s*M s t)->∀s:Nat,s<k->p∣y s
def qk {p a b:Int}(hp:zbn p)(h:p∣a*b)(na:¬p∣a):p∣b:=by
 have c:=Pt.Nd hp na;have h1:=aU.mpr h;rw[aR] at h1;exact aU.mp (fH c h1)
def xz.snoc {p:Int}(hp:zbn p){k:Nat}(h:xz p k M){x:ř}(z:∀t:Nat,t<k->p∣M k t-zag k fun s=>x s*M s t)(nz:¬p∣M k k-zag k fun s=>x s*M s k):xz p (k+1) M:=fun y hy=>by
 have e:∀t:Int,(zag (k+1) fun s=>y s*M s t)=(zag k fun s=>(y s+y k*x s)*M s t)+y k*(M k t-zag k fun s=>x s*M s t):=fun t=>by
  show (zag k fun s=>y s*M s t)+y k*M k t=_
  have:(zag k fun s=>(y s+y k*x s)*M s t)=(zag k fun s=>y s*M s t)+y k*(zag k fun s=>x s*M s t):=by
   rw[<-zbk,<-zca];exact zbc fun s _=>by grind
  rw[this];grind
 have h1:=h (fun s=>y s+y k*x s) fun t ht=>by
  have a:=hy t (bT ht);rw[e] at a;have b:p∣y k*(M k t-zag k fun s=>x s*M s t):=ax (z t ht);have:=bE a b;rwa [show ∀u v:Int,u+v-v=u from fun u v=>by lia] at this
 have yk:p∣y k:=by
  have a:=hy k (bQ k);rw[e] at a;have b:p∣zag k fun s=>(y s+y k*x s)*M s k:=vT fun s hs=>aD (h1 s hs);have c:=bE a b;rw[show ∀u v:Int,u+v-u=v from fun u v=>by lia,ay] at c;exact qk hp c nz
 intro s hs;rcases ť.mp hs with q | q
 .have a:=h1 s q;have b:p∣y k*x s:=aD yk;have:=bE a b;rwa [show y s+y k*x s-y k*x s=y s by lia] at this
 .rw[q];exact yk
def xz.zero (p:Int)(M:ŗ):xz p 0 M:=fun y _ s hs=>absurd hs (bS _)
def xz.pow {p:Int}(p1:1<=p){k:Nat}{M:ŗ}(h:xz p k M):∀(e:Nat)(y:ř),(∀t:Nat,t<k->p^e∣zag k fun s=>y s*M s t)->∀s:Nat,s<k->p^e∣y s
 | 0,y,_,s,_=>by rw[eU];exact g7 _
 | e+1,y,hy,s,hs=>by
  have y1:=h y fun t ht=>bu ⟨p^e,by rw[bj,ay]⟩ (hy t ht)
  -- y is p times Sk
  have q:∀s:Nat,s<k->y s=p*(y s/p):=fun s hs=>(b8 (y1 s hs)).symm;have r:=xz.pow p1 h e (fun s=>y s/p) (fun t ht=>by
   obtain⟨c,hc⟩:=hy t ht;have e1:(zag k fun s=>y s*M s t)=p*zag k fun s=>y s/p*M s t:=by
    rw[<-zbk];refine zbc fun s hs=>?_;rw[<-aE,<-q s hs]
   rw[e1] at hc;refine⟨c,aL (show p≠0 by lia) ?_⟩;rw[hc,bj];grind) s hs
  obtain⟨c,hc⟩:=r;refine⟨c,?_⟩;rw[q s hs,hc,bj];grind
def LI (m:Int)(k:Nat)(U M:ŗ):Prop:=∀i j:Nat,i<k->j<k->m∣(zag k fun t=>U i t*M t j)-if i=j then 1 else 0
def n6 {k:Nat}{F:ř}{j:Nat}(hj:j<k):(zag k fun t=>F t*if t=(j:Int) then 1 else 0)=F j:=by
 have:(zag k fun t=>F t*if t=(j:Int) then 1 else 0)=zag k fun t=>if t=(j:Int) then F t else 0:=zbc fun t _=>by
  by_cases c:(t:Int)=j
  .rw[aA c,aA c,bX]
  .rw[ah c,ah c,bi]
 rw[this,Ld.vn O,aA O]
def LI.right {p:Int}(p1:1<=p){e k:Nat}{U:ŗ}(h:LI (p^e) k U M)(ind:xz p k M):∀i j:Nat,i<k->j<k->p^e∣(zag k fun t=>M i t*U t j)-if i=j then 1 else 0:=fun i j hi hj=>by
 have key:∀t:Nat,t<k->p^e∣zag k fun s=>((zag k fun u=>M i u*U u s)-if (i:Int)=s then 1 else 0)*M s t:=fun t ht=>by
  -- (M U-1) M=M (U M)-M
  have e1:(zag k fun s=>((zag k fun u=>M i u*U u s)-if (i:Int)=s then 1 else 0)*M s t)=(zag k fun u=>M i u*zag k fun s=>U u s*M s t)-M i t:=by
   have a1:(zag k fun s=>((zag k fun u=>M i u*U u s)-if (i:Int)=s then 1 else 0)*M s t)=(zag k fun s=>zag k fun u=>M i u*(U u s*M s t))+zag k fun s=>-1*(M s t*if s=(i:Int) then 1 else 0):=by
    rw[<-zca];refine zbc fun s _=>?_;rw[cZ,<-zec];have:(zag k fun u=>M i u*U u s*M s t)=zag k fun u=>M i u*(U u s*M s t):=zbc fun u _=>aE ..;rw[this]
    by_cases c:(s:Int)=i
    .rw[aA c.symm,aA c];lia
    .rw[ah (fun z=>c z.symm),ah c];lia
   rw[a1,zdf,zbk,n6 hi];have:(zag k fun u=>zag k fun s=>M i u*(U u s*M s t))=zag k fun u=>M i u*zag k fun s=>U u s*M s t:=zbc fun u _=>by rw[zbk]
   rw[this];lia
  rw[e1];have e2:M i t=zag k fun u=>M i u*if u=(t:Int) then 1 else 0:=(n6 ht).symm;rw[e2];refine pV fun u hu=>?_;rw[<-cL];refine ax ?_;have:=h u t hu ht
  by_cases c:u=t
  .rw[aA c] at this;rw[aA O];exact this
  .rw[ah c] at this;rw[ah O];exact this
 have z:p^e∣(zag k fun t=>M i t*U t j)-if (i:Int)=j then 1 else 0:=ind.pow p1 e (fun s=>(zag k fun u=>M i u*U u s)-if (i:Int)=s then 1 else 0) key j hj
 by_cases c:i=j
 .rw[aA c];rwa [aA O] at z
 .rw[ah c];rwa [ah O] at z
end Mx
namespace Pg
def yj:∀{M N:Nat}(f:Nat->Nat),M<N->(∀i,i<N->f i<M)->∃i j,i<j/\j<N/\f i=f j
 | 0,N,f,h,lt=>absurd (lt 0 h) (bS _)
 | M+1,0,f,h,lt=>absurd h (bS _)
 | M+1,N+1,f,h,lt=>by
  -- the value of the last one is taken out
  by_cases c:∃i,i<N/\f i=f N
  .obtain⟨i,hi,e⟩:=c;exact⟨i,N,hi,bQ N,e⟩
  .let g:Nat->Nat:=fun i=>if f i=M then f N else f i
   have gl:∀i,i<N->g i<M:=fun i hi=>by
    have a:=lt i (bT hi);have b:=lt N (bQ N);show (if f i=M then f N else f i)<M
    by_cases z:f i=M
    .rw[aA z];have:f N≠M:=fun y=>c ⟨i,hi,z.trans y.symm⟩;lia
    .rw[ah z];lia
   obtain⟨i,j,ij,jN,e⟩:=yj g (show M<N by lia) gl;refine⟨i,j,ij,bT jN,?_⟩;have e':(if f i=M then f N else f i)=if f j=M then f N else f j:=e
   by_cases zi:f i=M
   .by_cases zj:f j=M
    .rw[zi,zj]
    .rw[aA zi,ah zj] at e';exact absurd ⟨j,jN,e'.symm⟩ c
   .by_cases zj:f j=M
    .rw[ah zi,aA zj] at e';exact absurd ⟨i,jK ij jN,e'⟩ c
    .rwa [ah zi,ah zj] at e'
def least {P:Nat->Prop}:∀{n:Nat},P n->∃k,P k/\∀j,j<k->¬P j:=by
 intro n
 induction n using ğ with
 | ind n ih =>
  intro h
  by_cases c:∃j,j<n/\P j
  .obtain⟨j,jn,hj⟩:=c;exact ih j jn hj
  .exact⟨n,h,fun j jn hj=>c ⟨j,jn,hj⟩⟩
def sq (N:Nat):Nat->Nat->Nat
 | 0,x=>x
 | k+1,x=>sq N k (x*x%N)
end Pg
namespace Sg
def enc (R:Nat):Nat->(Nat->Nat)->Nat
 | 0,_=>0
 | k+1,e=>enc R k e+R^k*e k
def v9 {R:Nat}{e:Nat->Nat}:∀{k:Nat},(∀i,i<k->e i<R)->enc R k e<R^k
 | 0,_=>by rw[iX];exact Ą
 | k+1,h=>by
  have a:=v9 (k:=k) fun i hi=>h i (bT hi);have b:=dY (R^k) (show e k+1<=R from h k (bQ k));show enc R k e+R^k*e k<R^(k+1)
  rw[dX];rw[Nat.mul_succ] at b;omega
def xV {R:Nat}{e f:Nat->Nat}:∀{k:Nat},(∀i,i<k->e i<R)->(∀i,i<k->f i<R)->enc R k e=enc R k f->∀i,i<k->e i=f i
 | 0,_,_,_,i,hi=>absurd hi (bS _)
 | k+1,he,hf,h,i,hi=>by
  have a:=v9 (k:=k) fun i hi=>he i (bT hi);have b:=v9 (k:=k) fun i hi=>hf i (bT hi);have p:0<R^k:=lC;have h':enc R k e+R^k*e k=enc R k f+R^k*f k:=h;have ek:e k=f k:=by
   have:(enc R k e+R^k*e k)/R^k=(enc R k f+R^k*f k)/R^k:=by rw[h']
   rwa [j5 _ _ p,j5 _ _ p,kK a,kK b,eV,eV] at this
  rcases ť.mp hi with z | z
  .refine xV (k:=k) (fun i hi=>he i (bT hi)) (fun i hi=>hf i (bT hi)) ?_ i z;rw[ek] at h';lia
  .rw[z];exact ek
def dig (b n j:Nat):Nat:=n/b^j%b
def BJ {b:Nat}(hb:0<b):∀{k n m:Nat},n<b^k->m<b^k->(∀j,j<k->dig b n j=dig b m j)->n=m
 | 0,n,m,hn,hm,_=>by rw[iX] at hn hm;lia
 | k+1,n,m,hn,hm,h=>by
  have h0:=h 0 (jP k);unfold dig at h0;rw[iX,Nat.div_one,Nat.div_one] at h0;have h1:n/b=m/b:=by
   refine BJ hb (k:=k) ?_ ?_ fun j hj=>?_
   .rw[dX,dJ] at hn;exact iH hn
   .rw[dX,dJ] at hm;exact iH hm
   .have:=h (j+1) (kL hj);unfold dig at this ⊢;rw[jQ,jQ,dJ b,<-dX];exact this
  rw[<-iD n b,<-iD m b,h0,h1]
def zT {F:ř}{B:Nat}:∀{m:Nat},(∀j:Nat,j<m->(F j).natAbs<=B)->(zag m F).natAbs<=m*B
 | 0,_=>by simp[zag]
 | m+1,h=>by
  have a:=zT (m:=m) fun j hj=>h j (bT hj);have b:=h m (bQ m);show (zag m F+F m).natAbs<=(m+1)*B
  rw[fv];omega
def wg (k C:Nat):Nat:=(2*((k+1)*C)+1)^k
def QU (k C:Nat)(hC:1<=C)(a:Nat->Int->Int)(ha:∀i j:Nat,i<k->j<k+1->(a i j).natAbs<=C) :
  ∃x:Int->Int,(∃j:Nat,j<k+1/\x j≠0)/\(∀j:Nat,(x j).natAbs<=wg k C)/\∀i,i<k->zag (k+1) (fun j=>a i j*x j)=0:=by
 obtain⟨T,hT⟩:∃T,T=wg k C:=⟨_,Z⟩;have T1:1<=T:=by rw[hT];unfold wg;exact Nat.pow_pos O
 obtain⟨S,hS⟩:∃S,S=(k+1)*C*T:=⟨_,Z⟩
 let v:Nat->Int->Int:=fun n j=>(dig (T+1) n j.toNat:Nat)
 let zog:Nat->Nat->Int:=fun n i=>zag (k+1) fun j=>a i j*v n j
 have vb:∀n (j:Nat),0<=v n j/\(v n j).natAbs<=T:=fun n j=>by
  have:dig (T+1) n (j:Int).toNat<T+1:=iA _ O;show 0<=((dig (T+1) n (j:Int).toNat:Nat):Int)/\(((dig (T+1) n (j:Int).toNat:Nat):Int)).natAbs<=T
  omega
 have Lb:∀n i,i<k->(zog n i).natAbs<=S:=fun n i hi=>by
  rw[hS,iu];refine zT fun j hj=>?_;rw[aR];exact cU (ha i j hi hj) (vb n j).2
 let e:Nat->Nat->Nat:=fun n i=>(zog n i+S).toNat
 have eb:∀n i,i<k->e n i<2*S+1:=fun n i hi=>by
  have:=Lb n i hi;show (zog n i+S).toNat<2*S+1
  omega
 have ë:(2*S+1)^k<(T+1)^(k+1):=by
  have h1:2*S+1<=(2*((k+1)*C)+1)*T:=by
   rw[hS];generalize (k+1)*C=D;rw[Nat.add_mul,gO,iu];lia
  have h2:=iO h1 k;rw[Nat.mul_pow] at h2;have h3:(2*((k+1)*C)+1)^k=T:=by rw[hT];rfl
  rw[h3] at h2;have h4:T*T^k=T^(k+1):=by rw[dX,dJ]
  rw[h4] at h2;exact bL h2 (j7 (bQ T) O)
 obtain⟨p,q,pq,qN,eq⟩:=Pg.yj (fun n=>enc (2*S+1) k (e n)) ë fun n _=>v9 (eb n);have same:=xV (eb p) (eb q) eq;refine⟨fun j=>v p j-v q j,?_,fun j=>?_,fun i hi=>?_⟩
 .by_cases c:∃j:Nat,j<k+1/\v p j-v q j≠0
  .exact c
  .exfalso;have:p=q:=BJ (b:=T+1) (jP T) (jK pq qN) qN fun j hj=>by
    have z:v p j-v q j=0:=by
     by_cases y:v p j-v q j=0
     .exact y
     .exact absurd ⟨j,hj,y⟩ c
    have z':((dig (T+1) p (j:Int).toNat:Nat):Int)-((dig (T+1) q (j:Int).toNat:Nat):Int)=0:=z;rw[ae] at z';lia
   omega
 .have a1:=vb p j;have a2:=vb q j;rw[<-hT];show (v p j-v q j).natAbs<=T
  lia
 .have s:=same i hi;have l1:=Lb p i hi;have l2:=Lb q i hi;have s':(zog p i+S).toNat=(zog q i+S).toNat:=s;have ll:zog p i=zog q i:=lC;have e1:(zag (k+1) fun j=>a i j*(v p j-v q j))=zag (k+1) fun j=>a i j*v p j + -1*(a i j*v q j):=zbc fun j _=>by rw[cL];lia
  rw[e1,zca,zbk];show zog p i + -1*zog q i=0
  lia
end Sg
open Sg renaming dig→zbp, wg→zcp
namespace Mx
variable {p:Int}{k:Nat}{R M:ŗ}
def CI (p:Int)(k:Nat)(R:ŗ):Prop:=∀y:Int->Int,(∀i:Nat,i<k->p∣zag k fun t=>R i t*y t)->∀t:Nat,t<k->p∣y t
def CI.ind (h:CI p k R):xz p k (fun s t=>R t s):=fun y hy t ht=>h y (fun i hi=>by
 have:=hy i hi;rwa [zbc (G:=fun t=>R i t*y t) fun t _=>ay ..] at this) t ht
def xz.ci (h:xz p k M):CI p k (fun s t=>M t s):=fun y hy t ht=>h y (fun i hi=>by
 have:=hy i hi;rwa [zbc (G:=fun t=>y t*M t i) fun t _=>ay ..] at this) t ht
def CI.pow {p:Int}(p1:1<=p){k:Nat}{R:ŗ}(h:CI p k R)(e:Nat){y:ř}(hy:∀i:Nat,i<k->p^e∣zag k fun t=>R i t*y t):∀t:Nat,t<k->p^e∣y t :=
 h.ind.pow p1 e y fun i hi=>by
  have:=hy i hi;rwa [zbc (G:=fun t=>y t*R i t) fun t _=>ay ..] at this
def LI.ci {m:Int}{U:ŗ}(h:LI m k U M)(pm:p∣m):CI p k M:=fun y hy t ht=>by
 have e1:p∣zag k fun i=>U t i*zag k fun j=>M i j*y j:=vT fun i hi=>ax (hy i hi);have e2:(zag k fun i=>U t i*zag k fun j=>M i j*y j)=zag k fun j=>y j*zag k fun i=>U t i*M i j:=by
  have a:(zag k fun i=>U t i*zag k fun j=>M i j*y j)=zag k fun i=>zag k fun j=>y j*(U t i*M i j):=zbc fun i _=>by
   rw[<-zbk];exact zbc fun j _=>by grind
  rw[a,zdf];exact zbc fun j _=>by rw[zbk]
 rw[e2] at e1;have e3:p∣(zag k fun j=>y j*zag k fun i=>U t i*M i j)-zag k fun j=>y j*if j=(t:Int) then 1 else 0:=zff fun j hj=>by
  rw[<-cL];refine ax (bu pm ?_);have:=h t j ht hj
  by_cases c:t=j
  .rw[aA c] at this;rw[aA O];exact this
  .rw[ah c] at this;rw[ah O];exact this
 rw[n6 ht] at e3;exact(Lt.p4 e3).mp e1
def BF {p:Int}(p2:2<=p):∀e:Nat,(e:Int)<p^e
 | 0=>by rw[eU];decide
 | e+1=>by
  have a:=BF p2 e;have b:=aB p2 (show 0<=p^e by lia);rw[bj];lia
def CI.inj (p2:2<=p)(h:CI p k R){y:ř}(hy:∀i:Nat,i<k->(zag k fun t=>R i t*y t)=0)(t:Nat)(ht:t<k):y t=0:=by
 have d:=h.pow O (y t).natAbs (fun i hi=>by rw[hy i hi];exact bx _) t ht;have b:=BF p2 (y t).natAbs
 by_cases z:y t=0
 .exact z
 .have:=aW (show (0:Int)<(y t).natAbs by lia) (ib.mpr d);lia
def Bb (hp:zbn p){C:Nat}(hC:1<=C){ê:ř}(ci:CI p k R)(hR:∀i t:Nat,i<k->t<k->(R i t).natAbs<=C)(hg:∀i:Nat,i<k->(ê i).natAbs<=C) :
  ∃(x:ř)(s:Int),0<s/\¬p∣s/\(∀i:Nat,i<k->(zag k fun t=>R i t*x t)=s*ê i)/\(∀t:Nat,t<k->(x t).natAbs<=zcp k C)/\s<=zcp k C/\∀d:Int,d∣s->(∀t:Nat,t<k->d∣x t)->d∣1:=by
 have p2:=hp.1;obtain⟨z,⟨j,hj,zj⟩,zb,ze⟩:=Sg.QU k C hC (fun i j=>if j<k then R i j else -ê i) fun i j hi hj=>by
  show (if (j:Int)<k then R i j else -ê i).natAbs<=C
  by_cases c:(j:Int)<k
  .rw[aA c];exact hR i j hi O
  .rw[ah c,iI];exact hg i hi
 have Sl:∀i:Nat,i<k->(zag k fun t=>R i t*z t)=z k*ê i:=fun i hi=>by
  have a:=ze i hi;have b:(zag (k+1) fun j=>(if j<(k:Int) then R i j else -ê i)*z j)=(zag k fun t=>R i t*z t) + -ê i*z k:=by
   show (zag k fun j=>(if j<(k:Int) then R i j else -ê i)*z j)+(if (k:Int)<k then R i k else -ê i)*z k=_
   rw[ah O,zbc (G:=fun t=>R i t*z t) fun t ht=>by rw[aA O]]
  rw[b] at a;have:-ê i*z k=-(z k*ê i):=by grind
  omega
 have zk:z k≠0:=fun q=>by
  have all:=ci.inj p2 (y:=z) fun i hi=>by rw[Sl i hi,q,aZ]
  rcases ť.mp hj with y | y
  .exact zj (all j y)
  .rw[y] at zj;exact zj q
 -- the least bottom
 obtain⟨s,⟨s0,x,hx⟩,mn⟩:=Pg.least (P:=fun s:Nat=>0<s/\∃x:Int->Int,∀i:Nat,i<k->(zag k fun t=>R i t*x t)=s*ê i) (n:=(z k).natAbs) ⟨O,by
  rcases ū (z k) 0 with q | q
  .refine⟨fun t=>-1*z t,fun i hi=>?_⟩;have:(zag k fun t=>R i t*(-1*z t))=-1*zag k fun t=>R i t*z t:=by rw[<-zbk];exact zbc fun t _=>by grind
   rw[this,Sl i hi,show ((z k).natAbs:Int)=-z k by lia];grind
  .refine⟨z,fun i hi=>?_⟩;rw[Sl i hi,show ((z k).natAbs:Int)=z k by lia]⟩
 have sle:s<=(z k).natAbs:=by
  rcases ů (z k).natAbs s with q | q
  .refine absurd ?_ (mn _ q);refine⟨O,?_⟩;rcases ū (z k) 0 with q | q
   .refine⟨fun t=>-1*z t,fun i hi=>?_⟩;have:(zag k fun t=>R i t*(-1*z t))=-1*zag k fun t=>R i t*z t:=by rw[<-zbk];exact zbc fun t _=>by grind
    rw[this,Sl i hi,show ((z k).natAbs:Int)=-z k by lia];grind
   .refine⟨z,fun i hi=>?_⟩;rw[Sl i hi,show ((z k).natAbs:Int)=z k by lia]
  .exact q
 have one:∀d:Int,d∣(s:Int)->(∀t:Nat,t<k->d∣x t)->d∣1:=fun d ds dx=>by
  have d0:d≠0:=fun q=>by rw[q] at ds;have:=gS.mp ds;lia
  obtain⟨c,hc⟩:=ds
  by_cases q:d.natAbs=1
  .exact aU.mp (by rw[q];exact jR 1)
  .exfalso;have e:s=d.natAbs*c.natAbs:=by have:=cA Ċ hc;rwa [cD,aR] at this
   have c0:0<c.natAbs:=by rcases õ c.natAbs with w | w;(rw[w,Nat.mul_zero] at e;lia);exact w
   have lt:c.natAbs<s:=by
    rw[e];have:2<=d.natAbs:=O;have:=b9 c.natAbs this;lia
   refine mn _ lt ⟨c0,fun t=>(if 0<=c then 1 else -1)*(x t/d),fun i hi=>?_⟩;refine aL d0 ?_;have a:d*(zag k fun t=>R i t*((if 0<=c then 1 else -1)*(x t/d)))=(if 0<=c then 1 else -1)*zag k fun t=>R i t*x t:=by
    rw[<-zbk,<-zbk];refine zbc fun t ht=>?_;have:=b8 (dx t ht);generalize x t/d=u at this;rw[<-this];grind
   rw[a,hx i hi,hc]
   by_cases w:0<=c
   .rw[aA w,show (c.natAbs:Int)=c by lia];grind
   .rw[ah w,show (c.natAbs:Int)=-c by lia];grind
 refine⟨x,s,O,fun q=>?_,hx,fun t ht=>?_,?_,one⟩
 .have:p∣1:=one p q fun t ht=>ci x (fun i hi=>by rw[hx i hi];exact aD q) t ht;have:=aW L this;lia
 .-- z k times x is s times z
  have e:=ci.inj p2 (y:=fun t=>z k*x t-s*z t) (fun i hi=>by
   have:(zag k fun t=>R i t*(z k*x t-s*z t))=z k*(zag k fun t=>R i t*x t) + -s*zag k fun t=>R i t*z t:=by
    rw[<-zbk,<-zbk,<-zca];exact zbc fun t _=>by grind
   rw[this,hx i hi,Sl i hi];grind) t ht
  have e':z k*x t=s*z t:=by
   have:z k*x t-s*z t=0:=e;lia
  have n:=cA Ċ e';rw[aR,aR,cD] at n;have b:=b9 (z t).natAbs sle;rw[<-n] at b;have:=jv b (show 0<(z k).natAbs by lia);exact aS this (zb t)
 .have:=zb k;lia
variable {U:ŗ}
def RI (m:Int)(k:Nat)(R U:ŗ):Prop:=∀i j:Nat,i<k->j<k->m∣(zag k fun t=>R i t*U t j)-if i=j then 1 else 0
def lift {m:Int}{k:Nat}{R:ŗ}(h:RI m k R U){left more:ř}(hm:∀t:Nat,t<k->m∣more t-zag k fun j=>U t j*left j)(i:Nat)(hi:i<k):m∣left i-zag k fun t=>R i t*more t:=by
 have e1:m∣(zag k fun t=>R i t*more t)-zag k fun t=>R i t*zag k fun j=>U t j*left j:=zff fun t ht=>by
  rw[<-cL];exact ax (hm t ht)
 have e2:(zag k fun t=>R i t*zag k fun j=>U t j*left j)=zag k fun j=>left j*zag k fun t=>R i t*U t j:=by
  have a:(zag k fun t=>R i t*zag k fun j=>U t j*left j)=zag k fun t=>zag k fun j=>left j*(R i t*U t j):=zbc fun t _=>by
   rw[<-zbk];exact zbc fun j _=>by grind
  rw[a,zdf];exact zbc fun j _=>by rw[zbk]
 have e3:m∣(zag k fun j=>left j*zag k fun t=>R i t*U t j)-zag k fun j=>left j*if j=(i:Int) then 1 else 0:=zff fun j hj=>by
  rw[<-cL];refine ax ?_;have:=h i j hi hj
  by_cases c:i=j
  .rw[aA c] at this;rw[aA O];exact this
  .rw[ah c] at this;rw[ah O];exact this
 rw[n6 hi] at e3;rw[e2] at e1;have:=dZ.mpr (bY e1 e3);rwa [show ∀a b c:Int,-(a-b+(b-c))=c-a from fun a b c=>by lia] at this
structure Bn (k:Nat)(R:ŗ)(ê:ř)(scale:Int)(r left:ř):Prop where
 eq:∀i:Nat,i<k->(zag k fun t=>R i t*r t)+scale*left i=ê i
 rg:∀t:Nat,t<k->0<=r t/\r t<scale
def Bn.start (k:Nat)(R:ŗ)(ê:ř):Bn k R ê 1 (fun _=>0) ê:=⟨fun i _=>by
 rw[zbc (G:=fun _=>0) fun t _=>bi _,zdh,eI,cY],fun t _=>⟨eL 0,L⟩⟩
def Bn.step {m:Int}(hm:1<=m){k:Nat}{R:ŗ}(ri:RI m k R U){ê:ř}{scale:Int}(hs:1<=scale){r left:ř}(h:Bn k R ê scale r left){more qA:ř}(em:∀t:Nat,t<k->more t=(zag k fun j=>U t j*left j)%m)(el:∀i:Nat,i<k->qA i=(left i-zag k fun t=>R i t*more t)/m) :
  Bn k R ê (scale*m) (fun t=>r t+scale*more t) qA:=by
 refine⟨fun i hi=>?_,fun t ht=>?_⟩
 .have d:=lift ri (left:=left) (more:=more) (fun t ht=>by rw[em t ht];exact zds _ _) i hi;have q:=b8 d;rw[<-el i hi] at q;have a:(zag k fun t=>R i t*(r t+scale*more t))=(zag k fun t=>R i t*r t)+scale*zag k fun t=>R i t*more t:=by
   rw[<-zbk,<-zca];exact zbc fun t _=>by grind
  rw[a,<-h.eq i hi];generalize (zag k fun t=>R i t*more t)=x at *;rw[aE,q];grind
 .have a:=h.rg t ht;have b0:=aH (zag k fun j=>U t j*left j) (show m≠0 by lia);have b1:=aF (zag k fun j=>U t j*left j) (show 0<m by lia);rw[<-em t ht] at b0 b1;have c0:=bF (show 0<=scale by lia) b0;have c1:=aB (show more t<=m-1 by lia) (show 0<=scale by lia);rw[cL,bX] at c1;show 0<=r t+scale*more t/\r t+scale*more t<scale*m
  lia
def Bn.rest {p:Int}(p1:1<=p){k:Nat}{R:ŗ}(ci:CI p k R){ê:ř}{e:Nat}{r left:ř}(h:Bn k R ê (p^e) r left){x:ř}{s:Int}(hx:∀i:Nat,i<k->(zag k fun t=>R i t*x t)=s*ê i)(t:Nat)(ht:t<k):p^e∣s*r t-x t :=
 ci.pow p1 e (y:=fun t=>s*r t-x t) (fun i hi=>by
  have:(zag k fun t=>R i t*(s*r t-x t))=s*(zag k fun t=>R i t*r t) + -1*zag k fun t=>R i t*x t:=by
   rw[<-zbk,<-zbk,<-zca];exact zbc fun t _=>by grind
  rw[this,hx i hi,<-h.eq i hi];exact⟨-(s*left i),by grind⟩) t ht
def sH {p:Int}(hp:zbn p){a:Int}(h:¬p∣a):∀(e:Nat){y:Int},p^e∣a*y->p^e∣y
 | 0,y,_=>by rw[eU];exact g7 y
 | e+1,y,d=>by
  have p2:=hp.1;have py:p∣y:=qk hp (bu ⟨p^e,by rw[bj,ay]⟩ d) h;obtain⟨z,hz⟩:=py;obtain⟨c,hc⟩:=d;have:p^e∣a*z:=⟨c,aL (show p≠0 by lia) (by
   rw[hz,bj] at hc;have e1:p*(a*z)=a*(p*z):=by grind
   have e2:p*(p^e*c)=p^e*p*c:=by grind
   rw[e1,e2];exact hc)⟩
  obtain⟨w,hw⟩:=sH hp h e this;exact⟨w,by rw[hz,hw,bj];grind⟩
def Zz {p:Int}(hp:zbn p){e:Nat}{s b r x:Int}(s0:0<s)(ps:¬p∣s)(b0:0<b)(bs:b∣s)(hr:p^e∣s*r-x){B H:Int}(sB:s<=B)(xB:(x.natAbs:Int)<=B)(hH:4*B<=H)(HH:H*H<=p^e)
 {r0 r1 c0 c1:Int}(st:zfo (p^e) (r*b%p^e) r0 r1 c0 c1)(h0:H<=r0)(h1:r1<H):0<(c1.natAbs:Int)/\b*c1.natAbs∣s/\s∣b*c1.natAbs*x:=by
  have p2:=hp.1;have sc:0<p^e:=by have:=BF (p:=p) lC e;lia
  obtain⟨S1,hS⟩:=bs;have S0:0<S1:=by
    rcases ū 0 S1 with z | z
    · exact z
    · have:=aB z (show 0<=b by lia);lia
  obtain⟨G,hG⟩:∃G:Nat,G=ż S1 x:=⟨_,Z⟩;obtain⟨s',IP⟩:(G:Int)∣S1:=by rw[hG];exact ĝ ..
  obtain⟨x',DO⟩:(G:Int)∣x:=by rw[hG];exact ė ..
  have G0:0<(G:Int):=by
    rcases õ G with z | z
    · rw[z] at IP;have:S1=0:=by rw[IP];exact aZ _
      lia
    · lia
  have s'0:0<s':=by
    rcases ū 0 s' with z | z
    · exact z
    · have:=aB z (show 0<=(G:Int) by lia);lia
  have zh:ż s' x'=1:=by
    rw[IP,DO,iz,cD] at hG;have:G*1=G*ż s' x':=by rw[ip];exact hG
    exact(gu (show 0<G by lia) this).symm
  have pG:¬p∣(G:Int):=fun z=>ps (by rw[hS,IP];exact ax (aD z))
  -- the Vm x'/s' zbt this rest
  have d1:p^e∣s'*(r*b%p^e)-x':=by
    have a:p^e∣(G:Int)*(s'*(r*b)-x'):=by
      have:(G:Int)*(s'*(r*b)-x')=s*r-x:=by rw[hS,IP,DO];grind
      rw[this];exact hr
    have b':=sH hp pG e a;have c:=zds (r*b) (p^e);have c':p^e∣s'*(r*b%p^e-r*b):=ax c;have:=bY b' c';rwa [show s'*(r*b)-x'+s'*(r*b%p^e-r*b)=s'*(r*b%p^e)-x' by grind] at this
  obtain⟨k,hk⟩:=d1;have s'S:s'<=S1:=by have:=ar (show 1<=(G:Int) by lia) (show 0<=s' by lia);lia
  have Ss:S1<=s:=by have:=ar (show 1<=b by lia) (show 0<=S1 by lia);lia
  have xx:(x'.natAbs:Int)<=B:=by
    have:x.natAbs=G*x'.natAbs:=by rw[DO,aR,cD]
    have:=b9 x'.natAbs (show 1<=G by lia);lia
  have cr:=st.Do O;have B0:0<=B:=O;have small:(x'.natAbs:Int)*c1.natAbs+s'*r1<p^e:=by
    have q1:=bF st.p1 (show (0:Int)<=c0.natAbs by lia);have q2:H*c1.natAbs<=p^e:=by
      have:=ar h0 (show (0:Int)<=c1.natAbs by lia);lia
    have q3:4*((x'.natAbs:Int)*c1.natAbs)<=H*c1.natAbs:=by
      have:=ar (show 4*(x'.natAbs:Int)<=H by lia) (show (0:Int)<=c1.natAbs by lia);rw[aE] at this;exact this
    have q4:4*(s'*r1)<=H*H:=by
      have a:=df (show 4*s'<=H by lia) (show r1<=H by lia) st.p1 (show 0<=H by lia);rw[aE] at a;exact a
    lia
  have rc:=st.TZ sc s'0 (show s'*(r*b%p^e)=x'+k*p^e by rw[ay k];lia) zh small;have ca:(c1.natAbs:Int)=s':=by rcases rc with ⟨a,_⟩ | ⟨a,_⟩<;>lia
  rw[ca];exact⟨s'0,⟨G,by rw[hS,IP];grind⟩,⟨x',by rw[hS,IP,DO];grind⟩⟩
def Ls {k:Nat}{s b:Int}{x:ř}(s0:0<s)(b0:0<b)(bs:b∣s)(all:∀t:Nat,t<k->s∣b*x t)(one:∀d:Int,d∣s->(∀t:Nat,t<k->d∣x t)->d∣1):b=s:=by
 obtain⟨S1,hS⟩:=bs;have d:S1∣1:=one S1 ⟨b,by rw[hS,ay]⟩ fun t ht=>by
  obtain⟨c,hc⟩:=all t ht;refine⟨c,aL (show b≠0 by lia) ?_⟩;rw[hc,hS,aE]
 have S0:0<S1:=by
  rcases ū 0 S1 with z | z
  .exact z
  .have:=aB z (show 0<=b by lia);lia
 have:=aW L d;have:S1=1:=O;rw[hS,this,bX]
def JG {n m x:Int}(hm:0<m)(h:m∣n-x)(hx:2*(x.natAbs:Int)<m):(if 2*(n%m)<=m then n%m else n%m-m)=x:=by
 have r0:=aH n (show m≠0 by lia);have r1:=aF n hm;have d:m∣n%m-x:=by have:=bY (zds n m) h;rwa [show n%m-n+(n-x)=n%m-x by lia] at this
 obtain⟨c,hc⟩:=d;have cc:c=0\/c=1:=by
  rcases ū c 0 with z | z
  .have:=aB (show c<=-1 by lia) (show 0<=m by lia);lia
  .rcases ū 1 c with y | y
   .have:=aB (show 2<=c by lia) (show 0<=m by lia);lia
   .lia
 rcases cc with z | z
 .rw[z,bi] at hc;rw[aA O];lia
 .rw[z,bX] at hc;rw[ah O];lia
structure Gj (m:Int)(k:Nat)(M:ŗ)(c:Nat)(A B:ŗ):Prop where
 rc:∀i j:Nat,i<k->j<k->m∣A i j-zag k fun t=>B i t*M t j
 diag:∀i j:Nat,i<k->j<c->m∣A i j-if i=j then 1 else 0
 sup:∀i t:Nat,i<k->t<k->c<=t->t≠i->m∣B i t
 own:∀i:Nat,i<k->c<=i->m∣B i i-1
def Gj.start {m:Int}{k:Nat}{M:ŗ}:Gj m k M 0 M (fun i t=>if t=i then 1 else 0):=by
 refine⟨fun i j hi hj=>?_,fun i j _ hj=>absurd hj (bS _),fun i t _ _ _ ne=>?_,fun i _ _=>?_⟩
 .have:(zag k fun t=>(if t=(i:Int) then 1 else 0)*M t j)=M i j:=by
   rw[zbc (G:=fun t=>M t j*if t=(i:Int) then 1 else 0) fun t _=>ay ..,n6 (F:=fun t=>M t j) hi]
  rw[this,cG];exact bx _
 .show m∣if (t:Int)=i then 1 else 0
  rw[ah O];exact bx _
 .show m∣(if (i:Int)=i then 1 else 0)-1
  rw[aA Z];exact bx _
def JJ {F:ř}{c:Nat}:∀{k:Nat},c<=k->(∀t:Nat,c<=t->t<k->F t=0)->zag k F=zag c F
 | 0,h,_=>by
  have:c=0:=O;rw[this]
 | k+1,h,z=>by
  rcases ů k c with y | y
  .have:c=k+1:=O;rw[this]
  .show zag k F+F k=_
   rw[z k y (bQ k),dL];exact JJ y fun t ht hk=>z t ht (bT hk)
def Gj.Td {p m:Int}(p2:2<=p)(pm:p∣m){k:Nat}{M:ŗ}{c:Nat}{A B:ŗ}(h:Gj m k M c A B)(hc:c<k)(ind:xz p (c+1) M):¬p∣A c c:=fun d=>by
 have key:=ind (fun t=>B c t) (fun j hj=>by
  have a:=bu pm (h.rc c j hc O)
  -- only è up to c are in it
  have b:p∣(zag k fun t=>B c t*M t j)-zag (c+1) fun t=>B c t*M t j:=by
   have e:(zag (c+1) fun t=>B c t*M t j)=zag k fun t=>if t<(c+1:Nat) then B c t*M t j else 0:=by
    rw[JJ (c:=c+1) (F:=fun t=>if t<((c+1:Nat):Int) then B c t*M t j else 0) hc fun t h1 h2=>ah O];exact zbc fun t ht=>by rw[aA O]
   rw[e];refine zff fun t ht=>?_
   by_cases q:(t:Int)<(c+1:Nat)
   .rw[aA q,cG];exact bx _
   .rw[ah q,cS];exact aD (bu pm (h.sup c t hc ht O O))
  have aj:p∣A c j:=by
   rcases ť.mp hj with q | q
   .have:=bu pm (h.diag c j hc q);rwa [ah O,cS] at this
   .rw[q];exact d
  have s:=dZ.mpr (bY (bE a aj) b);rwa [show ∀x y z:Int,-(x-y-x+(y-z))=z from fun x y z=>by lia] at s) c (bQ c)
 have o:=bu pm (h.own c hc (aG c));have:=bE key o;rw[show B c c-(B c c-1)=1 by lia] at this;have:=aW L this;lia
def Gj.step {m:Int}{k:Nat}{M:ŗ}{c:Nat}{A B A' B':ŗ}(h:Gj m k M c A B)(hc:c<k){v:Int}(hv:m∣A c c*v-1)
  (a1:∀j:Nat,j<k->m∣A' c j-A c j*v)(b1:∀t:Nat,t<k->m∣B' c t-B c t*v)
  (a2:∀i j:Nat,i<k->i≠c->j<k->m∣A' i j-(A i j-A i c*(A c j*v)))(b2:∀i t:Nat,i<k->i≠c->t<k->m∣B' i t-(B i t-A i c*(B c t*v))):Gj m k M (c+1) A' B':=by
 refine⟨fun i j hi hj=>?_,fun i j hi hj=>?_,fun i t hi ht ct ne=>?_,fun i hi ci=>?_⟩
 .by_cases q:i=c
  .subst q;have r:=h.rc i j hi hj;have e1:m∣(zag k fun t=>B' i t*M t j)-zag k fun t=>v*(B i t*M t j):=zff fun t ht=>by
    have:=aD (c:=M t j) (b1 t ht);rwa [show (B' i t-B i t*v)*M t j=B' i t*M t j-v*(B i t*M t j) by grind] at this
   rw[zbk] at e1;have r':m∣v*(A i j-zag k fun t=>B i t*M t j):=ax r;have:=bE (bY (a1 j hj) r') e1;generalize (zag k fun t=>B i t*M t j)=x at *;generalize (zag k fun t=>B' i t*M t j)=y at *;rwa [show A' i j-A i j*v+v*(A i j-x)-(y-v*x)=A' i j-y by grind] at this
  .have r1:=h.rc i j hi hj;have r2:=h.rc c j hc hj;have e1:m∣(zag k fun t=>B' i t*M t j)-zag k fun t=>B i t*M t j + -(A i c*v)*(B c t*M t j):=zff fun t ht=>by
    have:=aD (c:=M t j) (b2 i t hi q ht);rwa [show (B' i t-(B i t-A i c*(B c t*v)))*M t j=B' i t*M t j-(B i t*M t j + -(A i c*v)*(B c t*M t j)) by grind] at this
   rw[zca,zbk] at e1;have r3:m∣-(A i c*v)*(A c j-zag k fun t=>B c t*M t j):=ax r2;have:=bE (bY (bY (a2 i j hi q hj) r1) r3) e1;generalize (zag k fun t=>B i t*M t j)=x at *;generalize (zag k fun t=>B c t*M t j)=z at *;generalize (zag k fun t=>B' i t*M t j)=y at *;rwa [show A' i j-(A i j-A i c*(A c j*v))+(A i j-x) + -(A i c*v)*(A c j-z)-(y-(x + -(A i c*v)*z))=A' i j-y by grind] at this
 .have WJ:j<k:=O
  by_cases q:i=c
  .subst q;rcases ť.mp hj with y | y
   .have d:=h.diag i j hi y;rw[ah O,cS] at d;rw[ah O,cS];have d':m∣A i j*v:=aD d;have:=bY (a1 j WJ) d';rwa [show A' i j-A i j*v+A i j*v=A' i j by lia] at this
   .subst y;rw[aA Z];have:=bY (a1 j WJ) hv;rwa [show A' j j-A j j*v+(A j j*v-1)=A' j j-1 by lia] at this
  .rcases ť.mp hj with y | y
   .have d1:=h.diag i j hi y;have d2:=h.diag c j hc y;rw[ah (show ¬c=j by lia),cS] at d2;have d3:m∣A i c*(A c j*v):=ax (aD d2);have:=bE (bY (a2 i j hi q WJ) d1) d3;generalize (if i=j then (1:Int) else 0)=x at *;rwa [show A' i j-(A i j-A i c*(A c j*v))+(A i j-x)-A i c*(A c j*v)=A' i j-x by lia] at this
   .subst y;rw[ah q,cS];have d3:m∣A i j*(A j j*v-1):=ax hv;have:=bE (a2 i j hi q WJ) d3;rwa [show A' i j-(A i j-A i j*(A j j*v))-A i j*(A j j*v-1)=A' i j by grind] at this
 .have dc:=h.sup c t hc ht O O
  by_cases q:i=c
  .subst q;have d':m∣B i t*v:=aD dc;have:=bY (b1 t ht) d';rwa [show B' i t-B i t*v+B i t*v=B' i t by lia] at this
  .have di:=h.sup i t hi ht O ne;have d':m∣A i c*(B c t*v):=ax (aD dc);have:=bE (bY (b2 i t hi q ht) di) d';rwa [show B' i t-(B i t-A i c*(B c t*v))+B i t-A i c*(B c t*v)=B' i t by lia] at this
 .have q:i≠c:=O;have o:=h.own i hi O;have dc:=h.sup c i hc hi O O;have d':m∣A i c*(B c i*v):=ax (aD dc);have:=bE (bY (b2 i i hi q hi) o) d';rwa [show B' i i-(B i i-A i c*(B c i*v))+(B i i-1)-A i c*(B c i*v)=B' i i-1 by lia] at this
def Gj.end {m:Int}{k:Nat}{M A B:ŗ}(h:Gj m k M k A B):LI m k B M:=fun i j hi hj=>by
 have a:=h.rc i j hi hj;have b:=h.diag i j hi hj;have:=bE b a;rwa [show ∀x y z:Int,x-y-(x-z)=z-y from fun x y z=>by lia] at this
structure Ht (p:Int)(w:Nat)(á:Nat->Int->Int)(k:Nat)(num col:Nat->Nat)(row:Nat->Int->Int):Prop where
 colw:∀t,t<k->col t<w
 one:∀t,t<k->p∣row t (col t)-1
 zero:∀s t,s<t->t<k->p∣row t (col s)
 span:∀t,t<k->∃l:Int->Int,∀c:Nat,c<w->p∣row t c-zag k fun s=>l s*á (num s.toNat) c
 ind:∀c,c<=k->xz p c (fun s t=>á (num s.toNat) (col t.toNat))
def Ht.start (p:Int)(w:Nat)(á:Nat->Int->Int)(num col:Nat->Nat)(row:Nat->Int->Int):Ht p w á 0 num col row :=
 ⟨fun t h=>absurd h (bS _),fun t h=>absurd h (bS _),fun s t _ h=>absurd h (bS _),fun t h=>absurd h (bS _),fun c h=>(Nat.le_zero.mp h)▸xz.zero _ _⟩
structure Mp (p:Int)(w:Nat)(á:Nat->Int->Int)(k:Nat)(num col:Nat->Nat)(v:ř)(t:Nat)(left:ř):Prop where
 eq:∃x:Int->Int,∀c:Nat,c<w->p∣left c-(v c-zag k fun s=>x s*á (num s.toNat) c)
 zero:∀s,s<t->p∣left (col s)
def Mp.start {p:Int}{w:Nat}{á:Nat->Int->Int}{k:Nat}{num col:Nat->Nat}{v left:ř}(h:∀c:Nat,c<w->p∣left c-v c):Mp p w á k num col v 0 left :=
 ⟨⟨fun _=>0,fun c hc=>by
  have e:(zag k fun s=>(0:Int)*á (num s.toNat) c)=0:=by
   rw[zbc (G:=fun _=>0) fun s _=>aZ (á (num (s:Int).toNat) c)];exact zdh k
  show p∣left c-(v c-zag k fun s=>(0:Int)*á (num s.toNat) c)
  rw[e,cS];exact h c hc⟩,fun s h=>absurd h (bS _)⟩
def Mp.step {p:Int}{w:Nat}{á:Nat->Int->Int}{k:Nat}{num col:Nat->Nat}{row:Nat->Int->Int}(cr:Ht p w á k num col row){v left qA:ř}{t:Nat}(ht:t<k)(h:Mp p w á k num col v t left)(e:∀c:Nat,c<w->p∣qA c-(left c-left (col t)*row t c)):Mp p w á k num col v (t+1) qA:=by
 obtain⟨x,hx⟩:=h.eq;obtain⟨l,hl⟩:=cr.span t ht;refine⟨⟨fun s=>x s+left (col t)*l s,fun c hc=>?_⟩,fun s hs=>?_⟩
 .have a:=hx c hc;have b:p∣left (col t)*(row t c-zag k fun s=>l s*á (num s.toNat) c):=ax (hl c hc);have d:(zag k fun s=>(x s+left (col t)*l s)*á (num s.toNat) c)=(zag k fun s=>x s*á (num s.toNat) c)+left (col t)*zag k fun s=>l s*á (num s.toNat) c:=by
   rw[<-zbk,<-zca];exact zbc fun s _=>by grind
  rw[d];have:=bE (bY (e c hc) a) b;generalize (zag k fun s=>x s*á (num s.toNat) c)=y at *;generalize (zag k fun s=>l s*á (num s.toNat) c)=z at *;rwa [show qA c-(left c-left (col t)*row t c)+(left c-(v c-y))-left (col t)*(row t c-z)=qA c-(v c-(y+left (col t)*z)) by grind] at this
 .have ec:=e (col s) (cr.colw s O);rcases ť.mp hs with q | q
  .have z1:=h.zero s q;have z2:p∣left (col t)*row t (col s):=ax (cr.zero s t q ht);have:=bE (bY ec z1) z2;rwa [show ∀a b c:Int,a-(b-c)+b-c=a from fun a b c=>by lia] at this
  .subst q;have z2:p∣left (col s)*(row s (col s)-1):=ax (cr.one s ht);have:=bE ec z2;rwa [show qA (col s)-(left (col s)-left (col s)*row s (col s))-left (col s)*(row s (col s)-1)=qA (col s) by grind] at this
def Ht.congr {p:Int}{w:Nat}{á:Nat->Int->Int}{k:Nat}{num col num' col':Nat->Nat}{row row':Nat->Int->Int}(h:Ht p w á k num col row)(e1:∀t,t<k->num' t=num t)(e2:∀t,t<k->col' t=col t)(e3:∀t,t<k->row' t=row t):Ht p w á k num' col' row':=by
 refine⟨fun t ht=>by rw[e2 t ht];exact h.colw t ht,fun t ht=>by rw[e3 t ht,e2 t ht];exact h.one t ht,fun s t st ht=>by rw[e3 t ht,e2 s O];exact h.zero s t st ht,fun t ht=>?_,fun c hc y hy s hs=>?_⟩
 .obtain⟨l,hl⟩:=h.span t ht;refine⟨l,fun c hc=>?_⟩;rw[e3 t ht,zbc (G:=fun s=>l s*á (num s.toNat) c) fun s hs=>by rw[ae,e1 s hs]];exact hl c hc
 .refine h.ind c hc y (fun t ht=>?_) s hs;have:=hy t ht;dsimp only at this ⊢;rw[zbc (G:=fun s=>y s*á (num s.toNat) (col (t:Int).toNat)) fun s hs=>by rw[ae,ae,e1 s O,e2 t O]] at this;exact this
def Ht.snoc {p:Int}(hp:zbn p){w:Nat}{á:Nat->Int->Int}{k:Nat}{num col:Nat->Nat}{row:Nat->Int->Int}(h:Ht p w á k num col row){left:ř}(cl:Mp p w á k num col (á (num k)) k left)(cw:col k<w)(nz:¬p∣left (col k)){u:Int}(hu:p∣left (col k)*u-1)(er:∀c:Nat,c<w->p∣row k c-left c*u):Ht p w á (k+1) num col row:=by
 obtain⟨x,hx⟩:=cl.eq;refine⟨fun t ht=>?_,fun t ht=>?_,fun s t st ht=>?_,fun t ht=>?_,fun c hc=>?_⟩
 .rcases ť.mp ht with q | q
  .exact h.colw t q
  .rw[q];exact cw
 .rcases ť.mp ht with q | q
  .exact h.one t q
  .rw[q];have:=bY (er (col k) cw) hu;rwa [show ∀a b:Int,a-b+(b-1)=a-1 from fun a b=>by lia] at this
 .rcases ť.mp ht with q | q
  .exact h.zero s t st q
  .subst q;have z:p∣left (col s)*u:=aD (cl.zero s st);have:=bY (er (col s) (h.colw s st)) z;rwa [show ∀a b:Int,a-b+b=a from fun a b=>by lia] at this
 .rcases ť.mp ht with q | q
  .obtain⟨l,hl⟩:=h.span t q;refine⟨fun s=>if s=(k:Int) then 0 else l s,fun c hc=>?_⟩;have e:(zag (k+1) fun s=>(if s=(k:Int) then 0 else l s)*á (num s.toNat) c)=zag k fun s=>l s*á (num s.toNat) c:=by
    show (zag k fun s=>(if s=(k:Int) then 0 else l s)*á (num s.toNat) c)+(if (k:Int)=k then 0 else l k)*á (num (k:Int).toNat) c=_
    rw[aA Z,aZ,dL];exact zbc fun s hs=>by rw[ah O]
   rw[e];exact hl c hc
  .subst q;refine⟨fun s=>if s=(t:Int) then u else -(u*x s),fun c hc=>?_⟩;have e:(zag (t+1) fun s=>(if s=(t:Int) then u else -(u*x s))*á (num s.toNat) c)=u*(á (num t) c-zag t fun s=>x s*á (num s.toNat) c):=by
    show (zag t fun s=>(if s=(t:Int) then u else -(u*x s))*á (num s.toNat) c)+(if (t:Int)=t then u else -(u*x t))*á (num (t:Int).toNat) c=_
    rw[aA Z,ae];have:(zag t fun s=>(if s=(t:Int) then u else -(u*x s))*á (num s.toNat) c)=-u*zag t fun s=>x s*á (num s.toNat) c:=by
     rw[<-zbk];exact zbc fun s hs=>by rw[ah O];grind
    rw[this];grind
   rw[e];have a:p∣u*(left c-(á (num t) c-zag t fun s=>x s*á (num s.toNat) c)):=ax (hx c hc);have:=bY (er c hc) a;generalize (zag t fun s=>x s*á (num s.toNat) c)=y at *;rwa [show row t c-left c*u+u*(left c-(á (num t) c-y))=row t c-u*(á (num t) c-y) by grind] at this
 .rcases ů c (k+1) with q | q
  .exact h.ind c O
  .have ec:c=k+1:=O;subst ec;refine xz.snoc hp (h.ind k (aG k)) (x:=x) (fun t ht=>?_) fun d=>nz ?_
   .have a:=hx (col t) (h.colw t ht);have b:=cl.zero t ht;have:=bE b a;rw[show ∀a b:Int,a-(a-b)=b from fun a b=>by lia] at this;rw[ae,ae];exact this
   .have a:=hx (col k) cw;rw[ae] at d;exact(Lt.p4 a).mpr d
def Hg (w:Nat)(á:Nat->Int->Int)(k:Nat)(num:Nat->Nat)(v:ř):Prop:=∃(t:ř)(s:Int),s≠0/\∀c:Nat,c<w->s*v c=zag k fun i=>t i*á (num i.toNat) c
def zT {F:ř}{B:Int}:∀{k:Nat},(∀i:Nat,i<k->((F i).natAbs:Int)<=B)->((zag k F).natAbs:Int)<=k*B
 | 0,_=>by show ((0:Int).natAbs:Int)<=_;simp
 | k+1,h=>by
  have a:=zT (k:=k) fun i hi=>h i (bT hi);have b:=h k (bQ k);show ((zag k F+F k).natAbs:Int)<=((k+1:Nat):Int)*B
  rw[kM,fQ,cY];omega
section
variable {p:Int}{w k:Nat}{á:Nat->Int->Int}{num col:Nat->Nat}{row:Nat->Int->Int}
def Hg.zero:Hg w á k num fun _=>0:=⟨fun _=>0,1,L,fun c _=>by
 have:(zag k fun i=>(fun _=>(0:Int)) i*á (num i.toNat) c)=zag k fun _=>0:=zbc fun i _=>aZ _;rw[this,zdh];rfl⟩
def Hg.add {u v:ř}(h:Hg w á k num u)(g:Hg w á k num v)(a b:Int):Hg w á k num fun c=>a*u c+b*v c:=by
 obtain⟨t,s,s0,ht⟩:=h;obtain⟨t',s',Sm,Cj⟩:=g;refine⟨fun i=>a*s'*t i+b*s*t' i,s*s',fun z=>(fV.mp z).elim s0 Sm,fun c hc=>?_⟩;have e:(zag k fun i=>(a*s'*t i+b*s*t' i)*á (num i.toNat) c)=a*s'*(zag k fun i=>t i*á (num i.toNat) c)+b*s*zag k fun i=>t' i*á (num i.toNat) c:=by
  rw[<-zbk,<-zbk,<-zca];exact zbc fun i _=>by grind
 rw[e,<-ht c hc,<-Cj c hc];grind
def Hg.all (hp:zbn p)(cr:Ht p w á k num col row){v:ř}(h:Hg w á k num v)(z:∀t:Nat,t<k->v (col t)=0)(c:Nat)(hc:c<w):v c=0:=by
 obtain⟨t,s,s0,ht⟩:=h;have ci:=(cr.ind k (aG k)).ci;have all:=ci.inj hp.1 (y:=t) fun j hj=>by
  have:=ht (col j) (cr.colw j hj);rw[z j hj,bi] at this;show (zag k fun i=>á (num i.toNat) (col (j:Int).toNat)*t i)=0
  rw[ae,zbc (G:=fun i=>t i*á (num i.toNat) (col j)) fun i _=>ay ..];exact this.symm
 have e:=ht c hc;rw[zbc (G:=fun _=>0) fun i hi=>by rw[all i hi,aZ],zdh] at e;exact(fV.mp e).resolve_left s0
def Hg.weigh {v:ř}(h:Hg w á k num v){W:ř}(z:∀i:Nat,i<k->(zag w fun c=>á (num i) c*W c)=0):(zag w fun c=>v c*W c)=0:=by
 obtain⟨t,s,s0,ht⟩:=h;have e1:s*(zag w fun c=>v c*W c)=zag k fun i=>t i*zag w fun c=>á (num i.toNat) c*W c:=by
  rw[<-zbk];have a:(zag w fun c=>s*(v c*W c))=zag w fun c=>zag k fun i=>t i*(á (num i.toNat) c*W c):=zbc fun c hc=>by
   rw[<-aE,ht c hc,<-zec];exact zbc fun i _=>aE ..
  rw[a,zdf];exact zbc fun i _=>by rw[zbk]
 have e2:(zag k fun i=>t i*zag w fun c=>á (num i.toNat) c*W c)=0:=by
  rw[zbc (G:=fun _=>0) fun i hi=>by rw[ae,z i hi,bi],zdh]
 rw[e2] at e1;exact(fV.mp e1).resolve_left s0
end
def La (k:Nat)(R:ŗ)(v:ř):Prop:=∃x:Int->Int,∀i:Nat,i<k->(zag k fun t=>R i t*x t)=v i
section
variable {k:Nat}{R:ŗ}
def La.lin {u v:ř}(h:La k R u)(g:La k R v)(a b:Int):La k R fun i=>a*u i+b*v i:=by
 obtain⟨x,hx⟩:=h;obtain⟨y,hy⟩:=g;refine⟨fun t=>a*x t+b*y t,fun i hi=>?_⟩;have:(zag k fun t=>R i t*(a*x t+b*y t))=a*(zag k fun t=>R i t*x t)+b*zag k fun t=>R i t*y t:=by
  rw[<-zbk,<-zbk,<-zca];exact zbc fun t _=>by grind
 rw[this,hx i hi,hy i hi]
def La.congr {u v:ř}(h:La k R u)(e:∀i:Nat,i<k->u i=v i):La k R v:=by
 obtain⟨x,hx⟩:=h;exact⟨x,fun i hi=>by rw[hx i hi,e i hi]⟩
end
def pr (n:Nat->Nat):Nat->Nat
 | 0=>1
 | j+1=>pr n j*n j
def pt (n:Nat->Nat):Nat->Nat->Nat->Nat
 | 0,_,_=>0
 | k+1,N,i=>if i=k then N/pr n k else pt n k (N%pr n k) i
def Bq {n:Nat->Nat}(h:∀i,1<=n i):∀k,1<=pr n k
 | 0=>aG 1
 | k+1=>by have:=cU (Bq h k) (h k);exact this
def Lv {n:Nat->Nat}(h:∀i,1<=n i):∀{k N:Nat},N<pr n k->∀i,i<k->pt n k N i<n i
 | 0,_,_,i,hi=>absurd hi (bS _)
 | k+1,N,hN,i,hi=>by
  have p:=Bq h k;show (if i=k then N/pr n k else pt n k (N%pr n k) i)<n i
  by_cases c:i=k
  .rw[aA c,c];exact iH hN
  .rw[ah c];exact Lv h (iA _ p) i O
def LY {n:Nat->Nat}(h:∀i,1<=n i):∀{k N M:Nat},N<pr n k->M<pr n k->(∀i,i<k->pt n k N i=pt n k M i)->N=M
 | 0,N,M,hN,hM,_=>by have a:N<1:=hN;have b:M<1:=hM;lia
 | k+1,N,M,hN,hM,e=>by
  have p:=Bq h k;have ek:=e k (bQ k);have ek':N/pr n k=M/pr n k:=by
   have:(if k=k then N/pr n k else pt n k (N%pr n k) k)=if k=k then M/pr n k else pt n k (M%pr n k) k:=ek;rwa [aA Z,aA Z] at this
  have r:=LY h (k:=k) (iA N p) (iA M p) fun i hi=>by
   have:(if i=k then N/pr n k else pt n k (N%pr n k) i)=if i=k then M/pr n k else pt n k (M%pr n k) i:=e i (bT hi);rwa [ah O,ah O] at this
  rw[<-iD N (pr n k),<-iD M (pr n k),ek',r]
def FB {f g:Nat->Nat}:∀{k:Nat},(∃i,i<k/\f i≠g i)->∃j,j<k/\f j≠g j/\∀i,j<i->i<k->f i=g i
 | 0,⟨i,hi,_⟩=>absurd hi (bS _)
 | k+1,⟨i,hi,ne⟩=>by
  by_cases c:f k=g k
  .have:i≠k:=fun z=>ne (z▸c);obtain⟨j,hj,nj,all⟩:=FB (k:=k) ⟨i,O,ne⟩;refine⟨j,O,nj,fun i ji ik=>?_⟩;rcases ť.mp ik with q | q
   .exact all i ji q
   .rw[q];exact c
  .exact⟨k,bQ k,c,fun i a b=>by lia⟩
def Qo {p:Int}(hp:zbn p){k C:Nat}(hC:1<=C){R:ŗ}(ci:CI p k R)(hR:∀i t:Nat,i<k->t<k->(R i t).natAbs<=C) :
  ∃D:Nat,1<=D/\D<=(2*(k*C)+1)^k/\∀v:Int->Int,La k R fun i=>D*v i:=by
 have ex:∀j:Nat,∃n:Nat,1<=n/\(j<k->(∃x:Int->Int,∀i:Nat,j<=i->i<k->(zag k fun t=>R i t*x t)=if i=j then (n:Int) else 0)/\∀m:Nat,m<n->¬(0<m/\∃x:Int->Int,∀i:Nat,j<=i->i<k->(zag k fun t=>R i t*x t)=if i=j then (m:Int) else 0)):=fun j=>by
  by_cases hj:j<k
  .obtain⟨x,s,s0,_,hx,_⟩:=Bb hp hC (ê:=fun i=>if i=(j:Int) then 1 else 0) ci hR (fun i hi=>by
    show (if (i:Int)=j then (1:Int) else 0).natAbs<=C
    by_cases c:(i:Int)=j
    .rw[aA c];exact hC
    .rw[ah c];exact dW _)
   obtain⟨n,⟨n0,hn⟩,mn⟩:=Pg.least (P:=fun m:Nat=>0<m/\∃x:Int->Int,∀i:Nat,j<=i->i<k->(zag k fun t=>R i t*x t)=if i=j then (m:Int) else 0) (n:=s.toNat) ⟨O,x,fun i _ hi=>by
    have:=hx i hi;rw[this];show s*(if (i:Int)=j then (1:Int) else 0)=_
    by_cases c:i=j
    .rw[aA c,aA O];lia
    .rw[ah c,ah O,bi]⟩
   exact⟨n,n0,fun _=>⟨hn,mn⟩⟩
  .exact⟨1,aG 1,fun h=>absurd h hj⟩
 obtain⟨n,hn⟩:=ö ex;have n1:∀j,1<=n j:=fun j=>(hn j).1;have kill:∀j:Nat,j<=k->∀v:Int->Int,(∀i:Nat,j<=i->i<k->v i=0)->La k R fun i=>(pr n j:Int)*v i:=by
  intro j
  induction j with
  | zero =>
   intro _ v hv;refine⟨fun _=>0,fun i hi=>?_⟩;have:(zag k fun t=>R i t*(fun _=>(0:Int)) t)=zag k fun _=>0:=zbc fun t _=>bi _;rw[this,zdh];show 0=(pr n 0:Int)*v i
   rw[hv i (dW i) hi,bi]
  | succ j ih =>
   intro hj v hv;obtain⟨⟨x,hx⟩,_⟩:=(hn j).2 O;have a:=ih O (fun i=>n j*v i-v j*zag k fun t=>R i t*x t) fun i ji ik=>by
    show (n j:Int)*v i-v j*(zag k fun t=>R i t*x t)=0
    rw[hx i ji ik]
    by_cases c:i=j
    .rw[aA c,c,ay];lia
    .rw[ah c,hv i O ik,bi,bi];rfl
   have b:La k R fun i=>zag k fun t=>R i t*x t:=⟨x,fun i _=>Z⟩;refine(a.lin b 1 (pr n j*v j)).congr fun i _=>?_;show 1*((pr n j:Int)*((n j:Int)*v i-v j*zag k fun t=>R i t*x t))+pr n j*v j*(zag k fun t=>R i t*x t)=((pr n j*n j:Nat):Int)*v i
   rw[aI];grind
 have all:∀v:Int->Int,La k R fun i=>(pr n k:Int)*v i:=fun v=>kill k (aG k) v fun i a b=>by lia
 have p1:=Bq n1 k;refine⟨pr n k,p1,?_,all⟩;refine gn fun big=>?_
 -- each point has a zjx one in the box
 have box:∀N:Nat,∃u:Int->Int,(∀i:Nat,i<k->(u i).natAbs<=k*C)/\La k R fun i=>(pt n k N i.toNat:Int)-u i:=fun N=>by
  obtain⟨x,hx⟩:=all fun i=>(pt n k N i.toNat:Int);refine⟨fun i=>(pt n k N i.toNat:Int)-zag k fun t=>R i t*(x t/pr n k),fun i hi=>?_,⟨fun t=>x t/pr n k,fun i hi=>by dsimp only;lia⟩⟩;have e:(pr n k:Int)*((pt n k N (i:Int).toNat:Int)-zag k fun t=>R i t*(x t/pr n k))=zag k fun t=>R i t*(x t%pr n k):=by
   have h1:=hx i hi;dsimp only at h1;rw[cL,<-h1,<-zbk];have:(zag k fun t=>R i t*(x t%pr n k))=(zag k fun t=>R i t*x t) + -1*(zag k fun t=>pr n k*(R i t*(x t/pr n k))):=by
    rw[<-zbk,<-zca];refine zbc fun t _=>?_;rw[jO];grind
   rw[this];lia
  have b:=Sg.zT (m:=k) (F:=fun t=>R i t*(x t%pr n k)) (B:=C*pr n k) fun t ht=>by
   show (R i t*(x t%pr n k)).natAbs<=_
   rw[aR];refine cU (hR i t hi ht) ?_;have:=aH (x t) (show (pr n k:Int)≠0 by lia);have:=aF (x t) (show 0<(pr n k:Int) by lia);lia
  rw[<-e,aR,cD,<-iu,dJ] at b;exact Nat.le_of_mul_le_mul_right b p1
 obtain⟨u,hu⟩:=ö box;have eb:∀N i:Nat,i<k->(u N i+(k*C:Nat)).toNat<2*(k*C)+1:=fun N i hi=>by
  have:=(hu N).1 i hi;lia
 obtain⟨N,M,NM,Mk,e⟩:=Pg.yj (fun N=>Sg.enc (2*(k*C)+1) k fun i=>(u N i+(k*C:Nat)).toNat) big fun N _=>Sg.v9 (eb N);have same:=Sg.xV (eb N) (eb M) e;obtain⟨x,hx⟩:La k R fun i=>(pt n k N i.toNat:Int)-pt n k M i.toNat:=((hu N).2.lin (hu M).2 1 (-1)).congr fun i hi=>by
  have s:=same i hi;have a:=(hu N).1 i hi;have b:=(hu M).1 i hi;omega
 have dif:∃i,i<k/\pt n k N i≠pt n k M i:=by
  refine bn fun no=>?_;have:=LY n1 (k:=k) (N:=N) (M:=M) O Mk fun i hi=>bn fun z=>no ⟨i,hi,z⟩;lia
 obtain⟨j,jk,nj,ç⟩:=FB dif;have lN:=Lv n1 (k:=k) (N:=N) O j jk;have lM:=Lv n1 (k:=k) (N:=M) Mk j jk;have mn:=((hn j).2 jk).2;have DO:∀i:Nat,i<k->(zag k fun t=>R i t*x t)=(pt n k N i:Int)-pt n k M i:=fun i hi=>by
  have:=hx i hi;dsimp only at this;rwa [ae] at this
 rcases Ĩ nj with lt | gt
 .refine mn (pt n k M j-pt n k N j) O ⟨O,fun t=>-1*x t,fun i ji ik=>?_⟩;have:(zag k fun t=>R i t*(-1*x t))=-1*zag k fun t=>R i t*x t:=by
   rw[<-zbk];exact zbc fun t _=>by grind
  rw[this,DO i ik]
  by_cases c:i=j
  .rw[aA c,c];lia
  .rw[ah c,ç i O ik];lia
 .refine mn (pt n k N j-pt n k M j) O ⟨O,x,fun i ji ik=>?_⟩;rw[DO i ik]
  by_cases c:i=j
  .rw[aA c,c];lia
  .rw[ah c,ç i O ik];lia
end Mx
namespace Pq
def bl (a:Nat):Nat->Nat
 | 0=>a
 | k+1=>bl a k*bl (a+2^k) k
def Ea:∀{k a d:Nat},a<=d->d<a+2^k->d∣bl a k
 | 0,a,d,h1,h2=>by
  have:d=a:=by rw[iX] at h2;lia
  rw[this];exact jR _
 | k+1,a,d,h1,h2=>by
  rw[dX] at h2;show d∣bl a k*bl (a+2^k) k
  rcases ů d (a+2^k) with c | c
  .exact Nat.dvd_mul_right_of_dvd (Ea h1 c) _
  .exact jC (Ea c O) _
def S:ŏ:=[1000000007,1000000009,1000000021,1000000033,1000000087,1000000093,1000000097,1000000103,1000000123,1000000181,1000000207,1000000223,1000000241,1000000271,1000000289,1000000297,1000000321,1000000349,1000000363,1000000403,1000000409,1000000411,1000000427,1000000433,1000000439,1000000447,1000000453,1000000459,1000000483,1000000513,1000000531,1000000579,1000000607,1000000613,1000000637,1000000663,1000000711,1000000753,1000000787,1000000801,1000000829,1000000861,1000000871,1000000891,1000000901,1000000919,1000000931,1000000933,1000000993,1000001011,1000001021,1000001053,1000001087,1000001099,1000001137,1000001161,1000001203,1000001213,1000001237,1000001263,1000001269,1000001273,1000001279,1000001311,1000001329,1000001333,1000001351,1000001371,1000001393,1000001413,1000001447,1000001449,1000001491,1000001501,1000001531,1000001537,1000001539,1000001581,1000001617,1000001621,1000001633,1000001647,1000001663,1000001677,1000001699,1000001759,1000001773,1000001789,1000001791,1000001801,1000001803,1000001819]
def pd:ŏ->Nat
 | []=>1
 | p::l=>p*pd l
def Jk:∀{l:ŏ}{p:Nat},p∈l->p∣pd l
 | q::l,p,h=>by
  show p∣q*pd l
  rcases ũ.mp h with e | e
  .rw[e];exact Nat.dvd_mul_right ..
  .exact jC (Jk e) _
def zh:(ą (pd S) (bl 2 15) == 1)=true:=by decide +kernel
def CD:(S.all fun p=>decide (1000000007<=p/\p<1000002100))=true:=by decide +kernel
def Q6:S.Nodup:=by decide +kernel
def K9 {p:Nat}(h:p∈S):zbn (p:Int)/\1000000007<=p/\p<1000002100:=by
 have r:=fY (fi.mp CD p h);refine⟨⟨O,fun d d2 dp dd=>?_⟩,r⟩;have g:ą (pd S) (bl 2 15)=1:=eq_of_beq zh;have no:∀e:Nat,2<=e->e<2+2^15->¬e∣p:=fun e e2 el ep=>by
  have a:=Nat.dvd_gcd (Nat.dvd_trans ep (Jk h)) (Ea e2 el);rw[g] at a;have:=fG Ą a;lia
 obtain⟨e,rfl⟩:=ü (show 0<=d by lia);have ep:e∣p:=dE.mp dd;obtain⟨f,hf⟩:=ep;have f2:2<=f:=by
  rcases ů f 2 with c | c
  .have:f=0\/f=1:=O;rcases this with z | z
   .rw[z] at hf;lia
   .rw[z,ip] at hf;lia
  .exact c
 rcases ů e (2+2^15) with c | c
 .exact no e O c ⟨f,hf⟩
 .rcases ů f (2+2^15) with c' | c'
  .exact no f f2 c' ⟨e,by rw[hf,dJ]⟩
  .have:=cU c c';lia
end Pq
open Pq renaming pd→zfe
namespace Mx
def Hm (q:Int)(w:Nat)(á:Nat->Int->Int)(k:Nat)(num:Nat->Nat)(v:ř):Prop:=∃x:Int->Int,∀c:Nat,c<w->q∣v c-zag k fun s=>x s*á (num s.toNat) c
structure Fr (q:Int)(w n:Nat)(á:Nat->Int->Int)(k:Nat)(num col:Nat->Nat):Prop where
 colw:∀t,t<k->col t<w
 uD:∀t,t<k->num t<n
 ind:xz q k (fun s t=>á (num s.toNat) (col t.toNat))
 all:∀j,j<n->Hm q w á k num (á j)
def Good (q:Int)(w n:Nat)(á:Nat->Int->Int)(ê:ř):Prop :=
 ∀k num col,Fr q w n á k num col->(∀j,j<n->Hg w á k num (á j))/\(Hm q w á k num ê->Hg w á k num ê)
def Ws {q:Int}(hq:2<=q){w m k:Nat}(km:k<m){r f:Nat->Int->Int}(h:∀i,i<m->∃x:Int->Int,∀c:Nat,c<w->q∣r i c-zag k fun s=>x s*f s.toNat c) :
  ∃y:Int->Int,(∃i:Nat,i<m/\¬q∣y i)/\∀c:Nat,c<w->q∣zag m fun i=>y i*r i.toNat c:=by
 have h':∀i,∃x:Int->Int,i<m->∀c:Nat,c<w->q∣r i c-zag k fun s=>x s*f s.toNat c:=fun i=>by
  by_cases c:i<m
  .obtain⟨x,hx⟩:=h i c;exact⟨x,fun _=>hx⟩
  .exact⟨fun _=>0,fun z=>absurd z c⟩
 obtain⟨X,hX⟩:=ö h';obtain⟨Q,hQ⟩:∃Q:Nat,Q=q.toNat:=⟨_,Z⟩;have qQ:q=Q:=O;have Q2:2<=Q:=O;have eb:∀N s:Nat,s<k->((zag m fun i=>(zbp Q N i.toNat:Int)*X i.toNat s)%q).toNat<Q:=fun N s _=>by
  have a:=aH (zag m fun i=>(zbp Q N i.toNat:Int)*X i.toNat s) (show q≠0 by lia);have b:=aF (zag m fun i=>(zbp Q N i.toNat:Int)*X i.toNat s) (show 0<q by lia);lia
 obtain⟨N,M,NM,Mm,e⟩:=Pg.yj (fun N=>Sg.enc Q k fun s=>((zag m fun i=>(zbp Q N i.toNat:Int)*X i.toNat s)%q).toNat) (Nat.pow_lt_pow_right Q2 km) fun N _=>Sg.v9 (eb N);have same:=Sg.xV (eb N) (eb M) e;refine⟨fun i=>(zbp Q N i.toNat:Int)-zbp Q M i.toNat,?_,fun c hc=>?_⟩
 .refine bn fun no=>?_;have:N=M:=Sg.BJ (b:=Q) O O Mm fun j hj=>by
   have d:q∣(zbp Q N j:Int)-zbp Q M j:=bn fun z=>no ⟨j,hj,by dsimp only;rw[ŧ];exact z⟩;have a:zbp Q N j<Q:=iA _ O;have b:zbp Q M j<Q:=iA _ O
   by_cases z:(zbp Q N j:Int)-zbp Q M j=0
   .lia
   .have:=aW (show (0:Int)<((zbp Q N j:Int)-zbp Q M j).natAbs by lia) (ib.mpr d);lia
  lia
 .have e1:q∣(zag m fun i=>((zbp Q N i.toNat:Int)-zbp Q M i.toNat)*r i.toNat c)-zag m fun i=>((zbp Q N i.toNat:Int)-zbp Q M i.toNat)*zag k fun s=>X i.toNat s*f s.toNat c:=zff fun i hi=>by
   rw[ae,<-cL];exact ax (hX i hi c hc)
  refine(Lt.p4 e1).mpr ?_;have e2:(zag m fun i=>((zbp Q N i.toNat:Int)-zbp Q M i.toNat)*zag k fun s=>X i.toNat s*f s.toNat c)=zag k fun s=>(zag m fun i=>((zbp Q N i.toNat:Int)-zbp Q M i.toNat)*X i.toNat s)*f s.toNat c:=by
   rw[zbc (G:=fun i=>zag k fun s=>((zbp Q N i.toNat:Int)-zbp Q M i.toNat)*X i.toNat s*f s.toNat c) fun i _=>by
    rw[<-zbk];exact zbc fun s _=>by grind]
   rw[zdf];exact zbc fun s _=>by rw[zec]
  rw[e2];refine vT fun s hs=>aD ?_;have z:=same s hs;have e3:(zag m fun i=>((zbp Q N i.toNat:Int)-zbp Q M i.toNat)*X i.toNat s)=(zag m fun i=>(zbp Q N i.toNat:Int)*X i.toNat s) + -1*zag m fun i=>(zbp Q M i.toNat:Int)*X i.toNat s:=by
   rw[<-zbk,<-zca];exact zbc fun i _=>by grind
  rw[e3];have a:=aH (zag m fun i=>(zbp Q N i.toNat:Int)*X i.toNat s) (show q≠0 by lia);have b:=aH (zag m fun i=>(zbp Q M i.toNat:Int)*X i.toNat s) (show q≠0 by lia);generalize (zag m fun i=>(zbp Q N i.toNat:Int)*X i.toNat s)=A at *;generalize (zag m fun i=>(zbp Q M i.toNat:Int)*X i.toNat s)=B at *;have ab:A%q=B%q:=O;rw[show A + -1*B=A-B by lia];exact aY (by rw[dr,ab,cG,fE])
def both {p:Int}(hp:zbn p){k C:Nat}(hC:1<=C){M:ŗ}(ind:xz p k M)(hM:∀i t:Nat,i<k->t<k->(M i t).natAbs<=C) :
  ∃D:Nat,1<=D/\D<=(2*(k*C)+1)^k/\(∀v:Int->Int,La k (fun s t=>M t s) fun i=>D*v i)/\∀v:Int->Int,La k M fun i=>D*v i:=by
 obtain⟨D,D1,Db,al⟩:=Qo hp hC ind.ci fun i t hi ht=>hM t i ht hi;refine⟨D,D1,Db,al,fun v=>?_⟩
 -- the weights that single one row out
 have ex:∀j:Nat,∃x:Int->Int,∀t:Nat,t<k->(zag k fun i=>M i t*x i)=D*if t=j then 1 else 0:=fun j=>by
  obtain⟨x,hx⟩:=al fun t=>if t=(j:Int) then 1 else 0;refine⟨x,fun t ht=>?_⟩;have:=hx t ht;dsimp only at this;rw[this]
  by_cases c:t=j
  .rw[aA c,aA O]
  .rw[ah c,ah O]
 obtain⟨X,hX⟩:=ö ex;have key:∀l i:Nat,l<k->i<k->(zag k fun j=>M l j*X j.toNat i)=D*if i=l then 1 else 0:=fun l i hl hi=>by
  have z:=ind.ci.inj hp.1 (y:=fun i=>(zag k fun j=>M l j*X j.toNat i)-D*if i=(l:Int) then 1 else 0) (fun t ht=>by
   show (zag k fun i=>M i t*((zag k fun j=>M l j*X j.toNat i)-D*if i=(l:Int) then 1 else 0))=0
   have a:(zag k fun i=>M i t*((zag k fun j=>M l j*X j.toNat i)-D*if i=(l:Int) then 1 else 0))=(zag k fun i=>zag k fun j=>M l j*(M i t*X j.toNat i)) + -D*zag k fun i=>M i t*if i=(l:Int) then 1 else 0:=by
    rw[<-zbk,<-zca];refine zbc fun i _=>?_;have:(zag k fun j=>M l j*(M i t*X j.toNat i))=M i t*zag k fun j=>M l j*X j.toNat i:=by rw[<-zbk];exact zbc fun j _=>by grind
    rw[this];grind
   rw[a,n6 hl,zdf];have b:(zag k fun j=>zag k fun i=>M l j*(M i t*X j.toNat i))=zag k fun j=>M l j*D*if j=(t:Int) then 1 else 0:=zbc fun j hj=>by
    rw[zbk,ae,hX j t ht]
    by_cases c:t=j
    .rw[aA c,aA O];grind
    .rw[ah c,ah O];grind
   rw[b,n6 (F:=fun j=>M l j*D) ht];grind) i hi
  by_cases c:i=l
  .rw[aA c];rw[aA O] at z;lia
  .rw[ah c];rw[ah O] at z;lia
 refine⟨fun j=>zag k fun i=>X j.toNat i*v i,fun l hl=>?_⟩;have a:(zag k fun j=>M l j*zag k fun i=>X j.toNat i*v i)=zag k fun i=>zag k fun j=>M l j*X j.toNat i*v i:=by
  rw[zdf];exact zbc fun j _=>by rw[<-zbk];exact zbc fun i _=>by grind
 rw[a];have b:(zag k fun i=>zag k fun j=>M l j*X j.toNat i*v i)=zag k fun i=>D*v i*if i=(l:Int) then 1 else 0:=zbc fun i hi=>by
  rw[zec,key l i hl hi]
  by_cases c:i=l
  .rw[aA c,aA O];grind
  .rw[ah c,ah O];grind
 rw[b,n6 (F:=fun i=>D*v i) hl]
def La.ind {q:Int}(hq:zbn q){k:Nat}{M:ŗ}{D:Int}(h:∀v:Int->Int,La k M fun i=>D*v i)(nd:¬q∣D):xz q k M:=fun y hy s hs=>by
 obtain⟨x,hx⟩:=h fun i=>if i=(s:Int) then 1 else 0;have e:(zag k fun t=>x t*zag k fun i=>y i*M i t)=D*y s:=by
  have a:(zag k fun t=>x t*zag k fun i=>y i*M i t)=zag k fun i=>y i*zag k fun t=>M i t*x t:=by
   rw[zbc (G:=fun t=>zag k fun i=>y i*(M i t*x t)) fun t _=>by rw[<-zbk];exact zbc fun i _=>by grind];rw[zdf];exact zbc fun i _=>by rw[zbk]
  rw[a,zbc (G:=fun i=>D*y i*if i=(s:Int) then 1 else 0) fun i hi=>by rw[hx i hi];grind];exact n6 (F:=fun i=>D*y i) hs
 have d:q∣D*y s:=by rw[<-e];exact vT fun t ht=>ax (hy t ht)
 exact qk hq d nd
section
variable {k:Nat}{num col:Nat->Nat}
variable {w n:Nat}{á:Nat->Int->Int}
def Fr.HF {q:Int}(hq:zbn q)(F:Fr q w n á k num col):k<=n/\k<=w:=by
 constructor
 .refine gn fun lt=>?_;obtain⟨y,⟨i,hi,ny⟩,hy⟩:=Ws hq.1 (w:=w) lt (r:=fun i=>á (num i)) (f:=á) fun i hi=>⟨fun s=>if s=(num i:Int) then 1 else 0,fun c hc=>by
   rw[zbc (G:=fun s=>á s.toNat c*if s=(num i:Int) then 1 else 0) fun s _=>by grind,n6 (F:=fun s=>á s.toNat c) (F.uD i hi)];rw[ae,cG];exact bx _⟩
  exact ny (F.ind y (fun t ht=>by dsimp only;rw[ŧ];exact hy (col t) (F.colw t ht)) i hi)
 .refine gn fun lt=>?_;obtain⟨y,⟨i,hi,ny⟩,hy⟩:=Ws hq.1 (w:=w) lt (r:=fun i=>á (num i)) (f:=fun s c=>if (s:Int)=c then 1 else 0) fun i hi=>⟨fun s=>á (num i) s,fun c hc=>by
   rw[zbc (G:=fun s=>á (num i) s*if s=(c:Int) then 1 else 0) fun s _=>by rw[ae],n6 (F:=fun s=>á (num i) s) hc];rw[cG];exact bx _⟩
  exact ny (F.ind y (fun t ht=>by dsimp only;rw[ŧ];exact hy (col t) (F.colw t ht)) i hi)
def DU {q:Int}(hq:zbn q){k':Nat}{num' col':Nat->Nat}{D:Int}(cw:∀t,t<k->col t<w)(nn:∀t,t<k->num t<n)(h:∀v:Int->Int,La k (fun s t=>á (num s.toNat) (col t.toNat)) fun i=>D*v i)(nd:¬q∣D)(F:Fr q w n á k' num' col'):k<=k':=by
 refine gn fun lt=>?_;obtain⟨y,⟨i,hi,ny⟩,hy⟩:=Ws hq.1 (w:=w) lt (r:=fun i=>á (num i)) (f:=fun s=>á (num' s)) fun i hi=>F.all (num i) (nn i hi);exact ny (La.ind hq h nd y (fun t ht=>by dsimp only;rw[ŧ];exact hy (col t) (cw t ht)) i hi)
def Ut {q:Int}(hq:zbn q){k':Nat}{num' col':Nat->Nat}{D:Int}(cw:∀t,t<k->col t<w)(nn:∀t,t<k->num t<n)(h:∀v:Int->Int,La k (fun s t=>á (num s.toNat) (col t.toNat)) fun i=>D*v i)(F:Fr q w n á k' num' col')(kk:k'<=k)
 {v:ř}(hv:Hm q w á k' num' v){s:Int}{t:ř}(ht:∀i:Nat,i<k->(zag k fun j=>á (num j.toNat) (col i)*t j)=s*v (col i)){c:Nat}(hc:c<w):q∣D*(s*v c-zag k fun i=>t i*á (num i.toNat) c):=by
  refine bn fun nd=>?_;have nD:¬q∣D:=fun z=>nd (aD z);have nG:¬q∣s*v c-zag k fun i=>t i*á (num i.toNat) c:=fun z=>nd (ax z);have ind:=La.ind hq h nD;obtain⟨y,⟨i,hi,ny⟩,hy⟩:=Ws hq.1 (w:=w) (show k'<k+1 by lia) (r:=fun i=>if i<k then á (num i) else v) (f:=fun s=>á (num' s)) fun i hi=>by
    by_cases z:i<k
    · rw[aA z];exact F.all (num i) (nn i z)
    · rw[ah z];exact hv
  have Fb:∀c:Nat,c<w->q∣(zag k fun i=>y i*á (num i.toNat) c)+y k*v c:=fun c hc=>by
    have a:=hy c hc;have e:(zag (k+1) fun i=>y i*(if i.toNat<k then á (num i.toNat) else v) c)=(zag k fun i=>y i*á (num i.toNat) c)+y k*v c:=by
      show (zag k fun i=>y i*(if i.toNat<k then á (num i.toNat) else v) c)+y k*(if (k:Int).toNat<k then á (num (k:Int).toNat) else v) c=_
      rw[ah O,zbc (G:=fun i=>y i*á (num i.toNat) c) fun i hi=>by rw[aA O]]
    rwa [e] at a
  have sp:∀c:Nat,(zag k fun i=>(s*y i+y k*t i)*á (num i.toNat) c)=s*(zag k fun i=>y i*á (num i.toNat) c)+y k*zag k fun i=>t i*á (num i.toNat) c:=fun c=>by
    rw[<-zbk,<-zbk,<-zca];exact zbc fun i _=>by grind
  have near:=ind (fun i=>s*y i+y k*t i) fun j hj=>by
    have a:=ax (a:=q) (b:=s) (Fb (col j) (cw j hj));have b:=ht j hj;dsimp only;rw[ae,sp];rw[zbc (G:=fun i=>t i*á (num i.toNat) (col j)) fun i _=>ay ..] at b;rw[b];rwa [show s*((zag k fun i=>y i*á (num i.toNat) (col j))+y k*v (col j))=s*(zag k fun i=>y i*á (num i.toNat) (col j))+y k*(s*v (col j)) by grind] at a
  have yk:q∣y k:=by
    have a:=ax (a:=q) (b:=s) (Fb c hc);have b:q∣zag k fun i=>(s*y i+y k*t i)*á (num i.toNat) c:=vT fun i hi=>aD (near i hi);rw[sp] at b;have d:=bE a b;generalize (zag k fun i=>y i*á (num i.toNat) c)=Y at *;generalize (zag k fun i=>t i*á (num i.toNat) c)=T at *;rw[show s*(Y+y k*v c)-(s*Y+y k*T)=(s*v c-T)*y k by grind] at d;exact qk hq d nG
  have yi:=ind y fun j hj=>by
    have a:=Fb (col j) (cw j hj);have b:q∣y k*v (col j):=aD yk;have:=bE a b;rw[show ∀a b:Int,a+b-b=a from fun a b=>by lia] at this;dsimp only;rw[ae];exact this
  rcases ť.mp hi with z | z
  · exact ny (yi i z)
  · rw[z] at ny;exact ny yk
def res {p:Int}(hp:zbn p){C:Nat}(hC:1<=C)(F:Fr p w n á k num col)(hs:∀(j:Nat)(c:Nat),j<n->c<w->(á j c).natAbs<=C){v:ř}(hv:∀c:Nat,c<w->(v c).natAbs<=C)(no:¬Hg w á k num v) :
  ∃(t:ř)(s:Int)(c:Nat),c<w/\(∀i:Nat,i<k->(zag k fun j=>á (num j.toNat) (col i)*t j)=s*v (col i))/\(s*v c-zag k fun i=>t i*á (num i.toNat) c)≠0/\((s*v c-zag k fun i=>t i*á (num i.toNat) c).natAbs:Int)<=(k+1:Nat)*(zcp k C*C):=by
 obtain⟨t,s,s0,ps,ht,tb,sb,_⟩:=Bb hp hC (ê:=fun i=>v (col i.toNat)) F.ind.ci (fun i j hi hj=>by
  show (á (num (j:Int).toNat) (col (i:Int).toNat)).natAbs<=C
  rw[ae,ae];exact hs _ (col i) (F.uD j hj) (F.colw i hi)) (fun i hi=>by
  show (v (col (i:Int).toNat)).natAbs<=C
  rw[ae];exact hv (col i) (F.colw i hi))
 have Cj:∀i:Nat,i<k->(zag k fun j=>á (num j.toNat) (col i)*t j)=s*v (col i):=fun i hi=>by
  have:=ht i hi;rwa [ae] at this
 have ex:∃c:Nat,c<w/\(s*v c-zag k fun i=>t i*á (num i.toNat) c)≠0:=bn fun z=>no ⟨t,s,O,fun c hc=>by
  have:(s*v c-zag k fun i=>t i*á (num i.toNat) c)=0:=bn fun y=>z ⟨c,hc,y⟩;lia⟩
 obtain⟨c,hc,nz⟩:=ex;refine⟨t,s,c,hc,Cj,nz,?_⟩;have T0:(0:Int)<=zcp k C:=O;have a:((s*v c).natAbs:Int)<=zcp k C*C:=by
  rw[aR,aI];exact df O (by have:=hv c hc;lia) O T0
 have b:((zag k fun i=>t i*á (num i.toNat) c).natAbs:Int)<=k*(zcp k C*C):=zT fun i hi=>by
  rw[aR,aI,ae];exact df (by have:=tb i hi;lia) (by have:=hs _ c (F.uD i hi) hc;lia) O T0
 rw[kM,fQ,cY];omega
def O7 {α:Type}(f:α->Nat):∀{l:List α},l≠[]->∃a,a∈l/\∀b,b∈l->f b<=f a
 | [],h=>absurd Z h
 | [a],_=>⟨a,av,fun b hb=>by rw[cm.mp hb];exact aG _⟩
 | a::b::l,_=>by
  obtain⟨x,hx,mx⟩:=O7 f (l:=b::l) lB;rcases ů (f a) (f x) with c | c
  .exact⟨x,aq _ hx,fun y hy=>(gC.mp hy).elim (fun e=>by rw[e];lia) (mx y)⟩
  .exact⟨a,av,fun y hy=>(gC.mp hy).elim (fun e=>by rw[e];lia) fun h=>by have:=mx y h;lia⟩
def Jd:∀{l:ŏ}{x:Int},l.Nodup->(∀q,q∈l->zbn (q:Int)/\(q:Int)∣x)->(zfe l:Int)∣x
 | [],x,_,_=>g7 _
 | q::l,x,nd,h=>by
  obtain⟨hq,x',hx⟩:=h q ē;rw[fU] at nd;have r:=Jd (l:=l) (x:=x') nd.2 fun p hp=>by
   have a:=h p (aq _ hp);refine⟨a.1,?_⟩;rw[hx] at a;refine qk a.1 a.2 fun d=>?_;have:p≠q:=fun e=>nd.1 (e▸hp);have le:=aW (by have:=hq.1;lia) d;exact hq.2 p a.1.1 O d
  show ((q*zfe l:Nat):Int)∣x
  rw[aI,hx];exact Int.mul_dvd_mul (cq _) r
def ME {S:ŏ}(ne:S≠[])(Ma:∀q,q∈S->zbn (q:Int))(nd:S.Nodup){ê:ř}{C Cg:Nat}(hC:1<=C)(CC:C<=Cg)(hs:∀(j:Nat)(c:Nat),j<n->c<w->(á j c).natAbs<=C)(hg:∀c:Nat,c<w->(ê c).natAbs<=Cg)
 (big:∀k,k<=n->k<=w->(2*(k*C)+1)^k*((k+1)*(zcp k Cg*Cg))<zfe S):∃q,q∈S/\Good q w n á ê:=by
  refine bn fun no=>?_;have ex:∀q:Nat,∃F:Nat×(Nat->Nat)×(Nat->Nat),q∈S->Fr q w n á F.1 F.2.1 F.2.2/\¬((∀j,j<n->Hg w á F.1 F.2.1 (á j))/\(Hm q w á F.1 F.2.1 ê->Hg w á F.1 F.2.1 ê)):=fun q=>by
    by_cases h:q∈S
    · refine bn fun z=>no ⟨q,h,fun k num col F=>bn fun y=>z ⟨(k,num,col),fun _=>⟨F,y⟩⟩⟩
    · exact⟨(0,id,id),fun z=>absurd z h⟩
  obtain⟨F,hF⟩:=ö ex;obtain⟨p,pS,mx⟩:=O7 (fun q=>(F q).1) ne;have hsg:∀(j:Nat)(c:Nat),j<n->c<w->(á j c).natAbs<=Cg:=fun j c a b=>aS (hs j c a b) CC;have over:∀(k:Nat)(D:Nat)(G:Int),k<=n->k<=w->1<=D->D<=(2*(k*C)+1)^k->G≠0->(G.natAbs:Int)<=(k+1:Nat)*(zcp k Cg*Cg)->¬∀q,q∈S->(q:Int)∣D*G:=fun k D G kn kw D1 Db G0 Gb all=>by
    have d:=Jd nd fun q hq=>⟨Ma q hq,all q hq⟩;have d':=aU.mpr d;rw[aR,cD,cD] at d';have G1:0<G.natAbs:=O;have le:=fG (dI D1 G1) d';have b:=big k kn kw;have Gb':G.natAbs<=(k+1)*(zcp k Cg*Cg):=by
      have:(G.natAbs:Int)<=(((k+1)*(zcp k Cg*Cg):Nat):Int):=by rw[aI,aI];exact Gb
      lia
    have:=cU Db Gb';lia
  have dl:∀q:Nat,q∈S->∃D:Nat,1<=D/\D<=(2*((F q).1*C)+1)^(F q).1/\∀v:Int->Int,La (F q).1 (fun s t=>á ((F q).2.1 s.toNat) ((F q).2.2 t.toNat)) fun i=>D*v i:=fun q hq=>by
    have fr:=(hF q hq).1;obtain⟨D,D1,Db,_,al⟩:=both (Ma q hq) hC fr.ind fun i t hi ht=>by
      rw[ae,ae];exact hs _ _ (fr.uD i hi) (fr.colw t ht)
    exact⟨D,D1,Db,al⟩
  -- all é zjA on as ë è as there are at most
  have é:∀q:Nat,q∈S->(F q).1=(F p).1->∀j,j<n->Hg w á (F q).1 (F q).2.1 (á j):=fun q hq ek j hj=>bn fun z=>by
    have fr:=(hF q hq).1;obtain⟨D,D1,Db,al⟩:=dl q hq;obtain⟨t,s,c,hc,ht,nz,Gb⟩:=res (Ma q hq) O fr hsg (hsg j · hj) z;have le:=fr.HF (Ma q hq);exact over _ D _ le.1 le.2 D1 Db nz Gb fun q' zV=>Ut (Ma q' zV) fr.colw fr.uD al (hF q' zV).1 (by have:=mx q' zV;lia) ((hF q' zV).1.all j hj) ht hc
  have fr:=(hF p pS).1;obtain⟨D,D1,Db,al⟩:=dl p pS;have st:=é p pS Z;have gl:Hm p w á (F p).1 (F p).2.1 ê/\¬Hg w á (F p).1 (F p).2.1 ê:=by
    have b:=(hF p pS).2;refine bn fun z=>b ⟨st,fun h=>bn fun y=>z ⟨h,y⟩⟩
  obtain⟨t,s,c,hc,ht,nz,Gb⟩:=res (Ma p pS) O fr hsg hg gl.2;have le:=fr.HF (Ma p pS);refine over _ D _ le.1 le.2 D1 Db nz Gb fun q hq=>?_;have kk:=mx q hq
  by_cases e:(F q).1=(F p).1
  · have hm:Hm q w á (F q).1 (F q).2.1 ê:=by
      refine bn fun z=>(hF q hq).2 ⟨é q hq e,fun h=>absurd h z⟩
    exact Ut (Ma q hq) fr.colw fr.uD al (hF q hq).1 kk hm ht hc
  · refine bn fun z=>?_
    have:=DU (Ma q hq) fr.colw fr.uD al (fun d=>z (aD d)) (hF q hq).1;lia
end
end Mx
open Mx renaming Good→zey
namespace Lt
def Ev.at {m:Int}{K:Nat}:∀{c:Nat}{ls:ĸ},Ev m K c ls->∀{i:Nat}{l:ń},ls[i]?=some l->l.length=K/\(∀j,j<c+i->g l j=0)/\1<=g l (c+i)/\g l (c+i)∣m
 | c,l::ls,h,0,l',e=>by cases e;exact h.1
 | c,l::ls,h,i+1,l',e=>by
  have:=Ev.at h.2 (i:=i) (l:=l') e;rw[show c+(i+1)=c+1+i by lia];exact this
def ML.at {m:Int}{k:Nat}:∀{c:Nat}{ls:ĸ},ML m k c ls->∀{i:Nat}{l:ń},ls[i]?=some l->∀a:Int->Int,(∀(j:Nat)(l':ń),i<j->ls[j]?=some l'->m∣dt k l' a)->m∣m/g l (c+i)*dt k l a
 | c,l::ls,h,0,l',e,a,kl=>by
  cases e;refine h.1 a fun y hy=>?_;obtain⟨j,hj⟩:=List.getElem?_of_mem hy;exact kl (j+1) y (jP j) hj
 | c,l::ls,h,i+1,l',e,a,kl=>by
  have:=ML.at h.2 (i:=i) (l:=l') e a fun j y ij hy=>kl (j+1) y (kL ij) hy;rw[show c+(i+1)=c+1+i by lia];exact this
structure HU (m:Int)(k col:Nat)(ls:ĸ)(j:Nat)(a:ř):Prop where
 lo:∀i:Nat,i<j->a i=0
 hi:∀i:Nat,col<i->a i=0
 at_:∀l,ls[col]?=some l->a col=m/g l col
 kl:∀(i:Nat)(l:ń),j<=i->ls[i]?=some l->m∣dt k l a
def Bf {F:ř}{c:Nat}:∀{k:Nat},c<k->(∀i:Nat,i<k->i≠c->F i=0)->zag k F=F c
 | 0,h,_=>absurd h (bS _)
 | k+1,h,z=>by
  show zag k F+F k=F c
  rcases ť.mp h with y | y
  .rw[Bf y fun i hi ne=>z i (bT hi) ne,z k (bQ k) O,dL]
  .have:zag k F=0:=by
    rw[zbc (G:=fun _=>0) fun i hi=>z i (bT hi) O];exact zdh k
   rw[this,eI,y]
def XX {m:Int}{K k col:Nat}{ls:ĸ}(t:Ev m K 0 ls)(hc:col<k){l:ń}(el:ls[col]?=some l):HU m k col ls col (fun x=>if x=col then m/g l col else 0):=by
 refine⟨fun i hi=>ah O,fun i hi=>ah O,fun l' e=>?_,fun i l' hi e=>?_⟩
 .rw[el] at e;cases e;exact if_pos Z
 .have ti:=t.at e;rw[eV] at ti;have e1:dt k l' (fun x=>if x=(col:Int) then m/g l col else 0)=g l' col*(m/g l col):=by
   unfold dt;rw[Bf (c:=col) hc fun j _ ne=>by
    show g l' (j:Int).toNat*(if (j:Int)=col then m/g l col else 0)=0
    rw[ah O,bi]]
   show g l' (col:Int).toNat*(if (col:Int)=col then m/g l col else 0)=_
   rw[aA Z,ae]
  rw[e1];rcases Ī hi with y | y
  .rw[ti.2.1 col y,aZ];exact bx _
  .subst y;rw[el] at e;cases e;rw[b8 ti.2.2.2];exact cq m
def Kq {k:Nat}{v:ń}{a b:ř}(h:∀i:Nat,i<k->g v i≠0->a i=b i):dt k v a=dt k v b:=by
 unfold dt;refine zbc fun i hi=>?_;rw[ae]
 by_cases z:g v i=0
 .rw[z,aZ,aZ]
 .rw[h i hi z]
def O9 {F:ř}{c:Nat}{x:Int}:∀{k:Nat},c<k->F c=0->(zag k fun i=>if i=c then x else F i)=zag k F+x
 | 0,h,_=>absurd h (bS _)
 | k+1,h,z=>by
  show (zag k fun i=>if i=c then x else F i)+(if (k:Int)=c then x else F k)=zag k F+F k+x
  rcases ť.mp h with y | y
  .rw[O9 y z,ah O];lia
  .subst y;rw[aA Z,z,zbc (G:=F) fun i hi=>ah O];lia
def YC {m:Int}(hm:1<=m){K k col p:Nat}{ls:ĸ}(t:Ev m K 0 ls)(w:ML m k 0 ls)(hc:col<k)(pc:p<col){a:ř}(b:HU m k col ls (p+1) a){l:ń}(el:ls[p]?=some l) :
  g l p∣dt k l a/\HU m k col ls p (fun x=>if x=p then (-(dt k l a/g l p))%(m/g l p) else a x):=by
 have tp:=t.at el;have hp:=w.at el a fun j l' pj e=>b.kl j l' pj e;rw[eV] at tp hp;obtain⟨ll,lz,l1,r,hr⟩:=tp;have mr:m/g l p=r:=by rw[hr];exact aC _ O
 have r1:1<=r:=by
  rcases ū r 1 with z | z
  .have:=aB (show r<=0 by lia) (show 0<=g l p by lia);lia
  .exact z
 have dv:g l p∣dt k l a:=by
  rw[mr] at hp;obtain⟨z,hz⟩:=hp;refine⟨z,aL (show r≠0 by lia) ?_⟩;rw[hz,hr];grind
 refine⟨dv,fun i hi=>?_,fun i hi=>?_,fun l' e=>?_,fun i l' hi e=>?_⟩
 .show (if (i:Int)=p then _ else a i)=0
  rw[ah O];exact b.lo i O
 .show (if (i:Int)=p then _ else a i)=0
  rw[ah O];exact b.hi i hi
 .show (if (col:Int)=p then _ else a col)=_
  rw[ah O];exact b.at_ l' e
 .rcases Ī hi with y | y
  .have ti:=t.at e;rw[eV] at ti;rw[Kq (b:=a) fun j hj nz=>?_]
   .exact b.kl i l' y e
   .by_cases z:(j:Int)=p
    .exact absurd (ti.2.1 j O) nz
    .exact ah z
  .subst y;rw[el] at e;cases e;obtain⟨x,hx⟩:=dv;have xq:dt k l a/g l p=x:=by rw[hx];exact aC _ O
   rw[mr,xq];have e1:dt k l (fun y=>if y=(p:Int) then (-x)%r else a y)=dt k l a+g l p*((-x)%r):=by
    have:(fun y:Int=>g l y.toNat*(if y=(p:Int) then (-x)%r else a y))=fun y=>if y=(p:Int) then g l p*((-x)%r) else g l y.toNat*a y:=funext fun y=>by
     by_cases c:y=(p:Int)
     .rw[aA c,aA c,c,ae]
     .rw[ah c,ah c]
    unfold dt;rw[this,O9 (F:=fun y=>g l y.toNat*a y) (c:=p) O (by rw[b.lo p O,bi])]
   rw[e1,hx];obtain⟨z,hz⟩:=nF (-x) r;have:(-x)%r=r*z-x:=O;refine⟨z,?_⟩;rw[this]
   conv=>rhs;rw[hr]
   grind
def HU.not {m:Int}(hm:1<=m){K k col:Nat}{ls:ĸ}(t:Ev m K 0 ls)(hc:col<k){a:ř}(b:HU m k col ls 0 a){l:ń}(el:ls[col]?=some l){left:ń}(z:∀i,i<col->g left i=0)(nd:¬g l col∣g left col):¬m∣dt k left a:=fun d=>by
 have tp:=t.at el;rw[eV] at tp;obtain⟨_,_,l1,r,hr⟩:=tp;have mr:m/g l col=r:=by rw[hr];exact aC _ O
 have e1:dt k left a=g left col*r:=by
  unfold dt;rw[Bf (c:=col) hc fun j _ ne=>?_,ae,b.at_ l el,mr];rw[ae];rcases Ĩ ne with y | y
  .rw[z j y,aZ]
  .rw[b.hi j y,bi]
 rw[e1] at d;obtain⟨y,hy⟩:=d;have r0:r≠0:=fun q=>by rw[q,bi] at hr;lia
 refine nd ⟨y,aL r0 ?_⟩;rw[ay r,hy]
 conv=>lhs;rw[hr]
 grind
def Rec (m:Int)(k r:Nat)(row:Nat->Int->Int)(G:ř)(v:ń):Prop:=∀i:Nat,i<k->m∣g v i-(G i+zag r fun j=>g v (k+j.toNat)*row j.toNat i)
def Rec.mix {m:Int}{K k r:Nat}{row:Nat->Int->Int}{G1 G2:ř}{u v:ń}(lu:u.length=K)(lv:v.length=K)(h1:Rec m k r row G1 u)(h2:Rec m k r row G2 v)(a b:Int):Rec m k r row (fun i=>a*G1 i+b*G2 i) (mix u a v b m):=fun i hi=>by
 obtain⟨x,hx⟩:=h1 i hi;obtain⟨y,hy⟩:=h2 i hi;obtain⟨z,hz⟩:=nF (g u i*a+g v i*b) m;have e1:m∣(zag r fun j=>g (zeo u a v b m) (k+j.toNat)*row j.toNat i)-(zag r fun j=>a*(g u (k+j.toNat)*row j.toNat i)+b*(g v (k+j.toNat)*row j.toNat i)):=pV fun j _=>by
  rw[qV lu lv];obtain⟨q,hq⟩:=nF (g u (k+(j:Int).toNat)*a+g v (k+(j:Int).toNat)*b) m;refine⟨q*row (j:Int).toNat i,?_⟩;have:(g u (k+(j:Int).toNat)*a+g v (k+(j:Int).toNat)*b)%m=m*q+(g u (k+(j:Int).toNat)*a+g v (k+(j:Int).toNat)*b):=O;rw[this];grind
 rw[zca,zbk,zbk] at e1;obtain⟨q,hq⟩:=e1;rw[qV lu lv];generalize (zag r fun j=>g (zeo u a v b m) (k+j.toNat)*row j.toNat i)=s at *;generalize (zag r fun j=>g u (k+j.toNat)*row j.toNat i)=s1 at *;generalize (zag r fun j=>g v (k+j.toNat)*row j.toNat i)=s2 at *;refine⟨z+a*x+b*y-q,?_⟩;grind
end Lt
namespace Rx
variable {l a b row other:ń}{i n:Nat}{x m:Int}
open Lt (g)
def Cw (h:l.length<=i):g l i=0:=by unfold g;rw[List.getD_eq_getElem?_getD,List.getElem?_eq_none h];rfl
def nU {v:Int}(h:l[i]?=some v):g l i=v:=by unfold g;rw[List.getD_eq_getElem?_getD,h];rfl
def nR (h:i<l.length):l[i]?=some (g l i):=by
 have e:l[i]?=some l[i]:=az h;rw[e,nU e]
def tE {f:ř}(h:i<l.length):g (l.map f) i=f (g l i):=nU (by rw[af,nR h];rfl)
def AO {f:ŗ}(h:i<a.length)(h':i<b.length):g (ž f a b) i=f (g a i) (g b i):=nU (by rw[cy,nR h,nR h'])
def tW (h:i<a.length):g (a++b) i=g a i:=by unfold g;rw[List.getD_eq_getElem?_getD,List.getD_eq_getElem?_getD,List.getElem?_append_left h]
def yz (h:a.length=n):g (a++b) (n+i)=g b i:=by unfold g;rw[List.getD_eq_getElem?_getD,List.getD_eq_getElem?_getD,List.getElem?_append_right O];congr 2;lia
def Es:g (a.drop n) i=g a (n+i):=by unfold g;rw[List.getD_eq_getElem?_getD,List.getD_eq_getElem?_getD,List.getElem?_drop]
def uW (h:x∈l):∃i,i<l.length/\g l i=x:=by
 obtain⟨i,hi,e⟩:=ų h;exact⟨i,hi,nU (by rw[az hi,e])⟩
def qa (h:i<l.length):g l i∈l:=ao (nR h)
def DL (h:i<n):g (ş n x) i=x:=nU (by rw[fI,aA h])
def TH (l:a.length=b.length)(h:∀i,i<a.length->g a i=g b i):a=b:=by
 refine iV fun i=>?_;rcases ů i a.length with c | c
 .rw[nR c,nR O,h i c]
 .rw[cF c,cF O]
def Af {j:Nat}(h:i<a.length):g (a.set i x) j=if j=i then x else g a j:=by
 unfold g;rw[ak,ak]
 by_cases c:j=i
 .rw[aA c,c,gQ h];rfl
 .rw[ah c,gY O]
def dot (a b:ń):Int:=(ž (· * ·) a b).sum
def p6 (la:a.length=n)(lb:b.length=n):dot a b=zag n fun i=>g a i.toNat*g b i.toNat:=by
 rw[<-Pl.LH (fun i=>g a i.toNat*g b i.toNat)];unfold dot;congr 1;refine iV fun i=>?_;rw[cy,af];rcases ů i n with c | c
 .rw[nR O,nR O,dj c];rfl
 .rw[cF O,cF O,cF (l:=ŭ n) (by rw[fZ];omega)];rfl
def vk (row:ń)(ë:Int)(other:ń)(m:Int):ń:=if ë=0 then row else ž (fun x y=>(x-ë*y)%m) row other
def BW (l:row.length=other.length)(ë m:Int):(vk row ë other m).length=row.length:=by
 unfold vk;split
 .rfl
 .rw[eQ,<-l,gT]
def In (m:Int)(l:ń):Prop:=∀x∈l,0<=x/\x<m
def In.g {m:Int}{l:ń}(h:In m l)(m0:0<m)(i:Nat):0<=zbh l i/\zbh l i<m:=by
 rcases ů i l.length with c | c
 .exact h _ (qa c)
 .rw[Cw c];lia
def In.mod (m0:0<m)(l:ń)(f:ř):In m (l.map fun x=>f x%m):=fun x hx=>by
 obtain⟨y,_,rfl⟩:=ţ.mp hx;exact⟨aH _ O,aF _ m0⟩
def In.zip (m0:0<m)(a b:ń)(f:ŗ):In m (ž (fun x y=>f x y%m) a b):=fun x hx=>by
 obtain⟨i,hi,e⟩:=ų hx;rw[List.getElem_zipWith] at e;rw[<-e];exact⟨aH _ O,aF _ m0⟩
def Rm {ë:Int}(m0:0<m)(h:In m row):In m (vk row ë other m):=by
 unfold vk;split
 .exact h
 .exact In.zip m0 _ _ fun x y=>x-ë*y
def Ub {ë:Int}(m0:0<m)(h:In m row)(l:row.length=other.length)(hi:i<row.length):zbh (vk row ë other m) i=(zbh row i-ë*zbh other i)%m:=by
 unfold vk
 by_cases c:ë=0
 .rw[aA c,c,aZ,cS,aT (h.g m0 i).1 (h.g m0 i).2]
 .rw[ah c,AO hi O]
def vA (n i:Nat)(x:Int):ń:=(ş n 0).set i x
def qU (n i:Nat)(x:Int):(vA n i x).length=n:=by unfold vA;rw[Ĺ,List.length_replicate]
def rq {j:Nat}(h:i<n):zbh (vA n i x) j=if j=i then x else 0:=by
 unfold vA;rw[Af (by rw[bq];exact h)]
 by_cases c:j=i
 .rw[aA c,aA c]
 .rw[ah c,ah c];rcases ů j n with d | d
  .exact DL d
  .exact Cw (by rw[bq];exact d)
def zB (k:Nat)(è:ĸ):ĸ:=(ŭ k).map fun c=>è.map fun row=>g row c
def ve:ń->ŏ->ń->ń
 | l,[],_=>l
 | l,_::_,[]=>l
 | l,p::ps,x::xs=>ve (l.set p x) ps xs
def wC (n:Nat)(ps:ŏ)(xs:ń):ń:=ve (ş n 0) ps xs
theorem DZ (n:Nat)(ps:ŏ)(xs:ń):wC n ps xs=ve (ş n 0) ps xs:=rfl
def z9:∀(l:ń)(ps:ŏ)(xs:ń)(p:Nat)(x:Int),ps.length=xs.length->ve l (ps++[p]) (xs++[x])=(ve l ps xs).set p x
 | l,[],[],p,x,_=>rfl
 | l,q::ps,y::xs,p,x,h=>z9 (l.set q y) ps xs p x (by simpa using h)
 | l,[],_::_,p,x,h=>by simp at h
 | l,_::_,[],p,x,h=>by simp at h
def CJ:∀(l:ń)(ps:ŏ)(xs:ń),(ve l ps xs).length=l.length
 | l,[],_=>by rw[ve]
 | l,_::_,[]=>rfl
 | l,p::ps,x::xs=>by
  show (ve (l.set p x) ps xs).length=l.length
  rw[CJ,cI]
def qF (n:Nat)(ps:ŏ)(xs:ń):(wC n ps xs).length=n:=by rw[DZ,CJ,bq]
def uY {c:Nat}:∀(l:ń)(ps:ŏ)(xs:ń),c∉ps->(∀p∈ps,p<l.length)->g (ve l ps xs) c=g l c
 | l,[],_,_,_=>by rw[ve]
 | l,_::_,[],_,_=>rfl
 | l,p::ps,x::xs,h,hl=>by
  rw[gC,not_or] at h;show g (ve (l.set p x) ps xs) c=g l c
  rw[uY (l.set p x) ps xs h.2 (fun q hq=>by rw[cI];exact hl q (aq _ hq)),Af (hl p av),ah h.1]
def Gs:∀(l:ń)(ps:ŏ)(xs:ń),ps.Nodup->(∀p∈ps,p<l.length)->∀(i p:Nat)(x:Int),ps[i]?=some p->xs[i]?=some x->g (ve l ps xs) p=x
 | l,[],_,_,_,i,p,x,h,_=>by simp at h
 | l,_::_,[],_,_,i,p,x,_,h=>by simp at h
 | l,q::ps,y::xs,nd,hl,i,p,x,hp,hx=>by
  rw[fU] at nd;have hl':∀p∈ps,p<(l.set q y).length:=fun z hz=>by rw[cI];exact hl z (aq _ hz)
  show g (ve (l.set q y) ps xs) p=x
  cases i with
  | zero =>
   rw[List.getElem?_cons_zero] at hp hx;cases hp;cases hx;rw[uY _ ps xs nd.1 hl',Af (hl q av),aA Z]
  | succ i =>
   rw[eM] at hp hx;exact Gs (l.set q y) ps xs nd.2 hl' i p x hp hx
def wL {n c:Nat}{ps:ŏ}{xs:ń}(h:c∉ps)(hl:∀p∈ps,p<n):g (wC n ps xs) c=0:=by
 rw[DZ,uY _ ps xs h (fun p hp=>by rw[bq];exact hl p hp)];rcases ů c n with d | d
 .exact DL d
 .exact Cw (by rw[bq];exact d)
def KM {n:Nat}{ps:ŏ}{xs:ń}(nd:ps.Nodup)(hl:∀p∈ps,p<n){i p:Nat}{x:Int}(hp:ps[i]?=some p)(hx:xs[i]?=some x):g (wC n ps xs) p=x:=by
 rw[DZ];exact Gs _ ps xs nd (fun p hp=>by rw[bq];exact hl p hp) i p x hp hx
def Pe {n:Nat}{F:ř}:∀{ps:ŏ}{xs:ń}{k:Nat},ps.length=k->xs.length=k->ps.Nodup->(∀p∈ps,p<n) ->
  (zag n fun c=>F c*g (wC n ps xs) c.toNat)=zag k fun i=>F (ps.getD i.toNat 0)*g xs i.toNat:=by
 intro ps xs k lp lx nd hl
 -- each filled place by its own
 have e1:(zag n fun c=>F c*g (wC n ps xs) c.toNat)=zag n fun c=>zag k fun i=>if c=(ps.getD i.toNat 0:Int) then F c*g xs i.toNat else 0:=zbc fun c hc=>by
  rw[ae]
  by_cases m:c∈ps
  .obtain⟨j,hj,ej⟩:=ų m;have pj:ps[j]?=some c:=by rw[az hj,ej]
   rw[KM nd hl pj (nR O)];have uni:∀i:Nat,i<k->(c:Int)=(ps.getD (i:Int).toNat 0:Int)->i=j:=fun i hi z=>by
    have z':c=ps.getD i 0:=by rw[ae] at z;lia
    rw[ak,az (show i<ps.length by lia)] at z';have pw:=dO.mp nd;have z2:c=ps[i]'O:=z';rcases Ĭ i j with q | q | q
    .exact absurd (by rw[<-z2,ej]) (pw i j O hj q)
    .exact q
    .exact absurd (by rw[<-z2,ej]) (pw j i hj O q)
   rw[Lt.Bf (c:=j) O fun i hi ne=>ah fun z=>ne (uni i hi z)]
   .have:ps.getD (j:Int).toNat 0=c:=by rw[ae,ak,pj];rfl
    rw[this,aA Z,ae]
  .rw[wL m hl,bi];have non:∀i:Nat,i<k->¬(c:Int)=(ps.getD (i:Int).toNat 0:Int):=fun i hi z=>m (by
    have z':c=ps.getD i 0:=by rw[ae] at z;lia
    rw[ak,az (show i<ps.length by lia)] at z';rw[z'];exact cJ _)
   rw[zbc (G:=fun _=>0) fun i hi=>ah (non i hi),zdh]
 rw[e1,zdf];refine zbc fun i hi=>?_;have pi:ps.getD (i:Int).toNat 0<n:=by
  rw[ae,ak,az (show i<ps.length by lia)];exact hl _ (cJ _)
 rw[Ld.vn (G:=fun c=>F c*g xs (i:Int).toNat) O,aA O]
variable {step:ń}
open Mx
abbrev Fd:=Nat×Nat×ń
def st (é:ĸ):Nat->Int->Int:=fun j c=>g (é.getD j []) c.toNat
def fn (l:ń):Int->Int:=fun c=>g l c.toNat
def nm (fs:List Fd)(t:Nat):Nat:=(fs.getD t (0,0,[])).1
def cl (fs:List Fd)(t:Nat):Nat:=(fs.getD t (0,0,[])).2.1
def Hz (fs:List Fd)(t:Nat):Int->Int:=fn (fs.getD t (0,0,[])).2.2
def MV (p:Int)(l:ń)(f:Fd):ń:=vk l (g l f.2.1) f.2.2 p
def rB (p:Int)(fs:List Fd)(step:ń):ń:=fs.foldl (MV p) (step.map fun x=>x%p)
def yd (p:Int)(fs:List Fd)(f:Fd)(step:ń):rB p (fs++[f]) step=MV p (rB p fs step) f:=by unfold rB;rw[List.foldl_append];rfl
theorem Gu (p:Int)(step:ń):rB p [] step=step.map fun x=>x%p:=rfl
def UG (p:Int)(w:Nat)(fs:List Fd):Prop:=∀f∈fs,f.2.2.length=w/\In p f.2.2/\f.2.1<w
def vh {p:Int}(p0:0<p){w:Nat}(l:step.length=w):∀{k:Nat}{fs:List Fd},fs.length=k->UG p w fs->(rB p fs step).length=w/\In p (rB p fs step):=by
 intro k
 induction k with
 | zero =>
  intro fs e _;rw[jb e,Gu];exact⟨by rw[aa,l],In.mod p0 step fun x=>x⟩
 | succ k ih =>
  intro fs e h;have ne:fs≠[]:=fun z=>by rw[z] at e;cases e
  obtain⟨Fc,f,rfl⟩:∃Fc f,fs=Fc++[f]:=⟨fs.dropLast,fs.getLast ne,(Ĉ ne).symm⟩;rw[aP] at e;have r:=ih (fs:=Fc) (by simpa using e) fun f hf=>h f (List.mem_append_left _ hf);have hf:=h f (bP _ av);rw[yd];exact⟨by unfold MV;rw[BW (by rw[r.1,hf.1]),r.1],Rm p0 r.2⟩
def FM {p:Int}(p0:0<p){w:Nat}{á:Nat->Int->Int}{k:Nat}{num col:Nat->Nat}{row:Nat->Int->Int}(cr:Ht p w á k num col row){fs:List Fd}(rk:UG p w fs)(lk:fs.length<=k)(ag:∀(t:Nat)(f:Fd),fs[t]?=some f->col t=f.2.1/\row t=fn f.2.2)
 (l:step.length=w):Mp p w á k num col (fn step) fs.length (fn (rB p fs step)):=by
  obtain⟨m,hm⟩:∃m,m=fs.length:=⟨_,Z⟩
  induction m generalizing fs with
  | zero =>
    rw[jb hm.symm,Gu];refine Mp.start fun c hc=>?_;unfold fn;rw[ae,tE O];exact zds _ _
  | succ m ih =>
    have ne:fs≠[]:=fun z=>by rw[z] at hm;cases hm
    obtain⟨Fc,f,rfl⟩:∃Fc f,fs=Fc++[f]:=⟨fs.dropLast,fs.getLast ne,(Ĉ ne).symm⟩;have rk':UG p w Fc:=fun f hf=>rk f (cX _ hf);have l':Fc.length=m:=by rw[aP] at hm;simpa using hm.symm
    have hf:=rk f (bP _ av);have a:=ih rk' (by rw[aP] at lk;lia) (fun t f h=>ag t f (by rw[dM (by exact(aJ.mp h).1)];exact h)) l'.symm;have b:=ag Fc.length f (by rw[dH (aG _),iY];rfl);have ok:=vh p0 l Z rk';have e:(Fc++[f]).length=Fc.length+1:=by rw[aP];rfl
    rw[e,yd];refine Mp.step cr (by rw[e] at lk;lia) a fun c hc=>?_;rw[b.1,b.2];unfold fn MV;rw[ae,ae,Ub p0 ok.2 (by rw[ok.1,hf.1]) O];exact zds _ _
structure sK (p:Int)(w:Nat)(é:ĸ)(i:Nat)(fs:List Fd):Prop where
 cor:Ht p w (st é) fs.length (nm fs) (cl fs) (Hz fs)
 rok:UG p w fs
 lt:∀f∈fs,f.1<i
 srt:fs.Pairwise fun a b=>a.1<b.1
 all:∀j,j<i->Hm p w (st é) fs.length (nm fs) (st é j)
def sK.start (p:Int)(w:Nat)(é:ĸ):sK p w é 0 [] :=
 ⟨Ht.start ..,fun f h=>(nomatch h),fun f h=>(nomatch h),.nil,fun j h=>absurd h (bS _)⟩
def getD_at {fs:List Fd}{t:Nat}{f:Fd}(h:fs[t]?=some f):fs.getD t (0,0,[])=f:=by rw[ak,h];rfl
def sK.rB {p:Int}(p0:0<p){w:Nat}{é:ĸ}{i:Nat}{fs:List Fd}(h:sK p w é i fs){step:ń}(l:step.length=w):Mp p w (st é) fs.length (nm fs) (cl fs) (fn step) fs.length (fn (rB p fs step)) :=
 FM p0 h.cor h.rok (aG _) (fun t f e=>⟨by unfold cl;rw[getD_at e],by unfold Hz;rw[getD_at e]⟩) l
def sK.hm {p:Int}(p0:0<p){w:Nat}{é:ĸ}{i:Nat}{fs:List Fd}(h:sK p w é i fs)(l:step.length=w)(z:∀c,c<w->g (Rx.rB p fs step) c=0):Hm p w (st é) fs.length (nm fs) (fn step):=by
 obtain⟨x,hx⟩:=(h.rB p0 l).eq;refine⟨x,fun c hc=>?_⟩;have a:=hx c hc;unfold fn at a;rw[ae,z c hc] at a;have:=dZ.mpr a;unfold fn;rw[ae];rwa [show ∀x y:Int,-(0-(x-y))=x-y from fun x y=>by lia] at this
def O2 {é:ĸ}{i:Nat}(e:é[i]?=some step):st é i=fn step:=by
 unfold st fn;funext c;rw[ak,e];rfl
def sK.none {p:Int}(p0:0<p){w:Nat}{é:ĸ}{i:Nat}{fs:List Fd}(h:sK p w é i fs)(e:é[i]?=some step)(l:step.length=w)(z:∀c,c<w->g (Rx.rB p fs step) c=0):sK p w é (i+1) fs:=by
 refine⟨h.cor,h.rok,fun f hf=>bT (h.lt f hf),h.srt,fun j hj=>?_⟩;rcases ť.mp hj with q | q
 .exact h.all j q
 .rw[q,O2 e];exact h.hm p0 l z
def sK.some {p:Int}(hp:zbn p){w:Nat}{é:ĸ}{i:Nat}{fs:List Fd}(h:sK p w é i fs){step:ń}(e:é[i]?=some step)(l:step.length=w){c:Nat}(hc:c<w)(nz:g (Rx.rB p fs step) c≠0){u:Int}(hu:p∣g (Rx.rB p fs step) c*u-1) :
  sK p w é (i+1) (fs++[(i,c,(Rx.rB p fs step).map fun x=>x*u%p)]):=by
 have p2:=hp.1;have p0:0<p:=O;have ok:=vh p0 l Z h.rok;obtain⟨f,hf⟩:∃f:Fd,f=(i,c,(Rx.rB p fs step).map fun x=>x*u%p):=⟨_,Z⟩;rw[<-hf];have Sn:∀t,t<fs.length->(fs++[f]).getD t (0,0,[])=fs.getD t (0,0,[]):=fun t ht=>by rw[ak,ak,dM ht]
 have at2:(fs++[f]).getD fs.length (0,0,[])=f:=getD_at (by rw[dH (aG _),iY];rfl);have cr:=h.cor.congr (num':=nm (fs++[f])) (col':=cl (fs++[f])) (row':=Hz (fs++[f])) (fun t ht=>by unfold nm;rw[Sn t ht]) (fun t ht=>by unfold cl;rw[Sn t ht]) (fun t ht=>by unfold Hz;rw[Sn t ht]);have en:nm (fs++[f]) fs.length=i:=by unfold nm;rw[at2,hf]
 have ec:cl (fs++[f]) fs.length=c:=by unfold cl;rw[at2,hf]
 have er:Hz (fs++[f]) fs.length=fn ((Rx.rB p fs step).map fun x=>x*u%p):=by unfold Hz;rw[at2,hf]
 have RB:=FM p0 cr h.rok (aG _) (fun t f' e'=>by
  have tl:=(aJ.mp e').1;refine⟨by unfold cl;rw[Sn t tl,getD_at e'],by unfold Hz;rw[Sn t tl,getD_at e']⟩) l
 have fg:fn (Rx.rB p fs step) c=g (Rx.rB p fs step) c:=by unfold fn;rw[ŧ]
 have lt:=ok.2.g p0 c;have le:(fs++[f]).length=fs.length+1:=by rw[aP];rfl
 have cor:=cr.snoc hp (left:=fn (Rx.rB p fs step)) (by rw[en,O2 e];exact RB) (by rw[ec];exact hc) (by
  rw[ec,fg];exact fun d=>by
   have:=aW (show 0<g (Rx.rB p fs step) c by lia) d;lia) (u:=u) (by rw[ec,fg];exact hu) (fun c' wQ=>by
   rw[er];unfold fn;rw[ae,tE O];exact zds _ _)
 refine⟨by rw[le];exact cor,fun f' Vn=>?_,fun f' Vn=>?_,?_,fun j hj=>?_⟩
 .rcases ŵ.mp Vn with q | q
  .exact h.rok f' q
  .rw[cm.mp q,hf];exact⟨by rw[aa,ok.1],In.mod p0 _ fun x=>x*u,hc⟩
 .rcases ŵ.mp Vn with q | q
  .exact bT (h.lt f' q)
  .rw[cm.mp q,hf];exact bQ i
 .rw[gf];refine⟨h.srt,iy ..,fun a ha b hb=>?_⟩;rw[cm.mp hb,hf];exact h.lt a ha
 .rw[le];rcases ť.mp hj with q | q
  .obtain⟨x,hx⟩:=h.all j q;refine⟨fun s=>if s=(fs.length:Int) then 0 else x s,fun c' wQ=>?_⟩;have a:=hx c' wQ;have b:(zag (fs.length+1) fun s=>(if s=(fs.length:Int) then 0 else x s)*st é (nm (fs++[f]) s.toNat) c')=zag fs.length fun s=>x s*st é (nm fs s.toNat) c':=by
    show (zag fs.length fun s=>(if s=(fs.length:Int) then 0 else x s)*st é (nm (fs++[f]) s.toNat) c')+(if (fs.length:Int)=fs.length then 0 else x fs.length)*st é (nm (fs++[f]) (fs.length:Int).toNat) c'=_
    rw[aA Z,aZ,dL];refine zbc fun s hs=>?_;rw[ah O,ae];have:nm (fs++[f]) s=nm fs s:=by unfold nm;rw[Sn s hs]
    rw[this]
   rw[b];exact a
  .rw[q];refine⟨fun s=>if s=(fs.length:Int) then 1 else 0,fun c' wQ=>?_⟩;have b:(zag (fs.length+1) fun s=>(if s=(fs.length:Int) then 1 else 0)*st é (nm (fs++[f]) s.toNat) c')=st é i c':=by
    rw[zbc (G:=fun s=>st é (nm (fs++[f]) s.toNat) c'*if s=(fs.length:Int) then 1 else 0) fun s _=>ay ..,n6 (F:=fun s=>st é (nm (fs++[f]) s.toNat) c') (bQ _),ae,en]
   rw[b,cG];exact bx _
def sK.fr {p:Int}{w:Nat}{é:ĸ}{n:Nat}{fs:List Fd}(h:sK p w é n fs):Fr p w n (st é) fs.length (nm fs) (cl fs):=by
 refine⟨h.cor.colw,fun t ht=>?_,h.cor.ind _ (aG _),h.all⟩;unfold nm;rw[getD_at (az ht)];exact h.lt _ (cJ ht)
variable {è ls:ĸ}{i k:Nat}{m:Int}{M:ŗ}
def mt (è:ĸ):Int->Int->Int:=fun i j=>g (è.getD i.toNat []) j.toNat
def vd {row:ń}(h:è[i]?=some row):è.getD i []=row:=by rw[ak,h];rfl
def wJ (è:ĸ)(i j:Nat):mt è i j=g (è.getD i []) j:=by unfold mt;rw[ŧ,ŧ]
def n8 (h:i<è.length):è[i]?=some (è.getD i []):=by rw[ak,az h];rfl
def nI (h:i<è.length):è.getD i []∈è:=ao (n8 h)
def Gr {row other:ń}{ë:Int}(l:row.length=other.length)(hi:i<row.length):m∣g (vk row ë other m) i-(g row i-ë*g other i):=by
 unfold vk
 by_cases c:ë=0
 .rw[aA c,c,aZ,cS,cG];exact bx _
 .rw[ah c,AO hi O];exact zds _ _
def aug (k:Nat)(è:ĸ):ĸ:=è.mapIdx fun i row=>row++vA k i 1
def wl (k:Nat)(ls:ĸ):Int->Int->Int:=fun i j=>g (ls.getD i.toNat []) j.toNat
def wr (k:Nat)(ls:ĸ):Int->Int->Int:=fun i t=>g (ls.getD i.toNat []) (k+t.toNat)
def uZ (m:Int)(c:Nat)(v:Int)(ls:ĸ):ĸ :=
 (ls.map fun row=>vk row (g row c) ((ls.getD c []).map fun x=>x*v%m) m).set c ((ls.getD c []).map fun x=>x*v%m)
def P4 (lr:è.length=k)(lw:∀row∈è,row.length=k):Gj m k (mt è) 0 (wl k (aug k è)) (wr k (aug k è)):=by
 have at_:∀i:Nat,i<k->(aug k è).getD i []=è.getD i []++vA k i 1:=fun i hi=>by
  refine vd ?_;unfold aug;rw[List.getElem?_mapIdx,n8 O];rfl
 have len:∀i:Nat,i<k->(è.getD i []).length=k:=fun i hi=>lw _ (nI O);have A:∀i j:Nat,i<k->j<k->wl k (aug k è) i j=mt è i j:=fun i j hi hj=>by
  unfold wl;rw[ŧ,ŧ,at_ i hi,wJ,tW (by rw[len i hi];exact hj)]
 have B:∀i t:Nat,i<k->wr k (aug k è) i t=if t=i then 1 else 0:=fun i t hi=>by
  unfold wr;rw[ŧ,ŧ,at_ i hi,yz (len i hi),rq hi]
 have s:=Gj.start (m:=m) (k:=k) (M:=mt è);refine⟨fun i j hi hj=>?_,fun i j _ hj=>absurd hj (bS _),fun i t hi ht _ ne=>?_,fun i hi _=>?_⟩
 .rw[A i j hi hj];have a:=s.rc i j hi hj;have e:(zag k fun t=>wr k (aug k è) i t*mt è t j)=zag k fun t=>(fun (i t:Int)=>if t=i then (1:Int) else 0) i t*mt è t j:=zbc fun t ht=>by
   rw[B i t hi]
   by_cases c:t=i
   .rw[aA c];dsimp only;rw[if_pos O]
   .rw[ah c];dsimp only;rw[if_neg O]
  rw[e];exact a
 .rw[B i t hi,ah ne];exact bx _
 .rw[B i i hi,aA Z,cG];exact bx _
def Ng {c:Nat}(ll:ls.length=k)(lw:∀row∈ls,row.length=k+k)(h:Gj m k M c (wl k ls) (wr k ls))(hc:c<k){v:Int}(hv:m∣g (ls.getD c []) c*v-1) :
  Gj m k M (c+1) (wl k (uZ m c v ls)) (wr k (uZ m c v ls)):=by
 have len:∀i:Nat,i<k->(ls.getD i []).length=k+k:=fun i hi=>lw _ (nI O);have own:(uZ m c v ls).getD c []=(ls.getD c []).map fun x=>x*v%m:=by
  refine vd ?_;unfold uZ;rw[gQ zoh]
 have oth:∀i:Nat,i<k->i≠c->(uZ m c v ls).getD i []=vk (ls.getD i []) (g (ls.getD i []) c) ((ls.getD c []).map fun x=>x*v%m) m:=fun i hi ne=>by
  refine vd ?_;unfold uZ;rw[gY O,af,n8 O];rfl
 have cg:∀j:Nat,j<k+k->g ((ls.getD c []).map fun x=>x*v%m) j=g (ls.getD c []) j*v%m:=fun j hj=>tE (by rw[len c hc];exact hj);have o1:∀j:Nat,j<k+k->m∣g ((uZ m c v ls).getD c []) j-g (ls.getD c []) j*v:=fun j hj=>by rw[own,cg j hj];exact zds _ _
 have o2:∀i j:Nat,i<k->i≠c->j<k+k->m∣g ((uZ m c v ls).getD i []) j-(g (ls.getD i []) j-g (ls.getD i []) c*(g (ls.getD c []) j*v)):=fun i j hi ne hj=>by
  rw[oth i hi ne];have a:=Gr (m:=m) (ë:=g (ls.getD i []) c) (row:=ls.getD i []) (other:=(ls.getD c []).map fun x=>x*v%m) (by rw[aa,len i hi,len c hc]) (i:=j) (by rw[len i hi];exact hj);rw[cg j hj] at a;have b:m∣g (ls.getD i []) c*(g (ls.getD c []) j*v%m-g (ls.getD c []) j*v):=ax (zds _ _);have:=bE a b;generalize g (ls.getD c []) j*v%m=y at *;rwa [show ∀a b d e:Int,a-(b-d*y)-d*(y-e)=a-(b-d*e) from fun a b d e=>by grind] at this
 refine h.step hc (v:=v) ?_ (fun j hj=>?_) (fun t ht=>?_) (fun i j hi ne hj=>?_) (fun i t hi ne ht=>?_)
 .unfold wl;rw[ŧ];exact hv
 .unfold wl;rw[ŧ,ŧ];exact o1 j O
 .unfold wr;rw[ŧ,ŧ];exact o1 (k+t) O
 .unfold wl;rw[ŧ,ŧ,ŧ];exact o2 i j hi ne O
 .unfold wr wl;rw[ŧ,ŧ,ŧ];exact o2 i (k+t) hi ne O
def JX {c:Nat}{v:Int}(ll:ls.length=k)(hc:c<k)(lw:∀row∈ls,row.length=k+k):(uZ m c v ls).length=k/\∀row∈uZ m c v ls,row.length=k+k:=by
 have lc:(ls.getD c []).length=k+k:=lw _ (nI O);refine⟨by unfold uZ;rw[Ĺ,š,ll],fun row hr=>?_⟩;unfold uZ at hr;rcases ó hr with q | q
 .obtain⟨r,Ms,rfl⟩:=ţ.mp q;rw[BW (by rw[aa,lc,lw r Ms]),lw r Ms]
 .rw[q,aa,lc]
def NV (ll:ls.length=k)(h:Gj m k M k (wl k ls) (wr k ls)):LI m k (mt (ls.map fun row=>row.drop k)) M:=by
 have e:=h.end;intro i j hi hj;have a:=e i j hi hj;have b:(zag k fun t=>mt (ls.map fun row=>row.drop k) i t*M t j)=zag k fun t=>wr k ls i t*M t j:=zbc fun t ht=>by
  rw[wJ];unfold wr;rw[ae,ae,vd (row:=(ls.getD i []).drop k) (by rw[af,n8 O];rfl),Es]
 rw[b];exact a
def NX {p:Int}(hp:zbn p){x:Int}(nx:¬p∣x){E:Nat}{d:Int}(d1:1<=d)(dm:d∣p^E)(dx:d∣x):d=1:=by
 have c:=Pt.Nd hp nx;have c2:Nat.Coprime (p.natAbs^E) x.natAbs:=jZ E c;have a:d.natAbs∣p.natAbs^E:=by rw[<-k7];exact aU.mpr dm
 have b:d.natAbs∣x.natAbs:=aU.mpr dx;have:=Nat.dvd_gcd a b;rw[c2] at this;have:=fG Ą this;lia
end Rx
open Rx renaming fn→zbg, st→zbq, dot→zbr, cl→zbv, mt→zcd, Fd→zcf, nm→zcq, qa→zcy, rB→zdl, wC→zdn, nU→zdo, nI→zdr, nR→zdv, n8→zdx, vd→zeg, vA→zei, aug→zel, zB→zeq, uW→zer, vk→zfa, qU→zfk
namespace Mx
variable {R:ŗ}
def BU {p:Int}(p2:2<=p){k:Nat}(ci:CI p k R){ê:ř}{D b:Int}{y x:ř}(b0:0<b)(hy:∀i:Nat,i<k->(zag k fun t=>R i t*y t)=D*ê i)(hx:∀i:Nat,i<k->(zag k fun t=>R i t*x t)=b*ê i)
 (one:∀d:Int,d∣b->(∀t:Nat,t<k->d∣x t)->d∣1):b∣D/\∀t:Nat,t<k->D*x t=b*y t:=by
  have e:∀t:Nat,t<k->D*x t=b*y t:=fun t ht=>by
    have:=ci.inj p2 (y:=fun t=>D*x t-b*y t) (fun i hi=>by
      have:(zag k fun t=>R i t*(D*x t-b*y t))=D*(zag k fun t=>R i t*x t) + -b*zag k fun t=>R i t*y t:=by
        rw[<-zbk,<-zbk,<-zca];exact zbc fun t _=>by grind
      rw[this,hx i hi,hy i hi];grind) t ht
    have z:D*x t-b*y t=0:=this;lia
  refine⟨?_,e⟩;obtain⟨G,hG⟩:∃G:Nat,G=ż b D:=⟨_,Z⟩;obtain⟨b',hb⟩:(G:Int)∣b:=by rw[hG];exact ĝ ..
  obtain⟨D',hD⟩:(G:Int)∣D:=by rw[hG];exact ė ..
  have G0:0<G:=by
    rcases õ G with z | z
    · rw[z] at hb;have:b=0:=by rw[hb];exact aZ _
      lia
    · exact z
  have zh:ż b' D'=1:=by
    rw[hb,hD,iz,cD] at hG;have:G*1=G*ż b' D':=by rw[ip];exact hG
    exact(gu G0 this).symm
  have d1:b'∣1:=one b' ⟨G,by rw[hb,ay]⟩ fun t ht=>by
    have h:=e t ht;rw[hb,hD] at h;have h':D'*x t=b'*y t:=aL (show (G:Int)≠0 by lia) (by rw[<-aE,<-aE];exact h);have d:b'∣D'*x t:=⟨y t,h'⟩;have d':=aU.mpr d;rw[aR] at d';exact aU.mp (fH zh d')
  obtain⟨z,hz⟩:=d1;refine⟨z*D',?_⟩;rw[hD,hb];have:(G:Int)*D'=G*(b'*z)*D':=by rw[<-hz,bX]
  rw[this];grind
def zaj {p:Int}(hp:zbn p){k C G:Nat}(hC:1<=C){ê:ř}(ci:CI p k R)(hR:∀i t:Nat,i<k->t<k->(R i t).natAbs<=C)(hg:∀i:Nat,i<k->(ê i).natAbs<=G){D:Nat}(D1:1<=D)(al:∀v:Int->Int,La k R fun i=>D*v i) :
  ∃(x:ř)(s:Int),0<s/\¬p∣s/\(∀i:Nat,i<k->(zag k fun t=>R i t*x t)=s*ê i)/\s∣D/\(∀t:Nat,t<k->(x t).natAbs<=k*(D*(zcp k C*G)))/\∀d:Int,d∣s->(∀t:Nat,t<k->d∣x t)->d∣1:=by
 have p2:=hp.1;obtain⟨x,s,s0,ps,hx,_,_,one⟩:=Bb hp (C:=C+G) O ci (fun i t hi ht=>ĉ (hR i t hi ht) O) (fun i hi=>ĉ (hg i hi) O)
 -- what zbw each place in
 have ex:∀j:Nat,∃X:Int->Int,j<k->(∀i:Nat,i<k->(zag k fun t=>R i t*X t)=D*if i=j then 1 else 0)/\∀t:Nat,t<k->(X t).natAbs<=D*zcp k C:=fun j=>by
  by_cases hj:j<k
  .obtain⟨z,s',Sm,_,hz,zb,_,zbx⟩:=Bb hp hC (ê:=fun i=>if i=(j:Int) then 1 else 0) ci hR (fun i hi=>by
    show (if (i:Int)=j then (1:Int) else 0).natAbs<=C
    by_cases c:(i:Int)=j
    .rw[aA c];exact hC
    .rw[ah c];exact dW _)
   obtain⟨X,hX⟩:=al fun i=>if i=(j:Int) then 1 else 0;obtain⟨sd,e⟩:=BU p2 ci (ê:=fun i=>if i=(j:Int) then 1 else 0) Sm hX hz zbx;refine⟨X,fun _=>⟨fun i hi=>?_,fun t ht=>?_⟩⟩
   .have:=hX i hi;dsimp only at this;rw[this]
    by_cases c:i=j
    .rw[aA c,aA O]
    .rw[ah c,ah O]
   .have n:=cA Ċ (e t ht);rw[aR,aR,cD] at n;have a:=dY D (zb t ht);have b:=b9 (X t).natAbs (show 1<=s'.natAbs by lia);lia
  .exact⟨fun _=>0,fun h=>absurd h hj⟩
 obtain⟨X,hX⟩:=ö ex;have hy:∀i:Nat,i<k->(zag k fun t=>R i t*(fun t=>zag k fun j=>X j.toNat t*ê j) t)=D*ê i:=fun i hi=>by
  have a:(zag k fun t=>R i t*zag k fun j=>X j.toNat t*ê j)=zag k fun j=>zag k fun t=>R i t*X j.toNat t*ê j:=by
   rw[zdf];exact zbc fun t _=>by rw[<-zbk];exact zbc fun j _=>by grind
  show (zag k fun t=>R i t*zag k fun j=>X j.toNat t*ê j)=D*ê i
  rw[a];have b:(zag k fun j=>zag k fun t=>R i t*X j.toNat t*ê j)=zag k fun j=>D*ê j*if j=(i:Int) then 1 else 0:=zbc fun j hj=>by
   rw[zec,ae,(hX j hj).1 i hi]
   by_cases c:i=j
   .rw[aA c,aA O];grind
   .rw[ah c,ah O];grind
  rw[b,n6 (F:=fun j=>D*ê j) hi]
 obtain⟨sd,e⟩:=BU p2 ci s0 hy hx one;refine⟨x,s,s0,ps,hx,sd,fun t ht=>?_,one⟩;have n:=cA Ċ (e t ht);rw[aR,aR,cD] at n;have yb:=Sg.zT (m:=k) (F:=fun j=>X j.toNat t*ê j) (B:=D*(zcp k C*G)) fun j hj=>by
  show (X (j:Int).toNat t*ê j).natAbs<=_
  rw[aR,ae,<-iu];exact cU ((hX j hj).2 t ht) (hg j hj)
 have sD:s.natAbs<=D:=fG D1 (by have:=aU.mpr sd;rwa [cD] at this);have a:=cU sD yb;rw[<-n] at a;exact jv a D1
end Mx
namespace Rx
open Lt (g)
open Mx
def cn (n m:Int):Int:=if 2*(n%m)<=m then n%m else n%m-m
inductive Ch (sc H:Int):ń->Int->Prop where
 | nil:Ch sc H [] 1
 | snoc {l:ń}{b x r0 r1 c0 c1:Int}:Ch sc H l b->zfo sc (x*b%sc) r0 r1 c0 c1->H<=r0->r1<H->Ch sc H (l++[x]) (b*c1.natAbs)
def Ch.pos {sc H:Int}(HH:H<=sc){l:ń}{b:Int}(h:Ch sc H l b):0<b:=by
 induction h with
 | nil=>decide
 | @snoc l b x r0 r1 c0 c1 _ s _ lt ih =>
  have ne:=s.OY O;exact jc ih O
def Ch.done {p:Int}(hp:zbn p){E:Nat}{s:Int}(s0:0<s)(ps:¬p∣s){B H:Int}(sB:s<=B)(hH:4*B<=H)(HH:H*H<=p^E){x:Nat->Int}{l:ń}{b:Int}(h:Ch (p^E) H l b) :
  (∀t,t<l.length->p^E∣s*g l t-x t)->(∀t,t<l.length->((x t).natAbs:Int)<=B)->0<b/\b∣s/\∀t,t<l.length->s∣b*x t:=by
 induction h with
 | nil=>exact fun _ _=>⟨L,g7 _,fun t ht=>absurd ht (bS _)⟩
 | @snoc l b y r0 r1 c0 c1 _ st h0 h1 ih =>
  intro hr hx;have len:(l++[y]).length=l.length+1:=by rw[aP];rfl
  obtain⟨b0,bs,al⟩:=ih (fun t ht=>by have:=hr t O;rwa [tW ht] at this) (fun t ht=>hx t O);have e:g (l++[y]) l.length=y:=by have:=yz (a:=l) (b:=[y]) (n:=l.length) (i:=0) Z;rw[Nat.add_zero] at this;rw[this];rfl
  have hy:=hr l.length O;rw[e] at hy;obtain⟨WK,d1,d2⟩:=Zz hp s0 ps b0 bs hy sB (hx l.length O) hH HH st h0 h1;refine⟨jc b0 WK,d1,fun t ht=>?_⟩;rcases ů t l.length with q | q
  .have:=ax (b:=(c1.natAbs:Int)) (al t q);rwa [show (c1.natAbs:Int)*(b*x t)=b*c1.natAbs*x t by grind] at this
  .have:t=l.length:=O;rw[this];exact d2
def uv {p q:Int}(hp:zbn p)(hq:zbn q):∀{E:Nat},q∣p^E->q=p
 | 0,h=>by
  rw[eU] at h;have:=aW L h;have:=hq.1;lia
 | E+1,h=>by
  rw[bj] at h
  by_cases c:q∣p^E
  .exact uv hp hq c
  .have d:=qk hq h c;have a:=aW (by have:=hp.1;lia) d;rcases ū q p with l | l
   .exact absurd d (hp.2 q hq.1 l)
   .lia
def Ch.red {p:Int}(hp:zbn p){E:Nat}{H Bt:Int}(HH:2*(H*H)<=p^E)(H0:1<=H)(BH:Bt<H){q:Int}(hq:zbn q){l:ń}{b:Int}(h:Ch (p^E) H l b) :
  ∀e:Int,1<=e->b*e=Bt->¬q∣e->q∣b->(∀x∈l,q∣cn (x*Bt) (p^E))->(q=p->∀x∈l,p^E∣cn (x*Bt) (p^E)/p-Bt/p*x)->e8:=by
 have WL:H<=H*H:=by have:=ar H0 (show 0<=H by lia);lia
 induction h with
 | nil =>
  intro e _ _ _ d _ _;have:=aW L d;have:=hq.1;lia
 | @snoc l b x r0 r1 c0 c1 fr s h0 h1 ih =>
  intro e e1 eb qe qb tp ex;have b0:=fr.pos O;have ne:=s.OY O;have WK:0<(c1.natAbs:Int):=O;have bc:1<=b*c1.natAbs:=jc b0 WK;have WM:=s.p1
  by_cases qc:q∣(c1.natAbs:Int)
  .have qc1:q∣c1:=ib.mp qc;have eB:e<=Bt:=by rw[<-eb];have:=ar bc (show 0<=e by lia);lia
   obtain⟨m0,m1,_,Se,det⟩:=s.m;obtain⟨τ,So⟩:∃τ:Int,τ=if 0<=c1 then r1*e else -(r1*e):=⟨_,Z⟩;have small:r1*e<=(H-1)*(H-1):=df O O O O;have sq:(H-1)*(H-1)=H*H-2*H+1:=by grind
   have re0:0<=r1*e:=bF WM O;have τa:((τ.natAbs:Nat):Int)=r1*e:=by rw[So];split<;>omega
   have scp:0<p^E:=O;obtain⟨v,hv⟩:=zds (x*b) (p^E);have con:p^E∣x*Bt-τ:=by
    rw[<-eb,So]
    by_cases sg:0<=c1
    .rw[aA sg,show (c1.natAbs:Int)=c1 by lia];refine⟨e*(-(c1*v)-m1),?_⟩;have:x*b=x*b%p^E-p^E*v:=O;have z:x*(b*c1*e)=x*b*c1*e:=by grind
     rw[z,this,Se];grind
    .rw[ah sg,show (c1.natAbs:Int)=-c1 by lia];refine⟨e*(c1*v+m1),?_⟩;have:x*b=x*b%p^E-p^E*v:=O;have z:x*(b * -c1*e)=-(x*b*c1*e):=by grind
     rw[z,this,Se];grind
   have ce:cn (x*Bt) (p^E)=τ:=JG scp con (by rw[τa];lia);have qτ:=tp x (bP _ av);rw[ce] at qτ;have qr:q∣r1:=by
    have:q∣e*r1:=by
     have a:q∣(τ.natAbs:Int):=ib.mpr qτ;rw[τa,ay] at a;exact a
    exact qk hq this qe
   have qm1:¬q∣m1:=fun d=>by
    have a:q∣m0*c1-m1*c0:=bE (ax qc1) (aD d);have b:q∣1:=by
     rcases det with z | z
     .rwa [z] at a
     .rw[z] at a;exact dZ.mp a
    have:=aW L b;have:=hq.1;lia
   have qsc:q∣p^E:=by
    have a:q∣r1-c1*(x*b%p^E):=bE qr (aD qc1);rw[show r1-c1*(x*b%p^E)=m1*p^E by lia] at a;exact qk hq a qm1
   have qp:=uv hp hq qsc;subst qp;have q0:q≠0:=by have:=hq.1;lia
   obtain⟨zC,RC⟩:=qc1;obtain⟨GW,Mb⟩:=qr;have fin:=ex Z x (bP _ av);rw[ce] at fin;have key:q^E∣e*(GW-zC*(x*b)):=by
    by_cases sg:0<=c1
    .rw[aA sg] at So;have d1:τ/q=GW*e:=by rw[So,Mb,aE,aC _ q0]
     have d2:Bt/q=b*zC*e:=by
      rw[<-eb,show (c1.natAbs:Int)=c1 by lia,RC,show b*(q*zC)*e=q*(b*zC*e) by grind,ę _ q0]
     rw[d1,d2] at fin;rwa [show GW*e-b*zC*e*x=e*(GW-zC*(x*b)) by grind] at fin
    .rw[ah sg] at So;have d1:τ/q=-(GW*e):=by rw[So,Mb,show -(q*GW*e)=q * -(GW*e) by grind,ę _ q0]
     have d2:Bt/q=-(b*zC*e):=by
      rw[<-eb,show (c1.natAbs:Int)=-c1 by lia,RC,show b * -(q*zC)*e=q * -(b*zC*e) by grind,ę _ q0]
     rw[d1,d2] at fin;have:=dZ.mpr fin;rwa [show -(-(GW*e) - -(b*zC*e)*x)=e*(GW-zC*(x*b)) by grind] at this
   have k2:=sH hp qe E key;have k3:q^E∣GW-zC*(x*b%q^E):=by
    have:=bE k2 (ax (b:=zC) (zds (x*b) (q^E)));rwa [show GW-zC*(x*b)-zC*(x*b%q^E-x*b)=GW-zC*(x*b%q^E) by grind] at this
   obtain⟨y,hy⟩:=k3;refine qm1 ⟨y,Č (show q^E≠0 by lia) ?_⟩;have a:r1-c1*(x*b%q^E)=m1*q^E:=O;rw[<-a,Mb,RC];have:q*GW-q*zC*(x*b%q^E)=q*(GW-zC*(x*b%q^E)):=by grind
   rw[this,hy];grind
  .have qb':q∣b:=by
    rw[ay] at qb;exact qk hq qb qc
   refine ih (c1.natAbs*e) (jc WK O) (by rw[<-aE];exact eb) (fun d=>qe (qk hq d qc)) qb' (fun x hx=>tp x (cX _ hx)) (fun z x hx=>ex z x (cX _ hx))
def Ch.zh {p:Int}(hp:zbn p){E:Nat}{H:Int}(HH:2*(H*H)<=p^E)(H0:1<=H){k:Nat}{R:ŗ}(ci:CI p k R){l:ń}(ll:l.length=k){b:Int}(h:Ch (p^E) H l b)(bH:b<H){ê left:ř}
  (lf:∀i:Nat,i<k->(zag k fun t=>R i t*fn l t)+p^E*left i=ê i)(sol:∀i:Nat,i<k->(zag k fun t=>R i t*cn (fn l t*b) (p^E))=b*ê i) :
  ∀d:Int,d∣b->(∀t:Nat,t<k->d∣cn (fn l t*b) (p^E))->d∣1:=fun d db dt=>by
 have WL:H<=H*H:=by have:=ar H0 (show 0<=H by lia);lia
 have b0:=h.pos O;have d0:d≠0:=fun z=>by rw[z] at db;have:=gS.mp db;lia
 by_cases c:d.natAbs=1
 .exact aU.mp (by rw[c];exact jR 1)
 .exfalso;obtain⟨q,hq,qd'⟩:=Pt.DM (n:=(d.natAbs:Int)) O;have qd:q∣d:=ib.mp qd';have à:∀x∈l,∃t:Nat,t<k/\fn l t=x:=fun x hx=>by
   obtain⟨t,ht,e⟩:=uW hx;exact⟨t,O,by unfold fn;rw[ŧ];exact e⟩
  refine h.red hp HH H0 bH hq 1 L (bX b) (fun z=>?_) (bu qd db) (fun x hx=>?_) (fun e=>?_)
  .have:=aW L z;have:=hq.1;lia
  .obtain⟨t,ht,e⟩:=à x hx;rw[<-e];exact bu qd (dt t ht)
  .subst e;have q0:q≠0:=by have:=hq.1;lia
   obtain⟨b',hb⟩:=Int.dvd_trans qd db;have al:=ci.pow (by have:=hq.1;lia) E (y:=fun t=>cn (fn l t*b) (q^E)/q-b'*fn l t) fun i hi=>by
    have e1:q*(zag k fun t=>R i t*(cn (fn l t*b) (q^E)/q-b'*fn l t))=(zag k fun t=>R i t*cn (fn l t*b) (q^E)) + -b*zag k fun t=>R i t*fn l t:=by
     rw[<-zbk,<-zbk,<-zca];refine zbc fun t ht=>?_;have z:=b8 (bu qd (dt t ht));generalize cn (fn l t*b) (q^E)/q=y at *;rw[<-z,hb];grind
    rw[sol i hi] at e1;have e2:=lf i hi;refine⟨b'*left i,aL q0 ?_⟩;show q*(zag k fun t=>R i t*(cn (fn l t*b) (q^E)/q-b'*fn l t))=_
    rw[e1,<-e2,hb];grind
   intro x hx;obtain⟨t,ht,e⟩:=à x hx;have:=al t ht;rw[<-e,show b/q=b' by rw[hb,aC _ q0]];exact this
variable {è:ĸ}
structure Sc (p:Int)(k:Nat)(R:ŗ)(ê:ř)(D B:Nat):Prop where
 hp:zbn p
 ci:CI p k R
 ex:∃(x:ř)(s:Int),0<s/\¬p∣s/\(∀i:Nat,i<k->(zag k fun t=>R i t*x t)=s*ê i)/\s<=B/\(∀t:Nat,t<k->((x t).natAbs:Int)<=B)/\∀d:Int,d∣s->(∀t:Nat,t<k->d∣x t)->d∣1
 al:∀v:Int->Int,La k R fun i=>D*v i
def Qk {a b:Int}(a0:0<=a)(b0:0<=b)(h:a*a<b*b):a<b:=by
 rcases ū a b with c | c
 .exact c
 .have:=df c c b0 a0;lia
section
variable {p:Int}{k D B e:Nat}{R:ŗ}{ê left:ř}{ã:ń}{H b:Int}
def Sc.great (HH:p^e<8*(H*H))(H0:1<=H)(gr:128*((B:Int)*B)<=p^e):4*(B:Int)<=H:=by
 have:(4*(B:Int))*(4*B)<H*H:=by
  rw[show (4*(B:Int))*(4*B)=16*(B*B) by grind];lia
 have:=Qk O O this;lia
def Sc.none (S:Sc p k R ê D B)(lif:Bn k R ê (p^e) (fn ã) left)(ll:ã.length=k){l1 l2:ń}(pre:ã=l1++l2)(fr:Ch (p^e) H l1 b)(Hb:H<=b)(H0:1<=H)(HH:2*(H*H)<=p^e)(H8:p^e<8*(H*H)):p^e<128*((B:Int)*B):=by
 refine kN fun gr=>?_;have p2:=S.hp.1;obtain⟨x,s,s0,ps,hx,sB,xB,_⟩:=S.ex;have big:=Sc.great H8 H0 gr;have le:l1.length<=k:=by rw[<-ll,pre,aP];lia
 obtain⟨b0,bs,_⟩:=fr.done S.hp s0 ps sB big (by have:=Int.mul_nonneg (show 0<=H by lia) (show 0<=H by lia);lia) (x:=fun t=>x t) (fun t ht=>by
  have:=lif.rest O S.ci hx t O;unfold fn at this;rw[ae,pre,tW ht] at this;exact this) (fun t ht=>xB t O)
 have:=aW s0 bs;lia
def Sc.not (S:Sc p k R ê D B)(lif:Bn k R ê (p^e) (fn ã) left)(ll:ã.length=k)(fr:Ch (p^e) H ã b)(H0:1<=H)(HH:2*(H*H)<=p^e)(H8:p^e<8*(H*H))(no:¬∀i:Nat,i<k->(zag k fun t=>R i t*cn (fn ã t*b) (p^e))=b*ê i):p^e<128*((B:Int)*B):=by
 refine kN fun gr=>no ?_;have p2:=S.hp.1;obtain⟨x,s,s0,ps,hx,sB,xB,one⟩:=S.ex;have big:=Sc.great H8 H0 gr;have rs:∀t:Nat,t<k->p^e∣s*fn ã t-x t:=fun t ht=>lif.rest O S.ci hx t ht;obtain⟨b0,bs,al⟩:=fr.done S.hp s0 ps sB big (by have:=Int.mul_nonneg (show 0<=H by lia) (show 0<=H by lia);lia) (x:=fun t=>x t) (fun t ht=>by
  have:=rs t O;unfold fn at this;rwa [ae] at this) (fun t ht=>xB t O)
 have eb:=Ls s0 b0 bs (fun t ht=>al t O) one;have HB:(B:Int)*B >= B:=by
  have:(1:Int)<=B:=O;have:=ar this (show (0:Int)<=B by lia);lia
 intro i hi;rw[eb,<-hx i hi];refine zbc fun t ht=>?_;have c:=JG (n:=fn ã t*s) (m:=p^e) (x:=x t) O (by rw[ay];exact rs t ht) (by have:=xB t ht;lia);show R i t*cn (fn ã t*s) (p^e)=R i t*x t
 unfold cn;rw[c]
def Sc.bot (S:Sc p k R ê D B)(lif:Bn k R ê (p^e) (fn ã) left)(ll:ã.length=k)(fr:Ch (p^e) H ã b)(bH:b<H)(H0:1<=H)(HH:2*(H*H)<=p^e)(sol:∀i:Nat,i<k->(zag k fun t=>R i t*cn (fn ã t*b) (p^e))=b*ê i):b∣D:=by
 obtain⟨y,hy⟩:=S.al ê;have WL:H<=H*H:=by have:=ar H0 (show 0<=H by lia);lia
 exact(BU S.hp.1 S.ci (fr.pos O) hy sol (fr.zh S.hp HH H0 S.ci ll bH lif.eq sol)).1
end
def Em {k i:Nat}{x:ń}(lr:è.length=k)(lw:∀row∈è,row.length=k)(hi:i<k)(lx:x.length=k):dot (è.getD i []) x=zag k fun t=>mt è i t*fn x t:=by
 rw[p6 (lw _ (nI O)) lx];refine zbc fun t _=>?_;unfold mt fn;rw[ae,ae]
def NN {k:Nat}{R:ŗ}{ê left r:ř}{sc:Int}{C G:Nat}(s1:1<=sc)(lif:Bn k R ê sc r left)(hR:∀i t:Nat,i<k->t<k->(R i t).natAbs<=C)(hg:∀i:Nat,i<k->(ê i).natAbs<=G)(i:Nat)(hi:i<k):(left i).natAbs<=G+k*C:=by
 have e:=lif.eq i hi;have b:=Mx.zT (F:=fun t=>R i t*r t) (B:=C*sc) (k:=k) fun t ht=>by
  have a:=hR i t hi ht;have c:=lif.rg t ht;rw[aR,aI];exact df O O O O
 have n:sc*(left i).natAbs<=G+k*(C*sc):=by
  have g1:=hg i hi;have:sc*(left i).natAbs=((sc*left i).natAbs:Int):=by rw[aR,aI];congr 1;lia
  rw[this,show sc*left i=ê i-zag k fun t=>R i t*r t by lia];omega
 have q:sc*(left i).natAbs<=sc*(G+k*C:Nat):=by
  have g2:=ar s1 (show (0:Int)<=G by lia);rw[gI,aI,gi];have:sc*((k:Int)*C)=k*(C*sc):=by grind
  lia
 have:=Int.le_of_mul_le_mul_left q O;lia
def Kb {m:Int}(hm:1<=m){k:Nat}{us:ĸ}{ê:ř}{sc:Int}(hs:1<=sc){ã left:ń}(lr:è.length=k)(lw:∀row∈è,row.length=k)(lu:us.length=k)(lv:∀row∈us,row.length=k)(l1:ã.length=k)(l2:left.length=k)
 (ri:RI m k (mt è) (mt us))(h:Bn k (mt è) ê sc (fn ã) (fn left)){more:ń}(em:more=us.map fun u=>dot u left%m) :
    Bn k (mt è) ê (sc*m) (fn (ž (fun r y=>r+sc*y) ã more)) (fn (ž (fun row x=>(x-dot row more)/m) è left)):=by
  have lm:more.length=k:=by rw[em,aa,lu]
  have mg:∀t:Nat,t<k->fn more t=(zag k fun j=>mt us t j*fn left j)%m:=fun t ht=>by
    rw[<-Em lu lv ht l2];unfold fn;rw[ae];exact nU (by rw[em,af,n8 O];rfl)
  have st:=h.step hm ri hs (more:=fn more) (qA:=fn (ž (fun row x=>(x-dot row more)/m) è left)) mg fun i hi=>by
    rw[<-Em lr lw hi lm];unfold fn;rw[ae];exact nU (by rw[cy,n8 O,nR O])
  refine⟨fun i hi=>?_,fun t ht=>?_⟩
  · rw[<-st.eq i hi]
    congr 1;refine zbc fun t ht=>?_;congr 1;unfold fn;rw[ae,AO O O]
  · have a:=st.rg t ht
    unfold fn at a ⊢;rw[ae] at a ⊢;rw[AO O O];exact a
variable {k n:Nat}{M M':ŗ}{è:ĸ}
def mP (fs:List Fd):ŏ:=fs.map fun f=>f.2.1
def numsOf (fs:List Fd):ŏ:=fs.map fun f=>f.1
def rowsOf (é:ĸ)(fs:List Fd):ĸ:=fs.map fun f=>(mP fs).map fun c=>g (é.getD f.1 []) c
def xz.yD {p:Int}(h:xz p k M)(e:∀s t:Nat,s<k->t<k->M s t=M' s t):xz p k M':=fun y hy=>h y fun t ht=>by
 have:=hy t ht;rwa [zbc (G:=fun s=>y s*M s t) fun s hs=>by rw[e s t hs ht]] at this
def La.yD {v:ř}(h:La k M v)(e:∀s t:Nat,s<k->t<k->M s t=M' s t):La k M' v:=by
 obtain⟨x,hx⟩:=h;exact⟨x,fun i hi=>by rw[<-hx i hi];exact zbc fun t ht=>by rw[e i t hi ht]⟩
def CI.yD {p:Int}(h:CI p k M)(e:∀s t:Nat,s<k->t<k->M s t=M' s t):CI p k M':=fun y hy=>h y fun i hi=>by
 have:=hy i hi;rwa [zbc (G:=fun t=>M i t*y t) fun t ht=>by rw[e i t hi ht]] at this
def ow {é:ĸ}{fs:List Fd}:(rowsOf é fs).length=fs.length/\∀row∈rowsOf é fs,row.length=fs.length:=by
 refine⟨by unfold rowsOf;rw[š],fun row h=>?_⟩;unfold rowsOf at h;obtain⟨f,_,rfl⟩:=ţ.mp h;rw[aa];unfold mP;rw[š]
def vR {é:ĸ}{fs:List Fd}{i j:Nat}(hi:i<fs.length)(hj:j<fs.length):mt (rowsOf é fs) i j=st é (nm fs i) (cl fs j):=by
 rw[wJ];have e:(rowsOf é fs)[i]?=some ((mP fs).map fun c=>g (é.getD (fs.getD i (0,0,[])).1 []) c):=by
  unfold rowsOf;rw[af,az hi,getD_at (az hi)];rfl
 rw[vd e];unfold st nm cl;rw[ae];refine nU ?_;unfold mP;rw[af,af,az hj,getD_at (az hj)];rfl
def B9 (lr:è.length=k):(zB k è).length=k/\∀row∈zB k è,row.length=k:=by
 refine⟨by unfold zB;rw[š,û],fun row h=>?_⟩;unfold zB at h;obtain⟨c,_,rfl⟩:=ţ.mp h;rw[aa,lr]
def wA (lr:è.length=k){i j:Nat}(hi:i<k)(hj:j<k):mt (zB k è) i j=mt è j i:=by
 rw[wJ,wJ];have e:(zB k è)[i]?=some (è.map fun row=>g row i):=by
  unfold zB;rw[af,dj hi];rfl
 rw[vd e];exact nU (by rw[af,n8 O];rfl)
structure zO (p:Int)(w:Nat)(é:ĸ)(fs:List Fd)(us:ĸ)(D C:Nat):Prop where
 hp:zbn p
 crn:sK p w é é.length fs
 ul:us.length=fs.length
 uw:∀u∈us,u.length=fs.length
 li:LI (p^16) fs.length (mt us) (mt (rowsOf é fs))
 C1:1<=C
 bd:∀(j c:Nat),j<é.length->c<w->(st é j c).natAbs<=C
 D1:1<=D
 Db:D<=(2*(fs.length*C)+1)^fs.length
 al1:∀v:Int->Int,La fs.length (mt (zB fs.length (rowsOf é fs))) fun i=>D*v i
 al2:∀v:Int->Int,La fs.length (mt (rowsOf é fs)) fun i=>D*v i
def sK.ind {p:Int}{w:Nat}{é:ĸ}{n:Nat}{fs:List Fd}(h:sK p w é n fs)(c:Nat)(hc:c<=fs.length):xz p c (mt (rowsOf é fs)) :=
 xz.yD (h.cor.ind c hc) fun s t hs ht=>by rw[vR O O,ae,ae]
def sK.uD {p:Int}{w:Nat}{é:ĸ}{n:Nat}{fs:List Fd}(h:sK p w é n fs){t:Nat}(ht:t<fs.length):nm fs t<n:=h.fr.uD t ht
def Bj {p:Int}{w:Nat}{é:ĸ}{fs:List Fd}{C:Nat}(h:sK p w é é.length fs)(bd:∀(j c:Nat),j<é.length->c<w->(st é j c).natAbs<=C)(i t:Nat)(hi:i<fs.length)(ht:t<fs.length):(mt (rowsOf é fs) i t).natAbs<=C:=by
 rw[vR hi ht];exact bd _ _ (h.uD hi) (h.cor.colw t ht)
def zO.mk' {p:Int}(hp:zbn p){w:Nat}{é:ĸ}{fs:List Fd}{us:ĸ}{C:Nat}(crn:sK p w é é.length fs)(ul:us.length=fs.length)(uw:∀u∈us,u.length=fs.length)(li:LI (p^16) fs.length (mt us) (mt (rowsOf é fs)))(C1:1<=C)
 (bd:∀(j c:Nat),j<é.length->c<w->(st é j c).natAbs<=C):∃D,zO p w é fs us D C:=by
  obtain⟨D,D1,Db,a1,a2⟩:=both hp C1 (crn.ind _ (Ě _)) (Bj crn bd);exact⟨D,hp,crn,ul,uw,li,C1,bd,D1,Db,fun v=>La.yD (a1 v) fun s t hs ht=>(wA ow.1 hs ht).symm,a2⟩
section
variable {ê:ř}
variable {p:Int}{w:Nat}{é:ĸ}{fs:List Fd}{us:ĸ}{D C G B:Nat}
def zO.ci1 (F:zO p w é fs us D C):CI p fs.length (mt (zB fs.length (rowsOf é fs))):=CI.yD (F.crn.ind _ (aG _)).ci fun s t hs ht=>(wA ow.1 hs ht).symm
def YU (p:Int):p∣p^16:=⟨p^15,by rw[<-Int.pow_succ']⟩
def zO.ci2 (F:zO p w é fs us D C):CI p fs.length (mt (rowsOf é fs)):=F.li.ci (YU p)
def zO.ri1 (F:zO p w é fs us D C):RI (p^16) fs.length (mt (zB fs.length (rowsOf é fs))) (mt (zB fs.length us)):=fun i j hi hj=>by
 have a:=F.li j i hj hi;have e:(zag fs.length fun t=>mt (zB fs.length (rowsOf é fs)) i t*mt (zB fs.length us) t j)=zag fs.length fun t=>mt us j t*mt (rowsOf é fs) t i:=zbc fun t ht=>by
  rw[wA ow.1 hi ht,wA F.ul ht hj,ay]
 rw[e]
 by_cases c:i=j
 .rw[aA c];rwa [aA c.symm] at a
 .rw[ah c];rwa [ah (fun z=>c z.symm)] at a
def zO.ri2 (F:zO p w é fs us D C):RI (p^16) fs.length (mt (rowsOf é fs)) (mt us):=F.li.right (by have:=F.hp.1;lia) (F.crn.ind _ (aG _))
def O6 {p:Int}(hp:zbn p){k:Nat}{R:ŗ}(ci:CI p k R)(C1:1<=C)(hR:∀i t:Nat,i<k->t<k->(R i t).natAbs<=C)(hg:∀i:Nat,i<k->(ê i).natAbs<=G)(D1:1<=D)(al:∀v:Int->Int,La k R fun i=>D*v i)(DB:D<=B)(big:k*(D*(zcp k C*G))<=B):Sc p k R ê D B:=by
 obtain⟨x,s,s0,ps,hx,sd,xb,one⟩:=zaj hp C1 ci hR hg D1 al;refine⟨hp,ci,⟨x,s,s0,ps,hx,?_,fun t ht=>?_,one⟩,al⟩
 .have:=aW O sd;lia
 .have:=xb t ht;lia
def zO.sc1 (F:zO p w é fs us D C)(hg:∀i:Nat,i<fs.length->(ê i).natAbs<=G)(DB:D<=B)(big:fs.length*(D*(zcp fs.length C*G))<=B):Sc p fs.length (mt (zB fs.length (rowsOf é fs))) ê D B :=
 O6 F.hp F.ci1 F.C1 (fun i t hi ht=>by rw[wA ow.1 hi ht];exact Bj F.crn F.bd t i ht hi) hg F.D1 F.al1 DB big
def zO.sc2 (F:zO p w é fs us D C)(hg:∀i:Nat,i<fs.length->(ê i).natAbs<=G)(DB:D<=B)(big:fs.length*(D*(zcp fs.length C*G))<=B):Sc p fs.length (mt (rowsOf é fs)) ê D B :=
 O6 F.hp F.ci2 F.C1 (Bj F.crn F.bd) hg F.D1 F.al2 DB big
end
def sK.FN {p:Int}(hp:zbn p){w:Nat}{é:ĸ}{fs:List Fd}(h:sK p w é n fs):(mP fs).Nodup:=by
 unfold mP;refine dO.mpr fun i j hi hj lt e=>?_;rw[aa] at hi hj;rw[kO,kO] at e;have ci:cl fs i=fs[i].2.1:=by unfold cl;rw[getD_at (List.getElem?_eq_getElem hi)]
 have cj:cl fs j=fs[j].2.1:=by unfold cl;rw[getD_at (List.getElem?_eq_getElem hj)]
 have z:=h.cor.zero i j lt hj;have o:=h.cor.one j hj;rw[ci,e,<-cj] at z;have:=bE z o;rw[show ∀a:Int,a-(a-1)=1 from fun a=>by lia] at this;have:=aW L this;have:=hp.1;lia
def sK.FD {p:Int}{w:Nat}{é:ĸ}{fs:List Fd}(h:sK p w é n fs):(numsOf fs).Nodup:=by
 unfold numsOf;exact List.Pairwise.map _ (fun a b (e:a.1<b.1)=>c9 e) h.srt
def A1 {fs:List Fd}{t:Nat}(ht:t<fs.length):(mP fs)[t]?=some (cl fs t):=by
 unfold mP cl;rw[af,az ht,ak,az ht];rfl
def F0 {fs:List Fd}{t:Nat}(ht:t<fs.length):(numsOf fs)[t]?=some (nm fs t):=by
 unfold numsOf nm;rw[af,az ht,ak,az ht];rfl
def p5 {p:Int}{w:Nat}{é:ĸ}{fs:List Fd}(h:sK p w é n fs):∀c∈mP fs,c<w:=fun c hc=>by
 unfold mP at hc;obtain⟨f,hf,rfl⟩:=ţ.mp hc;exact(h.rok f hf).2.2
def xK {p:Int}{w:Nat}{é:ĸ}{fs:List Fd}(h:sK p w é n fs):∀c∈numsOf fs,c<n:=fun c hc=>by
 unfold numsOf at hc;obtain⟨f,hf,rfl⟩:=ţ.mp hc;exact h.lt f hf
variable {row:Nat->Int->Int}
open Lt
def uH (è:ĸ):Nat->Int->Int:=fun j i=>g (è.getD j []) i.toNat
def Rec.yD {m:Int}{k r:Nat}{G G':ř}{v:ń}(h:Rec m k r row G v)(e:∀i:Nat,i<k->m∣G i-G' i):Rec m k r row G' v:=fun i hi=>by
 have:=bY (h i hi) (e i hi);rwa [show ∀a b c d:Int,a-(b+c)+(b-d)=a-(d+c) from fun a b c d=>by lia] at this
def Ent.rec {m:Int}{K k r:Nat}(hK:k+r<=K):∀{c:Nat}{ls:ĸ}{left:ń}{ls':ĸ},Ent m c ls left ls'->(∀l∈ls,l.length=K)->left.length=K->(∀l∈ls,Rec m k r row (fun _=>0) l)->Rec m k r row (fun _=>0) left->∀l∈ls',Rec m k r row (fun _=>0) l:=by
 intro c ls left ls' h
 induction h with
 | nil=>intro _ _ _ _ l hl;cases hl
 | @skip c l left ls ls' z _ ih =>
  intro ll lf rl rf x hx;rcases ũ.mp hx with e | e
  .rw[e];exact rl l av
  .exact ih (fun y hy=>ll y (aq _ hy)) lf (fun y hy=>rl y (aq _ hy)) rf x e
 | @mix c l left ls ls' α β G nz G1 d1 d2 e _ ih =>
  intro ll lf rl rf x hx;have l1:=ll l av;have r1:=rl l av;rcases ũ.mp hx with e' | e'
  .rw[e'];exact Rec.yD (Rec.mix l1 lf r1 rf α β) fun i _=>by rw[bi,bi];exact bx _
  .refine ih (fun y hy=>ll y (aq _ hy)) (vN lf l1 ..) (fun y hy=>rl y (aq _ hy)) ?_ x e';exact Rec.yD (Rec.mix lf l1 rf r1 _ _) fun i _=>by rw[bi,bi];exact bx _
def Up (m:Int)(l:ń):Prop:=∀x∈l,0<=x/\x<=m
def Qe {m:Int}(m0:0<m)(one:ń)(a:Int)(other:ń)(b:Int):In m (mix one a other b m):=In.zip m0 one other fun x y=>x*a+y*b
def In.up {m:Int}{l:ń}(h:In m l):Up m l:=fun x hx=>⟨(h x hx).1,iU (h x hx).2⟩
def Ent.up {m:Int}(m0:0<m):∀{c:Nat}{ls:ĸ}{left:ń}{ls':ĸ},Ent m c ls left ls'->(∀l∈ls,Up m l)->∀l∈ls',Up m l:=by
 intro c ls left ls' h
 induction h with
 | nil=>intro _ l hl;cases hl
 | @skip c l left ls ls' z _ ih =>
  intro ll x hx;rcases ũ.mp hx with e | e
  .rw[e];exact ll l av
  .exact ih (fun y hy=>ll y (aq _ hy)) x e
 | @mix c l left ls ls' α β G nz G1 d1 d2 e _ ih =>
  intro ll x hx;rcases ũ.mp hx with e' | e'
  .rw[e'];exact In.up (Qe m0 l α left β)
  .exact ih (fun y hy=>ll y (aq _ hy)) x e'
structure Oj (m:Int)(k r:Nat)(è:ĸ)(j:Nat)(ls:ĸ):Prop where
 E6:Ev m (k+r) 0 ls
 len:ls.length=k
 how:ML m k 0 ls
 kill:∀a:Int->Int,Hj m k a ls->∀i,i<j->m∣dt k (è.getD i []) a
 rc:∀l∈ls,Rec m k r (uH è) (fun _=>0) l
 up:∀l∈ls,Up m l
def OW (m:Int)(k r:Nat):ĸ:=(ŭ k).map fun c=>vA (k+r) c m
def IY {m:Int}{K:Nat}:∀{c:Nat}{ls:ĸ},(∀(i:Nat)(l:ń),ls[i]?=some l->l.length=K/\(∀j,j<c+i->g l j=0)/\1<=g l (c+i)/\g l (c+i)∣m)->Ev m K c ls
 | _,[],_=>trivial
 | c,l::ls,h=>⟨h 0 l Z,IY (c:=c+1) fun i x e=>by
   have:=h (i+1) x (by rw[eM];exact e);rwa [show c+(i+1)=c+1+i by lia] at this⟩
def KY {m:Int}{k:Nat}:∀{c:Nat}{ls:ĸ},(∀(i:Nat)(l:ń),ls[i]?=some l->∀a:Int->Int,m∣m/g l (c+i)*dt k l a)->ML m k c ls
 | _,[],_=>trivial
 | c,l::ls,h=>⟨fun a _=>h 0 l Z a,KY (c:=c+1) fun i x e=>by
   have:=h (i+1) x (by rw[eM];exact e);rwa [show c+(i+1)=c+1+i by lia] at this⟩
def Oj.start {m:Int}(m1:1<=m)(k r:Nat)(è:ĸ):Oj m k r è 0 (OW m k r):=by
 have at_:∀(i:Nat)(l:ń),(OW m k r)[i]?=some l->i<k/\l=vA (k+r) i m:=fun i l h=>by
  unfold OW at h;rw[af] at h;rcases ů i k with c | c
  .rw[dj c] at h;exact⟨c,(bO h).symm⟩
  .rw[cF (by rw[fZ];exact c)] at h;cases h
 have mem:∀l∈OW m k r,∃i,i<k/\l=vA (k+r) i m:=fun l hl=>by
  obtain⟨i,hi⟩:=List.getElem?_of_mem hl;exact⟨i,at_ i l hi⟩
 refine⟨IY fun i l h=>?_,by unfold OW;rw[š,û],KY fun i l h a=>?_,fun _ _ i hi=>absurd hi (Nat.not_lt_zero _),fun l hl i hi=>?_,fun l hl x hx=>?_⟩
 .obtain⟨ik,rfl⟩:=at_ i l h;refine⟨qU ..,fun j hj=>by rw[rq O,ah O],?_,?_⟩
  .rw[rq O,aA O];exact m1
  .rw[rq O,aA O];exact cq _
 .obtain⟨ik,rfl⟩:=at_ i l h;rw[rq O,aA O,Int.ediv_self O,cY];unfold dt;refine Mx.vT fun t _=>?_;rw[ae,rq O];split
  .exact dC ..
  .rw[aZ];exact bx _
 .obtain⟨c,hc,rfl⟩:=mem l hl;rw[rq O];have z:(zag r fun j=>g (vA (k+r) c m) (k+j.toNat)*uH è j.toNat i)=0:=by
   rw[zbc (G:=fun _=>0) fun j _=>by rw[rq O,ah O,aZ],zdh]
  rw[z,dL,cS];split
  .exact cq _
  .exact bx _
 .obtain⟨c,hc,rfl⟩:=mem l hl;obtain⟨j,hj,rfl⟩:=uW hx;rw[rq O];split<;>lia
def Oj.enter {m:Int}(m1:1<=m){k r:Nat}{è:ĸ}(lr:è.length=r)(lw:∀row∈è,row.length=k){j:Nat}(hj:j<r){ls ls':ĸ}(h:Oj m k r è j ls)(e:Ent m 0 ls ((è.getD j []++vA r j 1).map fun x=>x%m) ls'):Oj m k r è (j+1) ls':=by
 have lj:(è.getD j []).length=k:=lw _ (nI O);obtain⟨left,hl⟩:∃left:ń,left=(è.getD j []++vA r j 1).map fun x=>x%m:=⟨_,Z⟩;rw[<-hl] at e;have ll:left.length=k+r:=by rw[hl,aa,aP,lj,qU]
 have la:(è.getD j []++vA r j 1).length=k+r:=by rw[aP,lj,qU]
 have gl:∀i,i<k+r->g left i=g (è.getD j []++vA r j 1) i%m:=fun i hi=>by rw[hl];exact tE (by rw[la];exact hi)
 have lf:Lf m (k+r) 0 left:=⟨ll,fun i hi=>absurd hi (bS _),fun i=>by
  have:In m left:=by rw[hl];exact In.mod O _ fun x=>x
  exact this.g O i⟩
 have t:=e.E6 m1 h.E6 lf;have zbA:∀l∈ls,l.length=k+r:=fun l hl=>by
  obtain⟨i,hi⟩:=List.getElem?_of_mem hl;exact(h.E6.at hi).1
 refine⟨t.1,by rw[t.2,h.len],e.how m1 h.E6 lf (by rw[h.len,eV]) h.how,fun a ka i hi=>?_,Ent.rec (aG _) e zbA ll h.rc ?_,Ent.up O e h.up⟩
 .have kk:=e.kill m1 a h.E6 lf (by rw[h.len,eV]) ka;rcases ť.mp hi with q | q
  .exact h.kill a kk.1 i q
  .rw[q];refine(p4 ?_).mp kk.2;unfold dt;refine pV fun t ht=>?_;rw[ae,gl t O,tW O,<-cZ];exact aD (nF _ _)
 .intro i hi;have a:m∣g left i-uH è j i:=by
   unfold uH;rw[ae,gl i O,tW O];exact nF _ _
  have b:m∣(zag r fun j'=>g left (k+j'.toNat)*uH è j'.toNat i)-zag r fun j'=>uH è j'.toNat i*if j'=(j:Int) then 1 else 0:=pV fun t ht=>by
   rw[ae,gl (k+t) O,yz lj,rq hj]
   by_cases c:t=j
   .rw[aA c,aA O];have:=aD (c:=uH è t i) (nF 1 m);rw[cZ,cY] at this;rwa [bX]
   .rw[ah c,ah O,fE,aZ,bi];exact bx _
  rw[Mx.n6 (F:=fun j'=>uH è j'.toNat i) hj,ae] at b;have:=bE a b;rwa [show ∀x y z:Int,x-y-(z-y)=x-(0+z) from fun x y z=>by lia] at this
structure Gl (m:Int)(k r:Nat)(è:ĸ)(ê:ń)(ls:ĸ)(c:Nat)(left:ń):Prop where
 len:left.length=k+r
 zero:∀i,i<c->g left i=0
 rc:Rec m k r (uH è) (fn ê) left
 dd:∀a:Int->Int,Hj m k a ls->m∣dt k left a-dt k ê a
def Gl.start {m:Int}{k r:Nat}{è:ĸ}{ê:ń}(lg:ê.length=k)(ls:ĸ):Gl m k r è ê ls 0 (ê++ş r 0):=by
 refine⟨by rw[aP,lg,bq],fun i hi=>absurd hi (bS _),fun i hi=>?_,fun a _=>?_⟩
 .have z:(zag r fun j=>g (ê++ş r 0) (k+j.toNat)*uH è j.toNat i)=0:=by
   rw[zbc (G:=fun _=>0) fun j hj=>by rw[ae,yz lg,DL hj,aZ],zdh]
  rw[z];unfold fn;rw[ae,tW O,dL,cG];exact bx _
 .have:dt k (ê++ş r 0) a=dt k ê a:=zbc fun i hi=>by rw[ae,tW O]
  rw[this,cG];exact bx _
def Gl.step {m:Int}(m1:1<=m){k r:Nat}{è:ĸ}{ê:ń}{j:Nat}{ls:ĸ}(zog:Oj m k r è j ls){c:Nat}{left:ń}(h:Gl m k r è ê ls c left){l:ń}(hl:ls[c]?=some l)(dv:g l c∣g left c):Gl m k r è ê ls (c+1) (vk left (g left c/g l c) l m):=by
 have t:=zog.E6.at hl;rw[eV] at t;have ck:c<k:=by rw[<-zog.len];exact(aJ.mp hl).1
 have el:left.length=l.length:=by rw[h.len,t.1]
 have gd:∀i,i<k+r->m∣g (vk left (g left c/g l c) l m) i-(g left i-g left c/g l c*g l i):=fun i hi=>Gr el (by rw[h.len];exact hi);have ex:g left c/g l c*g l c=g left c:=hV dv;refine⟨by rw[BW el,h.len],fun i hi=>?_,fun i hi=>?_,fun a ka=>?_⟩
 .have zz:g left i-g left c/g l c*g l i=0:=by
   rcases ť.mp hi with q | q
   .rw[h.zero i q,t.2.1 i lC,bi];rfl
   .rw[q,ex,cG]
  unfold vk
  by_cases z:g left c/g l c=0
  .rw[aA z];rw[z,aZ,cS] at zz;exact zz
  .rw[ah z,AO (by rw[h.len];lia) (by rw[t.1];lia),zz,fE]
 .have r1:=h.rc i hi;have r2:=zog.rc l (ao hl) i hi;obtain⟨q,hq⟩:∃q,q=g left c/g l c:=⟨_,Z⟩;rw[<-hq] at gd ⊢;have s1:m∣(zag r fun j=>g (vk left q l m) (k+j.toNat)*uH è j.toNat i)-zag r fun j=>(g left (k+j.toNat)-q*g l (k+j.toNat))*uH è j.toNat i:=pV fun t ht=>by
   rw[ae,<-cZ];exact aD (gd (k+t) O)
  have s2:(zag r fun j=>(g left (k+j.toNat)-q*g l (k+j.toNat))*uH è j.toNat i)=(zag r fun j=>g left (k+j.toNat)*uH è j.toNat i) + -q*zag r fun j=>g l (k+j.toNat)*uH è j.toNat i:=by
   rw[<-zbk,<-zca];exact zbc fun j _=>by grind
  rw[s2] at s1;have a:=gd i O;have b:=ax (b:=q) r2;have:=bE (bE (bY a r1) b) s1;generalize (zag r fun j=>g (vk left q l m) (k+j.toNat)*uH è j.toNat i)=X at *;generalize (zag r fun j=>g left (k+j.toNat)*uH è j.toNat i)=Y at *;generalize (zag r fun j=>g l (k+j.toNat)*uH è j.toNat i)=zoe at *;rwa [show g (vk left q l m) i-(g left i-q*g l i)+(g left i-(fn ê i+Y))-q*(g l i-(0+zoe))-(X-(Y + -q*zoe))=g (vk left q l m) i-(fn ê i+X) by grind] at this
 .obtain⟨q,hq⟩:∃q,q=g left c/g l c:=⟨_,Z⟩;rw[<-hq] at gd ⊢;have s1:m∣dt k (vk left q l m) a-(dt k left a-q*dt k l a):=by
   have e:dt k left a-q*dt k l a=zag k fun i=>(g left i.toNat-q*g l i.toNat)*a i:=by
    have:(zag k fun i=>(g left i.toNat-q*g l i.toNat)*a i)=dt k left a + -q*dt k l a:=by
     unfold zfl;rw[<-zbk,<-zca];exact zbc fun i _=>by grind
    rw[this];grind
   rw[e];unfold zfl;refine pV fun i hi=>?_;rw[ae,<-cZ];exact aD (gd i O)
  have b:=ax (b:=q) (ka l (ao hl));have:=bE (bY s1 (h.dd a ka)) b;rwa [show ∀x y z u:Int,x-(y-z)+(y-u)-z=x-u from fun x y z u=>by lia] at this
def Gl.end {m:Int}(m1:1<=m){k r:Nat}{è:ĸ}{ê:ń}{ls:ĸ}{left:ń}(h:Gl m k r è ê ls k left){tk:Nat->Int}(ht:∀j,j<r->m∣tk j+g left (k+j))(i:Nat)(hi:i<k):m∣g ê i-zag r fun j=>tk j.toNat*uH è j.toNat i:=by
 have a:=h.rc i hi;rw[h.zero i hi] at a;have b:m∣(zag r fun j=>tk j.toNat*uH è j.toNat i)-zag r fun j=>-(g left (k+j.toNat))*uH è j.toNat i:=pV fun j hj=>by
  rw[ae,<-cZ,Int.sub_neg];exact aD (ht j hj)
 have c:(zag r fun j=>-(g left (k+j.toNat))*uH è j.toNat i)=-1*zag r fun j=>g left (k+j.toNat)*uH è j.toNat i:=by
  rw[<-zbk];exact zbc fun j _=>by grind
 rw[c] at b;have d:=dZ.mpr a;have:=bE d b;unfold fn at this;rw[ae] at this;rwa [show ∀x y z:Int,-(0-(x+y))-(z - -1*y)=x-z from fun x y z=>by lia] at this
def HU.yD {m:Int}{k col:Nat}{ls:ĸ}{j:Nat}{a a':ř}(h:HU m k col ls j a)(e:∀i:Nat,a i=a' i):HU m k col ls j a':=by
 refine⟨fun i hi=>by rw[<-e];exact h.lo i hi,fun i hi=>by rw[<-e];exact h.hi i hi,fun l hl=>by rw[<-e];exact h.at_ l hl,fun i l hi hl=>?_⟩;have:=h.kl i l hi hl;rwa [show dt k l a=dt k l a' from zbc fun t _=>by rw[e]] at this
def sO {F:ř}:∀(a b:Nat),zag (a+b) F=zag a F+zag b fun i=>F (a+i)
 | a,0=>by show zag a F=zag a F+0;lia
 | a,b+1=>by
  show zag (a+b) F+F ((a+b:Nat):Int)=zag a F+((zag b fun i=>F (a+i))+F (a+b))
  rw[sO a b,gI];lia
def MJ {l am:ń}{k lo hi:Nat}(ll:k<=l.length)(la:am.length=k)(h1:lo<=hi)(h2:hi<=k)(z1:∀i,i<lo->g am i=0)(z2:∀i,hi<=i->g am i=0) :
  dot ((l.take hi).drop lo) ((am.take hi).drop lo)=dt k l (fn am):=by
 have gt:∀(x:ń)(i:Nat),i<hi-lo->g ((x.take hi).drop lo) i=g x (lo+i):=fun x i hx=>by
  rw[Es];unfold g;rw[ak,ak,jz O]
 rw[p6 (n:=hi-lo) (by rw[cH,cT];lia) (by rw[cH,cT];lia)];have e1:dt k l (fn am)=zag hi fun i=>g l i.toNat*fn am i:=by
  unfold dt;exact Mx.JJ h2 fun t ht _=>by unfold fn;rw[ŧ,z2 t ht,Ė]
 rw[e1,show hi=lo+(hi-lo) by lia,sO lo (hi-lo)];have e2:(zag lo fun i=>g l i.toNat*fn am i)=0:=by
  rw[zbc (G:=fun _=>0) fun i RA=>by unfold fn;rw[ŧ,z1 i RA,Ė],zdh]
 rw[e2,eI,show lo+(hi-lo)=hi by lia];refine zbc fun i RA=>?_;unfold fn;rw[ae,gt l i RA,gt am i RA,show ((lo:Int)+(i:Int)).toNat=lo+i by lia]
def QZ {a b G:Int}(a1:1<=a)(b1:1<=b)(hG:G=(ż a b:Nat)):1<=G/\G<=a/\1<=a/G*b/\a∣a/G*b/\b∣a/G*b/\∀D:Int,a∣D->b∣D->a/G*b∣D:=by
 have g0:0<ż a b:=Int.gcd_pos_of_ne_zero_left _ O;have G1:1<=G:=O;obtain⟨a',ha⟩:G∣a:=by rw[hG];exact ĝ ..
 obtain⟨b',hb⟩:G∣b:=by rw[hG];exact ė ..
 have zh:ż a' b'=1:=by
  have h:ż a b=ż a b*ż a' b':=by
   have:=iz G a' b';rw[<-ha,<-hb,hG,cD] at this;exact this
  have:ż a b*1=ż a b*ż a' b':=by rw[ip];exact h
  exact(gu g0 this).symm
 have G0:G≠0:=O;have e:a/G=a':=by rw[ha,aC _ G0]
 have a'1:1<=a':=by
  rcases ū 0 a' with c | c
  .exact c
  .have:=aB c (show 0<=G by lia);lia
 refine⟨G1,?_,?_,?_,?_,fun D dA dB=>?_⟩
 .have:=aB a'1 (show 0<=G by lia);lia
 .rw[e];have:=ar a'1 (show 0<=b by lia);lia
 .rw[e];exact⟨b',by rw[ha,hb];grind⟩
 .rw[e];exact⟨a',ay ..⟩
 .rw[e];obtain⟨x,hx⟩:=dA;obtain⟨y,hy⟩:=dB;have h1:a'*x=b'*y:=aL G0 (by rw[<-aE,<-aE,<-ha,<-hb,<-hx,<-hy]);have d:b'∣a'*x:=⟨y,h1⟩;have d':=aU.mpr d;rw[aR] at d';have d2:b'∣x:=aU.mp (fH (by rw[Nat.coprime_comm];exact zh) d');obtain⟨z,hz⟩:=d2;exact⟨z,by rw[hx,hz,ha,hb];grind⟩
def Yj {one other r0 c0 c1:Int}(h:zfo one other r0 0 c0 c1)(o1:1<=one):(r0-c0*other)/one*one+c0*other=r0:=by
 obtain⟨m0,m1,e0,e1,d⟩:=h.m;have:r0-c0*other=m0*one:=O;rw[this,gA _ O];lia
variable {k:Nat}{U:Nat->Nat->Int}{M:Int}
def FY {p:Int}(hp:zbn p){w n:Nat}{é:ĸ}{fs:List Fd}(h:sK p w é n fs){v x:ń}(lv:v.length=w)(lx:x.length=fs.length):dot v (wC w (mP fs) x)=zag fs.length fun t=>fn v (cl fs t.toNat)*fn x t:=by
 rw[p6 lv (qF ..)];have:=Pe (n:=w) (F:=fn v) (ps:=mP fs) (xs:=x) (k:=fs.length) (by unfold mP;rw[š]) lx (h.FN hp) (p5 h);unfold fn at this ⊢;rw[this];refine zbc fun t ht=>?_;have e:(mP fs).getD (t:Int).toNat 0=cl fs (t:Int).toNat:=by
  rw[ae,ak,A1 ht];rfl
 rw[e]
def QN {x am T v:ř}{s:Int}(hs:∀i:Nat,i<k->(zag k fun t=>U i t.toNat*x t)=s*am i)(hT:∀t:Nat,t<k->(zag k fun i=>U i.toNat t*T i)=M*v t) :
  M*(zag k fun t=>v t*x t)=s*zag k fun i=>T i*am i:=by
 rw[<-zbk,<-zbk];have e1:(zag k fun t=>M*(v t*x t))=zag k fun t=>zag k fun i=>U i.toNat t.toNat*T i*x t:=zbc fun t ht=>by
  rw[zec,ae,hT t ht];grind
 rw[e1,zdf];refine zbc fun i hi=>?_;have:(zag k fun t=>U (i:Int).toNat t.toNat*T i*x t)=T i*zag k fun t=>U i t.toNat*x t:=by
  rw[<-zbk];refine zbc fun t _=>?_;rw[ae];grind
 rw[this,hs i hi];grind
def NQ {s A B:Int}(s1:1<=s)(M1:1<=M)(e:M*A=s*B):s∣A↔M∣B:=by
 constructor
 .rintro⟨y,hy⟩;refine⟨y,aL (show s≠0 by lia) ?_⟩;rw[<-e,hy];grind
 .rintro⟨y,hy⟩;refine⟨y,aL (show M≠0 by lia) ?_⟩;rw[e,hy];grind
def Ni {s:Int}{v W:ń}{w:Nat}(lv:v.length=w)(lW:W.length=w):s∣dot v (W.map fun x=>x%s)-dot v W:=by
 rw[p6 lv (by rw[aa,lW]),p6 lv lW];refine pV fun i hi=>?_;rw[ae,tE O,<-cL];exact ax (nF _ _)
def wh (à:ń)(q:Int):ń:=à.map fun x=>x*q
def B6 (à:ń)(q:Int):(wh à q).length=à.length:=by unfold wh;rw[š]
def GJ {à:ń}{b v:Int}{t:Nat}(lt:à.length=k)(b1:1<=b)(bM:b∣M)(h:(zag k fun i=>U i.toNat t*fn à i)=b*v):(zag k fun i=>U i.toNat t*fn (wh à (M/b)) i)=M*v:=by
 have e:(zag k fun i=>U i.toNat t*fn (wh à (M/b)) i)=M/b*zag k fun i=>U i.toNat t*fn à i:=by
  rw[<-zbk];refine zbc fun i hi=>?_;unfold fn wh;rw[ae,tE O];grind
 rw[e,h,<-aE,hV bM]
def Q3 {r:Nat}{gv:Int}{t:Nat}{goalw:ř}{R:Nat->Int->Int}{sv:Nat->Int}{tk sp:ř}(M1:1<=M)(hg:(zag k fun i=>U i.toNat t*goalw i)=M*gv)(hR:∀j:Nat,j<r->(zag k fun i=>U i.toNat t*R j i)=M*sv j)
 (hsp:∀i:Nat,i<k->M*sp i=goalw i-zag r fun j=>tk j*R j.toNat i):(zag r fun j=>tk j*sv j.toNat)+(zag k fun i=>sp i*U i.toNat t)=gv:=by
  refine aL (show M≠0 by lia) ?_;rw[gi,<-hg,<-zbk,<-zbk];have e1:(zag k fun i=>M*(sp i*U i.toNat t))=(zag k fun i=>U i.toNat t*goalw i) + -1*zag k fun i=>zag r fun j=>tk j*(U i.toNat t*R j.toNat i):=by
    rw[<-zbk,<-zca];refine zbc fun i hi=>?_;have a:=hsp i hi;have b:(zag r fun j=>tk j*(U (i:Int).toNat t*R j.toNat i))=U (i:Int).toNat t*zag r fun j=>tk j*R j.toNat i:=by
      rw[<-zbk];exact zbc fun j _=>by grind
    rw[b,show M*(sp i*U (i:Int).toNat t)=M*sp i*U (i:Int).toNat t by grind,a];grind
  have e2:(zag k fun i=>zag r fun j=>tk j*(U i.toNat t*R j.toNat i))=zag r fun j=>M*(tk j*sv j.toNat):=by
    rw[zdf];refine zbc fun j hj=>?_;rw[zbk,ae,hR j hj];grind
  rw[e1,e2];lia
def Tw {n r:Nat}{F:ř}{os cs:ŏ}{tk sp:ń}(lo:os.length=r)(lc:cs.length=k)(lt:tk.length=r)(ls:sp.length=k)(nd:(os++cs).Nodup)(hl:∀p∈os++cs,p<n) :
  (zag n fun j=>F j*g (wC n (os++cs) (tk++sp)) j.toNat)=(zag r fun j=>F (os.getD j.toNat 0)*g tk j.toNat)+zag k fun i=>F (cs.getD i.toNat 0)*g sp i.toNat:=by
 rw[Pe (k:=r+k) (by rw[aP,lo,lc]) (by rw[aP,lt,ls]) nd hl,sO r k];congr 1
 .refine zbc fun j hj=>?_;rw[ae,tW O,ak,ak,dM O]
 .refine zbc fun i hi=>?_;rw[show ((r:Int)+(i:Int)).toNat=r+i by lia,yz lt,ae,ak,ak,dH O,show r+i-os.length=i by lia]
def CP:∀(l:ń)(ps:ŏ)(xs:ń)(x:Int),x∈ve l ps xs->x∈l\/x∈xs
 | l,[],_,x,h=>by rw[ve] at h;exact .inl h
 | l,_::_,[],x,h=>.inl h
 | l,p::ps,y::xs,x,h=>by
  rcases CP (l.set p y) ps xs x h with c | c
  .rcases ó c with d | d
   .exact .inl d
   .exact .inr (d▸av)
  .exact .inr (aq _ c)
def GG {n:Nat}{ps:ŏ}{xs:ń}{x:Int}(h:x∈wC n ps xs):x=0\/x∈xs:=by
 rcases CP _ _ _ _ h with c | c
 .exact .inl (gJ.mp c).2
 .exact .inr c
def QY (n m:Int):m∣cn n m-n:=by
 have a:=nF n m;unfold cn;split
 .exact a
 .have:=bE a (cq m);rwa [show n%m-n-m=n%m-m-n by lia] at this
def Tx {n m:Int}(m0:0<m):(cn n m).natAbs<=m.natAbs:=by
 have a:=aH n (show m≠0 by lia);have b:=aF n m0;unfold cn;split<;>omega
def sum_cons {r:Nat}{gw:ń}{è:ĸ}{tk:ń}(lt:tk.length=r){c:Nat}:(zag (r+1) fun j=>g (1::tk.map fun x=>-x) j.toNat*g ((gw::è).getD j.toNat []) c)=g gw c-zag r fun j=>fn tk j*uH è j.toNat c:=by
 rw[Nat.add_comm,sO 1 r];have e0:(zag 1 fun j=>g (1::tk.map fun x=>-x) j.toNat*g ((gw::è).getD j.toNat []) c)=g gw c:=by
  show 0+g (1::tk.map fun x=>-x) ((0:Nat):Int).toNat*g ((gw::è).getD ((0:Nat):Int).toNat []) c=_
  rw[ae];show 0+1*g gw c=_
  lia
 rw[e0];have e1:(zag r fun i=>g (1::tk.map fun x=>-x) (((1:Nat):Int)+i).toNat*g ((gw::è).getD (((1:Nat):Int)+i).toNat []) c)=-1*zag r fun j=>fn tk j*uH è j.toNat c:=by
  rw[<-zbk];refine zbc fun j hj=>?_;rw[show (((1:Nat):Int)+(j:Int)).toNat=j+1 by lia];have a:g (1::tk.map fun x=>-x) (j+1)=-(g tk j):=by
   refine nU ?_;rw[eM,af,nR O];rfl
  have b:(gw::è).getD (j+1) []=è.getD j []:=by rw[ak,eM,<-ak]
  rw[a,b];unfold fn uH;rw[ae,ae];grind
 rw[e1];lia
structure Mq (é:ĸ)(fs:List Fd)(D N:Nat)(v:ř)(à:ń)(b:Int):Prop where
 len:à.length=fs.length
 b1:1<=b
 bD:b∣(D:Int)
 bN:b<2^N
 bd:∀x∈à,x.natAbs<2^N
 eq:∀i:Nat,i<fs.length->(zag fs.length fun t=>st é (nm fs t.toNat) (cl fs i)*fn à t)=b*v (cl fs i)
variable {p:Int}{w:Nat}{é:ĸ}{fs:List Fd}{ê W:ń}
def Lk {l:ŏ}{n:Nat}(nd:l.Nodup)(h:∀x∈l,x<n):l.length<=n:=by
 refine gn fun lt=>?_;obtain⟨i,j,ij,jl,e⟩:=Pg.yj (fun i=>l.getD i 0%(n+1)%(n+1)) (M:=n) (N:=l.length) lt (fun i hi=>by
  rw[ak,az hi];have:=h _ (cJ hi);show (l[i]%(n+1))%(n+1)<n
  rw[j6,i8 O];exact this)
 have il:i<l.length:=O;have a:=h _ (cJ il);have b:=h _ (cJ jl);rw[ak,az il,ak,az jl] at e;have e':l[i]%(n+1)%(n+1)=l[j]%(n+1)%(n+1):=e;rw[j6,j6,i8 O,i8 O] at e';exact dO.mp nd i j il jl ij e'
def Hg.sum {w:Nat}{á:Nat->Int->Int}{k:Nat}{num:Nat->Nat}{a:Nat->Int}{v:Nat->Int->Int}:∀{n:Nat},(∀j,j<n->Hg w á k num (v j))->Hg w á k num fun c=>zag n fun j=>a j.toNat*v j.toNat c
 | 0,_=>Hg.zero
 | n+1,h=>by
  have:=Hg.add (Hg.sum (a:=a) (n:=n) fun j hj=>h j (bT hj)) (h n (bQ n)) 1 (a n);have e:(fun c=>zag (n+1) fun j=>a j.toNat*v j.toNat c)=fun c=>1*(zag n fun j=>a j.toNat*v j.toNat c)+a n*v n c:=by
   funext c;show (zag n fun j=>a j.toNat*v j.toNat c)+a (n:Int).toNat*v (n:Int).toNat c=_
   rw[ae,cY]
  rw[e];exact this
def IL (é:ĸ)(ê W:ń)(s:Int):Prop:=(∀j,j<é.length->s∣dot (é.getD j []) W)/\¬s∣dot ê W
def Mr (w:Nat)(é:ĸ)(ê cnts:ń):Prop:=∀c:Nat,c<w->(zag é.length fun j=>g cnts j.toNat*g (é.getD j.toNat []) c)=g ê c
def Iu (hp:zbn p)(h:sK p w é é.length fs){cnts:ń}(gd:Good p w é.length (st é) (fn ê))(hm:Hm p w (st é) fs.length (nm fs) (fn ê))
 (eq:∀i:Nat,i<fs.length->(zag é.length fun j=>st é j.toNat (cl fs i)*g cnts j.toNat)=g ê (cl fs i)):Mr w é ê cnts:=by
  obtain⟨g1,g2⟩:=gd _ _ _ h.fr;have hs:=Hg.sum (a:=fun j=>g cnts j) (n:=é.length) g1;have hd:=Hg.add hs (g2 hm) 1 (-1);have z:=Hg.all hp h.cor hd fun t ht=>by
    have e:=eq t ht;have a:(zag é.length fun j=>g cnts j.toNat*st é j.toNat (cl fs t))=zag é.length fun j=>st é j.toNat (cl fs t)*g cnts j.toNat:=zbc fun j _=>ay ..;rw[a,e];unfold fn;rw[ae];lia
  intro c hc;have:=z c hc;unfold fn st at this;rw[ae] at this;lia
def Ih (h:sK p w é é.length fs)(lw:∀y∈é,y.length=w)(lW:W.length=w)(gd:Good p w é.length (st é) (fn ê))(z:∀i,i<fs.length->dot (é.getD (nm fs i) []) W=0)(j:Nat)(hj:j<é.length):dot (é.getD j []) W=0:=by
 obtain⟨g1,_⟩:=gd _ _ _ h.fr;have key:∀i,i<é.length->dot (é.getD i []) W=zag w fun c=>st é i c*fn W c:=fun i hi=>by
  rw[p6 (lw _ (nI hi)) lW];rfl
 rw[key j hj];exact Hg.weigh (g1 j hj) fun i hi=>by rw[<-key _ (h.uD hi)];exact z i hi
def KJ (hp:zbn p)(h:sK p w é é.length fs)(lw:∀y∈é,y.length=w)(lg:ê.length=w)(lW:W.length=w)(z:∀i,i<fs.length->dot (é.getD (nm fs i) []) W=0){c:Nat}(hc:c<w)(nz:g (rB p fs ê) c≠0)(own:∀c',c'<w->c'≠c->(∃t,t<fs.length/\cl fs t=c')\/g W c'=0)(pW:¬p∣g W c):dot ê W≠0:=by
 have p2:=hp.1;have RB:=h.rB O lg;obtain⟨x,hx⟩:=RB.eq;have ok:=vh (show 0<p by lia) lg Z h.rok;intro e
 -- by p: ê RD what is left of it RD
 have d1:p∣(zag w fun c=>fn (rB p fs ê) c*fn W c)-dot ê W:=by
  rw[p6 lg lW];have a:p∣(zag w fun c=>fn (rB p fs ê) c*fn W c)-zag w fun c=>(fn ê c-zag fs.length fun s=>x s*st é (nm fs s.toNat) c)*fn W c:=pV fun c hc=>by
   rw[<-cZ];exact aD (hx c hc)
  have b:(zag w fun c=>(fn ê c-zag fs.length fun s=>x s*st é (nm fs s.toNat) c)*fn W c)=zag w fun i=>g ê i.toNat*g W i.toNat:=by
   have b1:(zag w fun c=>(fn ê c-zag fs.length fun s=>x s*st é (nm fs s.toNat) c)*fn W c)=(zag w fun c=>fn ê c*fn W c) + -1*zag w fun c=>zag fs.length fun s=>x s*(st é (nm fs s.toNat) c*fn W c):=by
    rw[<-zbk,<-zca];refine zbc fun c _=>?_;have:(zag fs.length fun s=>x s*(st é (nm fs s.toNat) c*fn W c))=(zag fs.length fun s=>x s*st é (nm fs s.toNat) c)*fn W c:=by
     rw[<-zec];exact zbc fun s _=>by grind
    rw[this];grind
   have b2:(zag w fun c=>zag fs.length fun s=>x s*(st é (nm fs s.toNat) c*fn W c))=0:=by
    rw[zdf,zbc (G:=fun _=>0) fun s hs=>?_,zdh];rw[zbk,ae];have:=z s hs;rw[p6 (lw _ (nI (h.uD hs))) lW] at this;have e2:(zag w fun c=>st é (nm fs s) c*fn W c)=0:=this;rw[e2,bi]
   rw[b1,b2];unfold fn;lia
  rwa [b] at a
 rw[e,cS] at d1;have d2:p∣g (rB p fs ê) c*g W c:=by
  have a:p∣(zag w fun c'=>fn (rB p fs ê) c'*fn W c')-zag w fun c'=>fn (rB p fs ê) c'*fn W c'*if c'=(c:Int) then 1 else 0:=pV fun c' wQ=>by
   by_cases q:c'=c
   .rw[aA O,bX,cG];exact bx _
   .rw[ah O,bi,cS];rcases own c' wQ q with ⟨t,ht,et⟩ | y
    .have:=RB.zero t ht;rw[et] at this;exact aD this
    .unfold fn;rw[ae,y,bi];exact bx _
  rw[n6 (F:=fun c'=>fn (rB p fs ê) c'*fn W c') hc] at a;have:=(p4 a).mp d1;unfold fn at this;rwa [ae] at this
 have r:=ok.2.g (show 0<p by lia) c;exact pW (qk hp d2 fun d3=>by
  have:=aW (show 0<g (rB p fs ê) c by lia) d3;lia)
def Da {p:Int}(hp:zbn p):∀(n:Nat){b:Int},1<=b->b.toNat<=n->∃(j:Nat)(b':Int),b=p^j*b'/\¬p∣b'
 | 0,b,h,l=>by lia
 | n+1,b,h,l=>by
  by_cases c:p∣b
  .obtain⟨b1,hb⟩:=c;have p2:=hp.1;have b10:1<=b1:=by
    rcases ū 0 b1 with q | q
    .exact q
    .have:=aB q (show 0<=p by lia);lia
   have:2*b1<=p*b1:=ar lC O;obtain⟨j,b',e,nb⟩:=Da hp n (b:=b1) b10 O;exact⟨j+1,b',by rw[hb,e,bj];grind,nb⟩
  .exact⟨0,b,by rw[eU,cY],c⟩
def Iq (hp:zbn p)(h:sK p w é é.length fs)(ci:CI p fs.length (mt (rowsOf é fs)))(lw:∀y∈é,y.length=w){à:ń}{am:ř}{b:Int}(lg:ê.length=w)(lW:W.length=w)(z:∀i,i<fs.length->dot (é.getD (nm fs i) []) W=0){c:Nat}(hc:c<w)(nz:g (rB p fs ê) c≠0)
 (b1:1<=b)(Wc:g W c=b)(Wt:∀t,t<fs.length->cl fs t≠c->g W (cl fs t)=-(g à t))(own:∀c',c'<w->c'≠c->(∃t,t<fs.length/\cl fs t=c')\/g W c'=0)(sol:∀i:Nat,i<fs.length->(zag fs.length fun t=>st é (nm fs i) (cl fs t.toNat)*fn à t)=b*am i):dot ê W≠0:=by
  have p2:=hp.1;obtain⟨j,b',eb,nb⟩:=Da hp b.toNat b1 (Ě _);have pj:0<p^j:=gP O;have RE:=ci.pow O j (y:=fn à) fun i hi=>by
    have e:(zag fs.length fun t=>mt (rowsOf é fs) i t*fn à t)=b*am i:=by
      rw[<-sol i hi];exact zbc fun t ht=>by rw[vR hi ht,ae]
    rw[e,eb,aE];exact dC ..
  have div:∀c',c'<w->p^j∣g W c':=fun c' wQ=>by
    by_cases q:c'=c
    · rw[q,Wc,eb];exact dC ..
    · rcases own c' wQ q with ⟨t,ht,et⟩ | y
      · rw[<-et,Wt t ht (by rw[et];exact q)]
        have:=RE t ht;unfold fn at this;rw[ae] at this;exact dZ.mpr this
      · rw[y];exact bx _
  obtain⟨W',hW'⟩:∃W':ń,W'=W.map fun x=>x/p^j:=⟨_,Z⟩;have lW':W'.length=w:=by rw[hW',aa,lW]
  have gW:∀c',c'<w->g W c'=p^j*g W' c':=fun c' wQ=>by
    rw[hW',tE O,b8 (div c' wQ)]
  have Vo:∀v:ń,v.length=w->dot v W=p^j*dot v W':=fun v lv=>by
    rw[p6 lv lW,p6 lv lW',<-zbk];refine zbc fun i hi=>?_;rw[ae,gW i hi];grind
  have cancel:∀x:Int,p^j*x=0->x=0:=fun x e=>(fV.mp e).resolve_left O;have r:=KJ hp h lw lg lW' (fun i hi=>cancel _ (by rw[<-Vo _ (lw _ (nI (h.uD hi)))];exact z i hi)) hc nz (fun c' wQ q=>(own c' wQ q).imp id fun y=>cancel _ (by rw[<-gW c' wQ];exact y)) (fun d=>nb (by
    have e:b'=g W' c:=aL (show p^j≠0 by lia) (by rw[<-eb,<-gW c hc,Wc]);rw[e];exact d))
  rw[Vo ê lg];exact fun e=>r (cancel _ e)
variable {é:ĸ}
def Np {v W0:ń}{w c:Nat}{b:Int}(lv:v.length=w)(lW:W0.length=w)(hc:c<w)(z:g W0 c=0):dot v ((W0.map fun x=>-x).set c b)=b*g v c-dot v W0:=by
 rw[p6 lv (by rw[cI,aa,lW]),p6 lv lW];have e:(zag w fun i=>g v i.toNat*g ((W0.map fun x=>-x).set c b) i.toNat)=(zag w fun i=>b*g v i.toNat*if i=(c:Int) then 1 else 0) + -1*zag w fun i=>g v i.toNat*g W0 i.toNat:=by
  rw[<-zbk,<-zca];refine zbc fun i hi=>?_;rw[ae,Af zoh]
  by_cases q:i=c
  .rw[aA q,aA O,q,z];grind
  .rw[ah q,ah O,tE O];grind
 rw[e,n6 (F:=fun i=>b*g v i.toNat) hc,ae];lia
def sK.N3 {p:Int}(hp:zbn p){w:Nat}{fs:List Fd}(h:sK p w é é.length fs){ê:ń}(lg:ê.length=w){c:Nat}(nz:g (zdl p fs ê) c≠0):c∉mP fs:=fun hm=>by
 have p2:=hp.1;unfold mP at hm;obtain⟨f,hf,e⟩:=ţ.mp hm;obtain⟨t,ht,et⟩:=ų hf;have cz:=(h.rB O lg).zero t ht;have ec:cl fs t=c:=by unfold cl;rw[getD_at (List.getElem?_eq_getElem ht),et,e]
 rw[ec] at cz;unfold fn at cz;rw[ae] at cz;have r:=(vh (show 0<p by lia) lg Z h.rok).2.g (show 0<p by lia) c;have:=aW (show 0<g (zdl p fs ê) c by lia) cz;lia
def JF {p:Int}(hp:zbn p){w:Nat}{fs:List Fd}(h:sK p w é é.length fs)(ci:CI p fs.length (mt (rowsOf é fs)))(lw:∀y∈é,y.length=w){ê à am:ń}{b:Int}(lg:ê.length=w)(lt:à.length=fs.length){c:Nat}(hc:c<w)(nz:g (zdl p fs ê) c≠0)(b1:1<=b)
 (WN:∀i,i<fs.length->g am i=g (é.getD (nm fs i) []) c)(sol:∀i:Nat,i<fs.length->(zag fs.length fun t=>st é (nm fs i) (cl fs t.toNat)*fn à t)=b*g am i)(gd:Good p w é.length (st é) (fn ê)) :
    IL é ê (((wC w (mP fs) à).map fun x=>-x).set c b) 0:=by
  have nc:=h.N3 hp lg nz;have lW0:=qF w (mP fs) à;have z0:g (wC w (mP fs) à) c=0:=wL nc (p5 h);obtain⟨W,hW⟩:∃W:ń,W=((wC w (mP fs) à).map fun x=>-x).set c b:=⟨_,Z⟩;rw[<-hW];have lW:W.length=w:=by rw[hW,cI,aa,lW0]
  have zero:∀i,i<fs.length->dot (é.getD (nm fs i) []) W=0:=fun i hi=>by
    have lv:=lw _ (nI (è:=é) (h.uD hi));rw[hW,Np lv lW0 hc z0,FY hp h lv lt,<-WN i hi];have:=sol i hi;have e:(zag fs.length fun t=>fn (é.getD (nm fs i) []) (cl fs t.toNat)*fn à t)=b*g am i:=this;rw[e];lia
  have gW:∀c',c'<w->g W c'=if c'=c then b else -(g (wC w (mP fs) à) c'):=fun c' wQ=>by
    rw[hW,Af zoh]
    by_cases q:c'=c
    · rw[aA q,aA q]
    · rw[ah q,ah q,tE O]
  refine⟨fun j hj=>?_,fun d=>?_⟩
  · rw[Ih h lw lW gd zero j hj];exact cq _
  · refine Iq hp h ci lw lg lW zero hc nz b1 (by rw[gW c hc,aA Z]) (à:=à) (am:=fun i=>g am i.toNat) (fun t ht q=>?_) (fun c' wQ q=>?_) (fun i hi=>by rw[ae];exact sol i hi) (gS.mp d)
    · rw[gW _ (h.cor.colw t ht),ah q,KM (h.FN hp) (p5 h) (A1 ht) (nR O)]
    · by_cases m:c'∈mP fs
      · unfold mP at m
        obtain⟨f,hf,e⟩:=ţ.mp m;obtain⟨t,ht,et⟩:=ų hf;exact .inl ⟨t,ht,by unfold cl;rw[getD_at (List.getElem?_eq_getElem ht),et,e]⟩
      · right
        rw[gW c' wQ,ah q,wL m (p5 h)];rfl
variable {ps:ľ}
def Hw {n:Int}(h:zcs n ps)(hp:zbn n):ps=[(n,n)]:=by
 have p2:=hp.1;have all:∀x∈ps,x.1=n:=fun x hx=>by
  have a:=(zeb h x).mp hx;rcases ū x.1 n with c | c
  .exact absurd a.2.1 (hp.2 x.1 a.1.1 c)
  .have:=aW O a.2.1;lia
 cases ps with
 | nil =>
  have e:=h.prd;have e':(1:Int)=n:=e;lia
 | cons x l =>
  cases l with
  | nil =>
   have e:=h.prd;have e':x.2*1=n:=e;have a:=all x av;have b:x.2=n:=O;have:x=(n,n):=g6 a b;rw[this]
  | cons y l =>
   exfalso;have s:=h.srt;rw[gK] at s;have lt:=s.1 y av;have a:=all x av;have b:=all y (aq _ av);lia
def Iz {n:Int}(h:zcs n ps)(e:ps=[(n,n)]):zbn n:=by
 have:=h.row (n,n) (by rw[e];exact av);exact this.pr
def gD (k C:Nat):Nat:=(2*(k*C)+1)^k
def gG (k C Cg:Nat):Nat:=gD k C+C+Cg
def gB (k C Cg:Nat):Nat:=k*(gD k C*(zcp k C*gG k C Cg))+gD k C+1
def WB (k C Cg:Nat):Bool:=Nat.ble (128*(gB k C Cg*gB k C Cg)*(128*(gB k C Cg*gB k C Cg))*2^480) (2^9000) && Nat.blt (gG k C Cg) (2^9000) && Nat.blt (gD k C*((k+1)*(zcp k Cg*Cg))) (zfe Pq.S)
def TJ {w:Nat}{é:ĸ}{ê cnts W:ń}{s:Int}(lw:∀y∈é,y.length=w)(lg:ê.length=w)(lW:W.length=w)(hw:Mr w é ê cnts)(hb:IL é ê W s):e8:=by
 refine hb.2 ?_;have e:(zag w fun i=>g ê i.toNat*g W i.toNat)=zag é.length fun j=>g cnts j.toNat*zag w fun c=>g (é.getD j.toNat []) c.toNat*g W c.toNat:=by
  have e1:(zag w fun i=>g ê i.toNat*g W i.toNat)=zag w fun c=>zag é.length fun j=>g cnts j.toNat*(g (é.getD j.toNat []) c.toNat*g W c.toNat):=zbc fun c hc=>by
   rw[ae,<-hw c hc,<-zec];exact zbc fun j _=>aE ..
  rw[e1,zdf];exact zbc fun j _=>zbk ..
 rw[p6 lg lW,e];exact vT fun j hj=>by
  rw[ae,<-p6 (lw _ (nI hj)) lW];exact ax (hb.1 j hj)
end Rx
open Rx renaming numsOf→zbi, mP→zbu, rowsOf→zby, wh→zdu, cn→zdw, gB→zdy, Mq→zdz, IL→zea, ow→zej, gG→zek, Mr→zes, p5→zfb, zO→zfi, uH→zfj
namespace Rg
variable {n st:Nat}
def rv (n:Int)(t:Int×Int×Int)(x:Int):Int:=if (x-t.2.1)%(n/t.1)=0 then t.2.2 else 0
def z8 (n:Int)(è:ļ)(x:Int):Int:=(è.map fun t=>rv n t x).sum
def DN (n:Int)(è:ļ)(t:Int×Int×Int)(x:Int):z8 n (è++[t]) x=z8 n è x+rv n t x:=by
 unfold z8;rw[Ć,List.sum_append];simp
def lay0 (hn:0<n)(uX:0<st)(hole ë:Int)(a:ń):∀x:Int,zaw a x=zaw a x+(if (x-hole)%st=0/\(x%n)/st<((0:Nat):Int) then ë else 0):=fun x=>by
 rw[ah,dL];rintro⟨_,z⟩;have:=de (aH x (show (n:Int)≠0 by lia)) (show (0:Int)<=st by lia);lia
def XI {p i:Nat}(uX:0<st)(Fe:n=p*st)(hi:i<p){hole ë:Int}{a b:ń}(hb:b.length=n)
 (h:∀x:Int,zaw b x=zaw a x+(if (x-hole)%st=0/\(x%n)/st<(i:Int) then ë else 0)) :
    0<=hole%st+i*st/\hole%st+i*st<(n:Int)/\∀x:Int,zaw (b.set (hole%st+i*st).toNat (zaw b (hole%st+i*st)+ë)) x=zaw a x+(if (x-hole)%st=0/\(x%n)/st<((i+1:Nat):Int) then ë else 0):=by
  have l0:=aH hole (show (st:Int)≠0 by lia);have l1:=aF hole (show (0:Int)<st by lia);have hn:0<n:=by rw[Fe];exact dI O uX
  have is0:(0:Int)<=(i:Int)*st:=bF O O;have is1:((i:Int)+1)*st<=n:=by
    rw[Fe,aI];exact ar O O
  rw[fQ,cY] at is1;have y0:0<=hole%st+i*st:=O;have y1:hole%st+i*st<(n:Int):=O;have ym:(hole%st+i*st)%n=hole%st+i*st:=aT y0 y1;have sn:(st:Int)∣n:=⟨p,by rw[Fe,aI,ay]⟩;have ys:(hole%st+i*st)/st=i:=by rw[jS _ _ O,gU l0 l1,eI]
  refine⟨y0,y1,fun x=>?_⟩;have e:=Ld.wx hb hn (hole%st+i*st) (zaw b (hole%st+i*st)+ë) x;rw[ym] at e;rw[e]
  by_cases c:x%n=hole%st+i*st
  · have c1:(x-hole)%st=0:=by
      have:x%st=hole%st:=by
        rw[<-aX x sn,c,ga,aX _ (cq _)]
      rw[dr,this];simp
    rw[aA c,aA ⟨c1,by rw[c,ys];lia⟩];have ex:zaw b (hole%st+i*st)=zaw b x:=zcv hb _ _ (by rw[ym,c]);rw[ex,h,ah]
    · lia
    · rintro⟨_,z⟩
      rw[c,ys] at z;lia
  · rw[ah c,h]
    by_cases d:(x-hole)%st=0/\(x%n)/st<(i:Int)
    · rw[aA d,aA ⟨d.1,by have:=d.2;lia⟩]
    · rw[ah d,ah]
      rintro⟨z1,z2⟩;have zi:(x%n)/st=i:=by
        rcases ū ((x%n)/st) i with w | w
        · exact absurd ⟨z1,w⟩ d
        · lia
      have zm:(x%n)%st=hole%st:=by
        rw[aX x sn];have:=aK.mpr z1;exact this
      have:=bU (x%n) st;rw[zi,zm,ay] at this;exact c this.symm
def XE {p:Nat}(uX:0<st)(hp:0<p)(Fe:n=p*st){hole ë:Int}{a b:ń}
 (h:∀x:Int,zaw b x=zaw a x+(if (x-hole)%st=0/\(x%n)/st<(p:Int) then ë else 0)):∀x:Int,zaw b x=zaw a x+(if (x-hole)%st=0 then ë else 0):=fun x=>by
  rw[h];have hn:0<n:=by rw[Fe];exact dI hp uX
  have lt:(x%n)/st<(p:Int):=by
    refine iF O ?_;have:=aF x (show (0:Int)<n by lia);rw[Fe,aI] at this ⊢;exact this
  by_cases c:(x-hole)%st=0
  · rw[aA ⟨c,lt⟩,aA c]
  · rw[ah (fun z=>c z.1),ah c]
def K4 {p:Nat}(uX:0<st)(hp:0<p)(Fe:n=p*st)(hole:Int):hole%st<(n:Int)/\(((n:Int)-hole%st-1)/st+1).toNat=p:=by
 have l0:=aH hole (show (st:Int)≠0 by lia);have l1:=aF hole (show (0:Int)<st by lia);have e:(n:Int)=p*st:=by rw[Fe,aI]
 have s1:(st:Int)<=n:=by rw[e];have:=ar (show (1:Int)<=p by lia) (show (0:Int)<=st by lia);lia
 refine⟨O,?_⟩;have q:((n:Int)-hole%st-1)/st=p-1:=by
  have r:(n:Int)-hole%st-1=(st-1-hole%st)+(p-1)*st:=by rw[cZ,cY,e];lia
  rw[r,jS _ _ O,gU O O,eI]
 rw[q];lia
def Bw {p:Int}(hn:1<=n)(hp:2<=p)(d:p∣n):∃st:Nat,(n:Int)/p=st/\0<st/\n=p.toNat*st/\p.toNat<=n:=by
 obtain⟨e,he⟩:=d;have e1:1<=e:=by
  rcases ū e 1 with z | z
  .have:=aB (show e<=0 by lia) (show 0<=p by lia);lia
  .exact z
 have q:(n:Int)/p=e:=by rw[he];exact aC _ O
 have f:n=p.toNat*e.toNat:=by
  have:((p.toNat*e.toNat:Nat):Int)=p*e:=by rw[aI,cR O,cR O]
  lia
 exact⟨e.toNat,by rw[q,cR O],O,f,by rw[f];exact jD _ O⟩
def YF {n st:Nat}(hn:0<n)(uX:0<st)(hole ë:Int)(a:ń):∀x:Int,zaw a x=zaw a x+(if (x-hole)%st=0/\((x-hole)%n)/st<((0:Nat):Int) then ë else 0):=fun x=>by
 rw[ah,dL];rintro⟨_,z⟩;have:=de (aH (x-hole) (show (n:Int)≠0 by lia)) (show (0:Int)<=st by lia);lia
def zax {n st p i:Nat}(uX:0<st)(Fe:n=p*st)(hi:i<p){hole ë:Int}{a b:ń}(hb:b.length=n)
  (h:∀x:Int,zaw b x=zaw a x+(if (x-hole)%st=0/\((x-hole)%n)/st<(i:Int) then ë else 0)) :
  ∀x:Int,zaw (b.set ((hole+i*st)%n).toNat (zaw b (hole+i*st)+ë)) x=zaw a x+(if (x-hole)%st=0/\((x-hole)%n)/st<((i+1:Nat):Int) then ë else 0):=fun x=>by
 have hn:0<n:=by rw[Fe];exact dI O uX
 have is0:(0:Int)<=(i:Int)*st:=bF O O;have is1:((i:Int)+1)*st<=n:=by
  rw[Fe,aI];exact ar O O
 rw[fQ,cY] at is1;have ism:((i:Int)*st)%n=i*st:=aT is0 O;have sn:(st:Int)∣n:=⟨p,by rw[Fe,aI,ay]⟩;rw[Ld.wx hb hn]
 by_cases c:x%n=(hole+i*st)%n
 .have d:(x-hole)%n=i*st:=by rw[dr,c,<-dr,show hole+(i:Int)*st-hole=i*st by lia,ism]
  have d1:(x-hole)%st=0:=by rw[<-aX _ sn,d,kq]
  have d2:((x-hole)%n)/st=i:=by rw[d,gA _ O]
  rw[aA c,aA ⟨d1,by rw[d2];lia⟩,<-zcv hb x _ c,h,ah]
  .lia
  .rintro⟨_,z⟩;rw[d2] at z;lia
 .rw[ah c,h]
  by_cases d:(x-hole)%st=0/\((x-hole)%n)/st<(i:Int)
  .rw[aA d,aA ⟨d.1,by have:=d.2;lia⟩]
  .rw[ah d,ah];rintro⟨z1,z2⟩;have zi:((x-hole)%n)/st=i:=by
    rcases ū (((x-hole)%n)/st) i with w | w
    .exact absurd ⟨z1,w⟩ d
    .lia
   have zm:((x-hole)%n)%st=0:=by rw[aX _ sn];exact z1
   have e:=bU ((x-hole)%n) st;rw[zi,zm,eI,ay] at e;refine c ?_;have:((x-hole)%n+hole)%n=(i*st+hole)%n:=by rw[e]
   rw[ks,show x-hole+hole=x by lia,iW ((i:Int)*st)] at this;exact this
def ZM {n st p:Nat}(uX:0<st)(hp:0<p)(Fe:n=p*st){hole ë:Int}{a b:ń}
  (h:∀x:Int,zaw b x=zaw a x+(if (x-hole)%st=0/\((x-hole)%n)/st<(p:Int) then ë else 0)):∀x:Int,zaw b x=zaw a x+(if (x-hole)%st=0 then ë else 0):=fun x=>by
 rw[h];have hn:0<n:=by rw[Fe];exact dI hp uX
 have lt:((x-hole)%n)/st<(p:Int):=by
  refine iF O ?_;have:=aF (x-hole) (show (0:Int)<n by lia);rw[Fe,aI] at this ⊢;exact this
 by_cases c:(x-hole)%st=0
 .rw[aA ⟨c,lt⟩,aA c]
 .rw[ah (fun z=>c z.1),ah c]
end Rg
open Rg renaming rv→zcr, z8→zdd
namespace Rt
variable {x:Int×Int}
open Pt (Parts)
structure Pc (n:Nat)(p q u:Int):Prop where
 n1:1<=n
 p2:2<=p
 q2:1<=q
 pq:p∣q
 qn:q∣(n:Int)
 le:((n:Int)/q*u-1)%q=0
theorem Pc.mk' {n:Nat}{ps:ľ}(hn:1<=n)(hp:Parts n ps)(hx:x∈ps){u:Int}(hu:((n:Int)/x.2*u-1)%x.2=0):Pc n x.1 x.2 u:=by
 obtain⟨m,e,e',_,q2,d,_⟩:=zen hp hx;exact⟨hn,(hp.row x hx).pr.1,O,d,⟨m,e⟩,hu⟩
section
variable {f:ř}
variable {n:Nat}{p q u:Int}
def top (p q u k:Int):Int:=(k*u%q)/(q/p)
theorem Pc.m (h:Pc n p q u):∃m,q=p*m/\q/p=m/\1<=m:=by
 obtain⟨m,e⟩:=h.pq;have hp:=h.p2;have hq:=h.q2;refine⟨m,e,by rw[e];exact aC _ O,?_⟩;rcases ū m 1 with z | z
 .have:=aB (show m<=0 by lia) (show 0<=p by lia);lia
 .exact z
theorem Pc.cof (h:Pc n p q u):∃c,(n:Int)=q*c/\(n:Int)/q=c/\(n:Int)/p=c*(q/p):=by
 obtain⟨c,e⟩:=h.qn;obtain⟨m,em,Ck,m1⟩:=h.m;have hp:=h.p2;have hq:=h.q2;refine⟨c,e,by rw[e];exact aC _ O,?_⟩;rw[Ck,e,em,aE,aC _ O,ay]
theorem Pc.step (h:Pc n p q u)(k t:Int):((k+t*((n:Int)/p))*u)%q=(k*u+t*(q/p))%q:=by
 obtain⟨c,e,e1,e2⟩:=h.cof;have d:q∣c*u-1:=by have:=aY h.le;rwa [e1] at this
 refine aK.mpr (bB ?_);rw[e2];have:(k+t*(c*(q/p)))*u-(k*u+t*(q/p))=t*(q/p)*(c*u-1):=by
  rw[fQ,cL,bX];have:t*(c*(q/p))*u=t*(q/p)*(c*u):=by
   rw[aE,aE t (q/p),ay c (q/p),aE]
  lia
 rw[this];exact ax d
theorem Pc.top_lt (h:Pc n p q u)(k:Int):0<=top p q u k/\top p q u k<p:=by
 obtain⟨m,em,Ck,m1⟩:=h.m;have hq:=h.q2;unfold top;rw[Ck];have a:=aH (k*u) (show q≠0 by lia);have b:=aF (k*u) (show 0<q by lia);refine⟨de a O,iF O ?_⟩;rw[<-em];exact b
theorem Pc.Cr (h:Pc n p q u)(k t:Int):top p q u (k+t*((n:Int)/p))=(top p q u k+t)%p:=by
 obtain⟨m,em,Ck,m1⟩:=h.m;have hq:=h.q2;have hp:=h.p2;unfold top;rw[h.step,Ck];have r0:=aH (k*u) (show q≠0 by lia);have e1:(k*u+t*m)%q=(k*u%q+t*m)%q:=by rw[ks]
 rw[e1];generalize k*u%q=r;have rd:=bU r m;have s0:=aH r (show m≠0 by lia);have s1:=aF r (show 0<m by lia);generalize hs:r%m=s at rd s0 s1;generalize hT:r/m=T at rd;have er:r+t*m=s+m*(T+t):=by rw[<-rd,gi,ay t m];lia
 rw[er];have td:=bU (T+t) p;have v0:=aH (T+t) (show p≠0 by lia);have v1:=aF (T+t) (show 0<p by lia);generalize (T+t)%p=v at td v0 v1;generalize (T+t)/p=w at td;have e2:s+m*(T+t)=(s+m*v)+q*w:=by
  rw[<-td,gi,em,<-aE m p w,ay m p];lia
 rw[e2,cV];have mv0:0<=m*v:=bF O v0;have mv1:m*v+m<=q:=by
  have:=aB (show v+1<=p by lia) (show 0<=m by lia);rw[gi,bX,ay m p,<-em] at this;exact this
 rw[aT O O,fW _ _ O,gU s0 s1,eI]
def dl (n:Nat)(p q u k:Int):Int:=k+(p-1-top p q u k)*((n:Int)/p)
theorem Pc.yt (h:Pc n p q u)(k:Int):top p q u (dl n p q u k)=p-1:=by
 have t:=h.top_lt k;unfold dl;rw[h.Cr,show top p q u k+(p-1-top p q u k)=p-1 by lia,aT O O]
theorem D5 {k:Int}(h:top p q u k=p-1):dl n p q u k=k:=by
 unfold dl;rw[h];simp
theorem Pc.Fo (h:Pc n p q u)(k t:Int):(dl n p q u (k+t*((n:Int)/p)))%n=(dl n p q u k)%n:=by
 unfold dl;rw[h.Cr];have hp:=h.p2;have td:=bU (top p q u k+t) p;generalize (top p q u k+t)%p=v at td;generalize (top p q u k+t)/p=w at td;have np:p*((n:Int)/p)=n:=b8 (bu h.pq h.qn);have e:k+t*((n:Int)/p)+(p-1-v)*((n:Int)/p)=k+(p-1-top p q u k)*((n:Int)/p)+n*w:=by
  have f:t+(p-1-v)=(p-1-top p q u k)+p*w:=O;rw[Int.add_assoc,<-fQ,f,fQ,ay p w,aE,np,ay w];lia
 rw[e,cV]
def E (n:Nat)(p q u:Int)(f:ř):Int->Int:=fun k=>f k-f (dl n p q u k)
theorem Pc.O1 (h:Pc n p q u)(hf:zbl n f):zbl n (E n p q u f):=fun x y e=>by
 unfold E;rw[hf x y e];congr 1;refine hf _ _ ?_;have et:top p q u x=top p q u y:=by
  unfold top;have:(x*u)%q=(y*u)%q:=by
   have d:q∣x*u-y*u:=by
    rw[<-cZ];exact aD (bu h.qn (aY (aK.mp e)))
   exact aK.mpr (bB d)
  rw[this]
 unfold dl;rw[et];exact Ld.xf _ e
theorem Us (f g:ř)(k:Int):E n p q u (fun x=>f x+g x) k=E n p q u f k+E n p q u g k:=by unfold E;dsimp only;lia
theorem Rj (h:∀k,f k=0)(k:Int):E n p q u f k=0:=by unfold E;rw[h,h];rfl
theorem Pc.Rb (h:Pc n p q u)(f:ř){k:Int}(t:top p q u k=p-1):E n p q u f k=0:=by unfold E;rw[D5 t];lia
def Inv (n:Nat)(p:Int)(f:ř):Prop:=∀k t:Int,f (k+t*((n:Int)/p))=f k
theorem Pc.UP (h:Pc n p q u)(hf:Inv n p f)(k:Int):E n p q u f k=0:=by
 unfold E dl;rw[hf];lia
end
section
variable {n:Nat}{p q u p' q' u':Int}
theorem uj (d:q∣(n:Int)/p')(k t:Int):top p q u (k+t*((n:Int)/p'))=top p q u k:=by
 unfold top;congr 1;refine aK.mpr (bB ?_);rw[fQ,show k*u+t*((n:Int)/p')*u-k*u=t*((n:Int)/p')*u by lia];exact aD (ax d)
theorem CS (d:q∣(n:Int)/p'){f:ř}(hf:Inv n p' f):Inv n p' (E n p q u f):=fun k t=>by
 unfold E dl;rw[uj d,hf];congr 1;have:k+t*((n:Int)/p')+(p-1-top p q u k)*((n:Int)/p)=k+(p-1-top p q u k)*((n:Int)/p)+t*((n:Int)/p'):=O;rw[this,hf]
theorem A2 (d:q'∣(n:Int)/p){f:ř}(hf:∀k,top p' q' u' k=p'-1->f k=0)(k:Int)(t:top p' q' u' k=p'-1):E n p q u f k=0:=by
 unfold E dl;rw[hf k t,hf _ (by rw[uj d];exact t)];rfl
end
def R (n:Nat):ĺ->(Int->Int)->Int->Int
 | [],f=>f
 | z::l,f=>R n l (E n z.1.1 z.1.2 z.2 f)
structure pY (n:Nat)(ps:ľ)(l:ĺ):Prop where
 n1:1<=n
 hp:Parts n ps
 map:l.map ű=ps
 le:∀z∈l,((n:Int)/z.1.2*z.2-1)%z.1.2=0
theorem pY.pc {n:Nat}{ps:ľ}{l:ĺ}(h:pY n ps l){z:(Int×Int)×Int}(hz:z∈l):Pc n z.1.1 z.1.2 z.2 :=
 Pc.mk' h.n1 h.hp (by rw[<-h.map];exact dU.mpr ⟨z,hz,Z⟩) (h.le z hz)
theorem El {n:Nat}{ps:ľ}(hp:Parts n ps){y:Int×Int}(hx:x∈ps)(hy:y∈ps)(ne:x.1≠y.1):x.2∣(n:Int)/y.1:=by
 have c:=Rs.Do hp hx hy ne;obtain⟨m,e,e',_,q2,⟨t,d⟩,_⟩:=zen hp hy;have p2:=(hp.row y hy).pr.1;have:(n:Int)/y.1=(n:Int)/y.2*t:=by
  rw[e',e,d,aE,aC _ O,ay]
 rw[this];exact aD c
theorem uF (n:Nat):∀(l:ĺ)(f g:ř)(k:Int),R n l (fun x=>f x+g x) k=R n l f k+R n l g k
 | [],f,g,k=>rfl
 | z::l,f,g,k=>by
  simp only[R];have:E n z.1.1 z.1.2 z.2 (fun x=>f x+g x)=fun x=>E n z.1.1 z.1.2 z.2 f x+E n z.1.1 z.1.2 z.2 g x:=funext fun x=>Us f g x;rw[this,uF n l]
theorem vi (n:Nat):∀(l:ĺ){f:ř},(∀k,f k=0)->∀k,R n l f k=0
 | [],f,h,k=>h k
 | z::l,f,h,k=>vi n l (fun k=>Rj h k) k
theorem OZ {n:Nat}{ps:ľ}:∀{l:ĺ}{x:Int×Int},(∀z∈l,Pc n z.1.1 z.1.2 z.2)->(∀z∈l,z.1=x\/z.1.2∣(n:Int)/x.1)->(∃z∈l,z.1=x)->∀{f:ř},Inv n x.1 f->∀k,R n l f k=0
 | [],x,_,_,⟨z,hz,_⟩,f,hf,k=>by cases hz
 | z::l,x,hpc,hc,hex,f,hf,k=>by
  simp only[R]
  by_cases e:z.1=x
  .refine vi n l (fun k=>(hpc z av).UP ?_ k) k;rw[e];exact hf
  .have d:z.1.2∣(n:Int)/x.1:=(hc z av).resolve_left e;refine OZ (ps:=ps) (fun y hy=>hpc y (aq _ hy)) (fun y hy=>hc y (aq _ hy)) ?_ (CS d hf) k;obtain⟨y,hy,ey⟩:=hex;rcases ũ.mp hy with w | w
   .exact absurd (w▸ey) e
   .exact⟨y,w,ey⟩
theorem pY.kill {n:Nat}{ps:ľ}{l:ĺ}(h:pY n ps l)(hx:x∈ps){f:ř}(hf:Inv n x.1 f)(k:Int):R n l f k=0:=by
 have mem:∀z∈l,z.1∈ps:=fun z hz=>by rw[<-h.map];exact dU.mpr ⟨z,hz,Z⟩
 refine OZ (ps:=ps) (x:=x) (fun z hz=>h.pc hz) (fun z hz=>?_) ?_ hf k
 .by_cases e:z.1=x
  .exact .inl e
  .refine .inr (El h.hp (mem z hz) hx fun w=>e ?_)
   -- two parts of one prime are the same
   rcases ø.mp (mem z hz) with ⟨i,hi,ei⟩;rcases ø.mp hx with ⟨j,hj,ej⟩;have pw:=dO.mp h.hp.srt;rcases Ĭ i j with g | g | g
   .have:=pw i j hi hj g;rw[ei,ej] at this;lia
   .subst g;rw[<-ei,ej]
   .have:=pw j i hj hi g;rw[ei,ej] at this;lia
 .rw[<-h.map] at hx;obtain⟨z,hz,e⟩:=ţ.mp hx;exact⟨z,hz,e⟩
theorem Qb (n:Nat)(t:Int×Int×Int)(hp:t.1∣(n:Int)):Inv n t.1 (zcr n t):=fun k s=>by
 unfold zcr;have:(k+s*((n:Int)/t.1)-t.2.1)%((n:Int)/t.1)=(k-t.2.1)%((n:Int)/t.1):=by
  rw[show k+s*((n:Int)/t.1)-t.2.1=k-t.2.1+s*((n:Int)/t.1) by lia,ga]
 rw[this]
theorem pY.wP {n:Nat}{ps:ľ}{l:ĺ}(h:pY n ps l):∀{è:ļ},(∀t∈è,t.1∈ps.map ű)->∀k,R n l (zdd n è) k=0
 | [],_,k=>vi n l (fun _=>Z) k
 | t::r,hm,k=>by
  have e:zdd n (t::r)=fun x=>zcr n t x+zdd n r x:=funext fun x=>by unfold zdd;rw[ĕ,List.sum_cons]
  rw[e,uF,h.wP (è:=r) fun y hy=>hm y (aq _ hy)];obtain⟨x,hx,ex⟩:=ţ.mp (hm t ē);have dv:t.1∣(n:Int):=by rw[<-ex];exact((zeb h.hp x).mp hx).2.1
  rw[h.kill hx (by rw[ex];exact Qb n t dv)];rfl
variable {Q:Int->Int->Prop}
theorem GC:∀(l:ľ),(∀x∈l,Pt.Row x)->(2:Int)^l.length<=zfd l
 | [],_=>by simp[zfd]
 | x::r,h=>by
  have a:=GC r fun y hy=>h y (aq _ hy);have b:=Pt.vg (h x av);have c:=Pt.sI r fun y hy=>h y (aq _ hy);simp only[zfd,į];rw[bj,ay];exact df O a (Int.pow_nonneg O) O
theorem ux {n:Nat}{ps:ľ}(hp:Parts n ps)(hn:n<=420):ps.length<=8:=by
 rcases ů 8 ps.length with z | z
 .have a:=GC ps hp.row;rw[hp.prd] at a;have b:(2:Int)^9<=2^ps.length:=Pt.CU (p:=2) L z;have c:(2:Int)^9=512:=L;lia
 .exact z
section
variable {k:Int}
variable {n:Nat}{p q u:Int}
theorem Pc.Bv (h:Pc n p q u)(k:Int):(k*u%q >= q-q/p)↔top p q u k=p-1:=by
 obtain⟨m,em,Ck,m1⟩:=h.m;have hq:=h.q2;have hp:=h.p2;have t:=h.top_lt k;unfold top at t ⊢;rw[Ck] at t ⊢;have r1:=aF (k*u) (show 0<q by lia);have rd:=bU (k*u%q) m;have s0:=aH (k*u%q) (show m≠0 by lia);have s1:=aF (k*u%q) (show 0<m by lia);generalize k*u%q=r at *;generalize r/m=T at *;constructor
 .intro g;rcases ū T (p-1) with z | z
  .have:=aB (show T+1<=p-1 by lia) (show 0<=m by lia);rw[gi,bX,cL,bX,ay m p,<-em] at this;lia
  .lia
 .intro g;rw[g,cL,bX,ay m p,<-em] at rd;lia
theorem Pc.Fv (h:Pc n p q u){x y:Int}(e:x%n=y%n):top p q u x=top p q u y:=by
 unfold top;have:(x*u)%q=(y*u)%q:=by
  have d:q∣x*u-y*u:=by
   rw[<-cZ];exact aD (bu h.qn (aY (aK.mp e)))
  exact aK.mpr (bB d)
 rw[this]
def yR (p q u:Int):Nat->ń
 | 0=>[]
 | i+1=>yR p q u i++(if top p q u i=p-1 then [(i:Int)] else [])
theorem sE {p q u:Int}:∀{i:Nat}{k:Int},k∈yR p q u i↔0<=k/\k<i/\top p q u k=p-1
 | 0,k=>⟨fun h=>(nomatch h),fun h=>by lia⟩
 | i+1,k=>by
  unfold yR;rw[g9,sE];constructor
  .rintro (⟨a,b,c⟩ | h)
   .exact⟨a,O,c⟩
   .split at h
    .rename_i e;rw[cm.mp h];exact⟨O,O,e⟩
    .cases h
  .rintro⟨a,b,c⟩
   by_cases z:k=i
   .subst z;exact .inr (by rw[aA c];simp)
   .exact .inl ⟨a,O,c⟩
theorem xY {p q u:Int}:∀i:Nat,(yR p q u i).Pairwise (· < ·)
 | 0=>List.Pairwise.nil
 | i+1=>by
  unfold yR;rw[gf];refine⟨xY i,by split<;>simp,fun x hx y hy=>?_⟩;have:=(sE.mp hx).2.1;split at hy
  .rw[cm] at hy;lia
  .cases hy
theorem BS {p q u:Int}:∀i:Nat,(yR p q u i).length<=i
 | 0=>aG _
 | i+1=>by
  unfold yR;rw[aP];have:=BS (p:=p) (q:=q) (u:=u) i;split<;>simp<;>lia
def D (n:Nat)(p q u k:Int):Int:=dl n p q u k%n
theorem Pc.T7 (h:Pc n p q u)(k:Int):D n p q u k∈yR p q u n:=by
 have n1:=h.n1;refine sE.mpr ⟨aH _ O,aF _ O,?_⟩;unfold D;rw[h.Fv (aX _ (cq _)),h.yt]
theorem Pc.Pa (h:Pc n p q u){x:Int}(hk:k∈yR p q u n):(x-k)%((n:Int)/p)=0↔D n p q u x=k:=by
 obtain⟨k0,k1,kt⟩:=sE.mp hk;have np:p*((n:Int)/p)=n:=b8 (bu h.pq h.qn);have dn:((n:Int)/p)∣n:=⟨p,by rw[ay];exact np.symm⟩;constructor
 .intro e;obtain⟨t,ht⟩:=ò e;have ex:x=k+t*((n:Int)/p):=by rw[ay];lia
  unfold D;rw[ex,h.Fo,D5 kt,aT k0 k1]
 .intro e;unfold D at e;have e2:(dl n p q u x)%((n:Int)/p)=k%((n:Int)/p):=by rw[<-e,aX _ dn]
  unfold dl at e2;rw[ga] at e2;exact aK.mp e2
theorem PP (n p h m x:Int):zcr n (p,h,-m) x=- zcr n (p,h,m) x:=by
 unfold zcr;dsimp only;split<;>simp
structure PI (n:Nat)(p q u:Int)(f:ř)(j:Nat)(b:ń):Prop where
 len:b.length=n
 at_:∀x,zaw b x=f x-(if D n p q u x∈(yR p q u n).take j then f (dl n p q u x) else 0)
theorem pi0 {f:ř}{b:ń}(hb:b.length=n)(h:∀x,zaw b x=f x):PI n p q u f 0 b:=⟨hb,fun x=>by rw[jt,ah lB,Int.sub_zero];exact h x⟩
theorem yH {l:ń}(h:l.Pairwise (· < ·)){j:Nat}(e:l[j]?=some k):¬k∈l.take j:=fun m=>by
 obtain⟨i,hi,ei⟩:=ø.mp m;obtain⟨hj,ej⟩:=List.getElem?_eq_some_iff.mp e;rw[cT] at hi;have pw:=dO.mp h i j O hj O;rw[iZ] at ei;rw[ei,ej] at pw;lia
theorem Pc.P3 (h:Pc n p q u){f:ř}{b:ń}{j:Nat}(pi:PI n p q u f j b)(e:(yR p q u n)[j]?=some k):zaw b k=f k:=by
 have hk:=ao e;obtain⟨k0,k1,kt⟩:=sE.mp hk;have dk:D n p q u k=k:=by unfold D;rw[D5 kt,Int.emod_eq_of_lt k0 k1]
 rw[pi.at_,dk,ah (yH (xY n) e),cS]
theorem t7 {l:ń}{j:Nat}{x:Int}(e:l[j]?=some k):x∈l.take (j+1)↔x∈l.take j\/x=k:=by
 rw[zcg e,g9,cm]
theorem Pc.pi1 (h:Pc n p q u){f:ř}(hf:zbl n f){b b':ń}{j:Nat}(pi:PI n p q u f j b)(e:(yR p q u n)[j]?=some k)(lb:b'.length=n)
 (hb:∀x,zaw b' x=zaw b x+zcr n (p,k,-(f k)) x):PI n p q u f (j+1) b':=⟨lb,fun x=>by
  have hk:=ao e;obtain⟨k0,k1,kt⟩:=sE.mp hk;rw[hb,pi.at_];unfold zcr;dsimp only
  by_cases c:D n p q u x=k
  · rw[aA ((h.Pa hk).mpr c),ah (by rw[c];exact yH (xY n) e),aA (by rw[t7 e];exact .inr c)]
    have:f (dl n p q u x)=f k:=hf _ _ (by show D n p q u x=_;rw[c,aT k0 k1]);rw[this];lia
  · rw[ah fun z=>c ((h.Pa hk).mp z)]
    by_cases d:D n p q u x∈(yR p q u n).take j
    · rw[aA d,aA (by rw[t7 e];exact .inl d)];lia
    · rw[ah d,ah (by rw[t7 e];exact fun z=>z.elim d c)];lia⟩
theorem Pc.zao (h:Pc n p q u){f:ř}(hf:zbl n f){b:ń}{j:Nat}(pi:PI n p q u f j b)(e:(yR p q u n)[j]?=some k)(z:f k=0):PI n p q u f (j+1) b:=by
 refine h.pi1 hf pi e pi.len fun x=>?_;unfold zcr;rw[z];split<;>simp
theorem Pc.PK (h:Pc n p q u){f:ř}{b:ń}(pi:PI n p q u f (yR p q u n).length b)(x:Int):zaw b x=E n p q u f x:=by
 rw[pi.at_,b5,aA (h.T7 x)];rfl
end
theorem Ek (n:Nat):∀(l:ĺ)(z:(Int×Int)×Int)(f:ř),R n (l++[z]) f=E n z.1.1 z.1.2 z.2 (R n l f)
 | [],z,f=>rfl
 | y::l,z,f=>by simp only[List.cons_append,R];exact Ek n l z _
theorem I0 {n:Nat}:∀{l:ĺ},(∀z∈l,Pc n z.1.1 z.1.2 z.2)->∀{f:ř},zbl n f->zbl n (R n l f)
 | [],_,f,hf=>hf
 | z::l,h,f,hf=>I0 (l:=l) (fun y hy=>h y (aq _ hy)) ((h z av).O1 hf)
structure rR (n:Nat)(P:Int->Int->Prop)(a b:ń)(è:ļ):Prop where
 ok:∀t∈è,P t.1 t.2.1/\0<=t.2.1/\t.2.1<n/\¬t.2.2=0
 nd:(è.map fun t=>(t.1,t.2.1)).Nodup
 eq:∀x,zaw a x=zaw b x+zdd n è x
theorem rR.weak {n:Nat}{P:Int->Int->Prop}{a b:ń}{è:ļ}(h:rR n P a b è)(w:∀x y,P x y->Q x y):rR n Q a b è :=
 ⟨fun t ht=>let ⟨a,b⟩:=h.ok t ht;⟨w _ _ a,b⟩,h.nd,h.eq⟩
theorem rows0 {n:Nat}{P:Int->Int->Prop}(a:ń):rR n P a a []:=⟨fun t h=>(nomatch h),List.nodup_nil,fun x=>by unfold zdd;simp⟩
theorem rR.snoc {n:Nat}{P:Int->Int->Prop}{a b b':ń}{è:ļ}{p k m:Int}(h:rR n P a b è)(w:∀x y,P x y->Q x y)(q:Q p k)(no:∀x y,P x y->¬(x=p/\y=k))(k0:0<=k)(k1:k<n)(mz:¬m=0)
 (hb:∀x,zaw b' x=zaw b x+zcr n (p,k,-m) x):rR n Q a b' (è++[(p,k,m)]):=by
  refine⟨fun t ht=>?_,?_,fun x=>?_⟩
  · rcases ŵ.mp ht with z | z
    · obtain⟨a,b⟩:=h.ok t z;exact⟨w _ _ a,b⟩
    · rw[cm.mp z];exact⟨q,k0,k1,mz⟩
  · rw[aQ,i4]
    refine⟨h.nd,lB,fun x hx y hy e=>?_⟩;obtain⟨t,ht,et⟩:=ţ.mp hx;have ey:y=(p,k):=by simpa using hy
    refine no _ _ (h.ok t ht).1 ?_;rw[e,ey] at et;exact⟨cA ű et,cA Prod.snd et⟩
  · rw[Rg.DN,hb,h.eq,PP];lia
variable {n:Nat}{ps Oo:ľ}{l:ĺ}
theorem vp {n:Nat}{p' q' u':Int}:∀{l:ĺ},(∀z∈l,q'∣(n:Int)/z.1.1)->∀{f:ř},(∀k,top p' q' u' k=p'-1->f k=0)->∀k,top p' q' u' k=p'-1->R n l f k=0
 | [],_,f,hf,k,t=>hf k t
 | z::l,h,f,hf,k,t=>vp (l:=l) (fun y hy=>h y (aq _ hy)) (fun k t=>A2 (h z av) hf k t) k t
theorem JS {n:Nat}{ps:ľ}(hp:Parts n ps):∀{l:ĺ},(∀z∈l,Pc n z.1.1 z.1.2 z.2)->(∀z∈l,z.1∈ps)->l.Pairwise (fun y z=>y.1.1≠z.1.1)->∀{z:(Int×Int)×Int},z∈l->∀(f:ř)(k:Int),top z.1.1 z.1.2 z.2 k=z.1.1-1->R n l f k=0
 | [],_,_,_,z,hz,f,k,t=>by cases hz
 | y::l,hpc,hm,nd,z,hz,f,k,t=>by
  have ⟨n1,n2⟩:=gK.mp nd;simp only[R];rcases ũ.mp hz with w | w
  .subst w;refine vp (fun x hx=>?_) (fun k t=>(hpc z av).Rb f t) k t;exact El hp (hm z av) (hm x (aq _ hx)) (n1 x hx)
  .exact JS hp (l:=l) (fun x hx=>hpc x (aq _ hx)) (fun x hx=>hm x (aq _ hx)) n2 w _ k t
theorem pY.nd (h:pY n ps l):l.Pairwise (fun y z=>y.1.1≠z.1.1):=by
 have s:=h.hp.srt;rw[<-h.map,List.pairwise_map] at s;exact s.imp fun w=>by lia
theorem pY.drop (h:pY n ps l){z:(Int×Int)×Int}(hz:z∈l)(f:ř)(k:Int)(t:top z.1.1 z.1.2 z.2 k=z.1.1-1):R n l f k=0 :=
 JS h.hp (fun z hz=>h.pc hz) (fun z hz=>by rw[<-h.map];exact dU.mpr ⟨z,hz,Z⟩) h.nd hz f k t
theorem JZ {n:Nat}:∀{l:ĺ},(∀z∈l,Pc n z.1.1 z.1.2 z.2)->∀{f:ř},(∀z∈l,∀k,top z.1.1 z.1.2 z.2 k=z.1.1-1->f k=0)->R n l f=f
 | [],_,f,_=>rfl
 | z::l,h,f,hf=>by
  simp only[R];have e:E n z.1.1 z.1.2 z.2 f=f:=funext fun k=>by
   unfold E;rw[hf z av _ ((h z av).yt k),cS]
  rw[e];exact JZ (fun y hy=>h y (aq _ hy)) fun y hy=>hf y (aq _ hy)
theorem Ec {n N:Nat}{l':ĺ}{P:Int->Prop} (Φ:(Int->Int)->Int->Int)(add:∀f g,Φ (fun x=>f x+g x)=fun x=>Φ f x+Φ g x)(zero:∀x,Φ (fun _=>0) x=0)(kill:∀(f:ř)(p:Int),zbl n f->P p->Inv n p f->∀k,R N l' (Φ f) k=0) :
  ∀{l:ĺ},(∀z∈l,Pc n z.1.1 z.1.2 z.2)->(∀z∈l,P z.1.1)->∀{f:ř},zbl n f->∀k,R N l' (Φ fun x=>f x-R n l f x) k=0
 | [],_,_,f,_,k=>by
  have:(fun x=>f x-R n [] f x)=fun _=>0:=funext fun x=>by simp[R]
  rw[this];exact vi N l' zero k
 | z::l,h,hP,f,hf,k=>by
  have pc:=h z av;have e:(fun x=>f x-R n (z::l) f x)=fun x=>f (dl n z.1.1 z.1.2 z.2 x)+(E n z.1.1 z.1.2 z.2 f x-R n l (E n z.1.1 z.1.2 z.2 f) x):=funext fun x=>by
   simp only[R];show f x-_=f (dl n z.1.1 z.1.2 z.2 x)+((f x-f (dl n z.1.1 z.1.2 z.2 x))-_)
   lia
  rw[e,add,uF,Ec Φ add zero kill (l:=l) (fun y hy=>h y (aq _ hy)) (fun y hy=>hP y (aq _ hy)) (pc.O1 hf) k];have per:zbl n fun x=>f (dl n z.1.1 z.1.2 z.2 x):=fun x y w=>by
   refine hf _ _ ?_;unfold dl;rw[pc.Fv w];exact Ld.xf _ w
  rw[kill _ z.1.1 per (hP z av) fun k t=>hf _ _ (pc.Fo k t)];rfl
def fF (m:Nat)(f:ř)(x:Int):Int:=if x%m=0 then f (x/m) else 0
theorem Qy {m:Nat}(hm:0<m){p:Int}(hp:0<p)(pd:p∣(n:Int)){f:ř}(hf:Inv n p f):Inv (m*n) p (fF m f):=fun k t=>by
 have e:((m*n:Nat):Int)/p=m*((n:Int)/p):=by rw[aI,Int.mul_ediv_assoc _ pd]
 unfold fF;have e1:(k+t*(((m*n:Nat):Int)/p))=k+m*(t*((n:Int)/p)):=by rw[e,dD]
 rw[e1,cV]
 by_cases c:k%m=0
 .rw[aA c,aA c,fW _ _ O,hf]
 .rw[ah c,ah c]
theorem UL {p:Int}(hp:zbn p){m:Int}(h:¬p∣m)(e:Nat):Nat.Coprime (p^e).natAbs m.natAbs:=Rs.sH hp h e
theorem NJ {m:Nat}(hm:0<m)(hn:1<=n)(hp:Parts n ps)(Pk:Parts ((m*n:Nat):Int) Oo){y:Int×Int}(hy:y∈Oo){u':Int}(IN:(((m*n:Nat):Int)/y.2*u'-1)%y.2=0){k:Int}
 (t:top y.1 y.2 u' (m*k)=y.1-1):∃x∈ps,∀u,((n:Int)/x.2*u-1)%x.2=0->top x.1 x.2 u k=x.1-1:=by
  have N1:1<=m*n:=dI hm hn;have pc':=Pc.mk' N1 Pk hy IN;have row:=Pk.row y hy;obtain⟨b,hb⟩:=row.pw;have p2:=row.pr.1;have Op:=(zeb Pk y).mp hy
  by_cases d:y.1∣(n:Int)
  · obtain⟨x,hx,ex⟩:=Pt.uo row.pr ps hp.row (by rw[hp.prd];exact d)
    refine⟨x,hx,fun u hu=>?_⟩;obtain⟨a,ha⟩:=(hp.row x hx).pw;rw[ex] at ha;have ix:=(zeb hp x).mp hx;have xN:x.2∣((m*n:Nat):Int):=by rw[aI];exact ax ix.2.2.2.1
    have ab:a<=b:=by
      rcases ů b a with z | z
      · refine absurd (bu ?_ xN) Op.2.2.2.2
        rw[hb,ha,<-bj];exact⟨y.1^(a+1-(b+1+1)),by rw[<-fe];congr 1;lia⟩
      · exact z
    obtain⟨g,hg⟩:∃g,g=y.1^(b-a):=⟨_,Z⟩;have gq:y.2=g*x.2:=by rw[hb,ha,hg,<-fe];congr 1;lia
    have g1:1<=g:=by rw[hg];exact Pt.vV p2 _
    obtain⟨cn,en,en',ncn,x2,xd,_⟩:=zen hp hx;obtain⟨cN,eN,eN',_,_,_,zbC⟩:=zen Pk hy;have rel:(m:Int)*cn=g*cN:=by
      have:x.2*((m:Int)*cn)=x.2*(g*cN):=by
        rw[dD,<-en,<-aI,eN,gq,ay g,aE]
      exact aL O this
    have gm:g∣(m:Int):=by
      have zh:Nat.Coprime g.natAbs cn.natAbs:=by rw[hg];exact UL row.pr (by rw[<-ex];exact ncn) _
      refine Rs.tM zh ?_;rw[ay,rel];exact dC _ _
    obtain⟨r,hr⟩:=gm;have rc:r*cn=cN:=by
      rw[hr,aE] at rel;exact aL O rel
    have s1:=zem (n:=((m*n:Nat):Int)) (q:=y.2) (hole:=m*k) (u:=u') O IN;have s0:=zem (n:=(n:Int)) (q:=x.2) (hole:=k) (u:=u) O hu;have s2:Rs.Sh ((m*n:Nat):Int) y.2 (m*k) (g*(k*u%x.2)):=by
      refine⟨bF O s0.lo,?_,?_⟩
      · rw[gq];exact ia s0.hi O
      · rw[eN',<-rc,hr,gq]
        have d0:=s0.dv;rw[en'] at d0;have e:g*(k*u%x.2)*(r*cn)-g*r*k=g*(r*((k*u%x.2)*cn-k)):=by
          rw[cL,cL];congr 1
          · rw[aE];congr 1;rw[dD]
          · rw[aE]
        rw[e];exact Int.mul_dvd_mul_left g (ax d0)
    have eq:=Rs.yc (by rw[eN'];exact zbC) s1 s2 zol;unfold top at t ⊢;rw[eq] at t;obtain⟨w,hw⟩:=xd;rw[ex] at hw;have w1:x.2/y.1=w:=by rw[hw];exact aC _ O
    have w2:y.2/y.1=g*w:=by rw[gq,hw,dD];exact aC _ O
    rw[w2,Int.mul_ediv_mul_of_pos _ _ O] at t;rw[ex,w1];exact t
  · exfalso
    have qm:y.2∣(m:Int):=by
      have zh:Nat.Coprime y.2.natAbs (n:Int).natAbs:=by rw[hb];exact UL row.pr d _
      refine Rs.tM zh ?_;rw[ay,<-aI];exact Op.2.2.2.1
    unfold top at t;rw[bB (aD (aD qm)),Int.zero_ediv] at t;lia
theorem DX (m:Nat)(f g:ř):fF m (fun x=>f x+g x)=fun x=>fF m f x+fF m g x:=funext fun x=>by
 unfold fF;split<;>simp
theorem Rc {n:Int}(hp:Parts n ps){x:Int×Int}(hx:x∈ps):zbn x.1:=(hp.row x hx).pr
theorem TU {m:Nat}(hm:0<m){l':ĺ}(h:pY n ps l)(h':pY (m*n) Oo l'){f:ř}(hf:zbl n f)(k:Int):R (m*n) l' (fF m f) k=fF m (R n l f) k:=by
 have N1:=h'.n1;have gone:=Ec (n:=n) (N:=m*n) (l':=l') (P:=fun p=>p∈ps.map ű) (fF m) (DX m) (fun x=>by unfold fF;split<;>rfl) (fun g p hg hP hi k=>by
  obtain⟨x,hx,ex⟩:=ţ.mp hP;have pr:=(Rc h.hp hx);rw[ex] at pr;have pd:p∣(n:Int):=by rw[<-ex];exact((zeb h.hp x).mp hx).2.1
  obtain⟨y,hy,ey⟩:=Pt.uo pr Oo h'.hp.row (by rw[h'.hp.prd,Int.natCast_mul];exact Int.dvd_mul_of_dvd_right pd);refine h'.kill hy ?_ k;rw[ey];exact Qy hm (by have:=pr.1;lia) pd hi) (l:=l) (fun z hz=>h.pc hz) (fun z hz=>by rw[<-h.map];exact dU.mpr ⟨z.1,dU.mpr ⟨z,hz,Z⟩,Z⟩) hf k
 have fix:R (m*n) l' (fF m (R n l f))=fF m (R n l f):=JZ (fun z hz=>h'.pc hz) fun z hz x t=>by
  unfold fF
  by_cases c:x%m=0
  .rw[aA c];obtain⟨k,rfl⟩:=ò c;rw[aC _ O];obtain⟨y,hy,ty⟩:=NJ hm h.n1 h.hp h'.hp (y:=z.1) (by rw[<-h'.map];exact ţ.mpr ⟨z,hz,Z⟩) (h'.le z hz) t;rw[<-h.map] at hy;obtain⟨z',hz',ez⟩:=ţ.mp hy;subst ez;exact h.drop hz' f k (ty _ (h.le z' hz'))
  .rw[ah c]
 have e:fF m f=fun x=>fF m (fun y=>f y-R n l f y) x+fF m (R n l f) x:=by
  rw[<-DX];congr 1;funext y;lia
 rw[e,uF,gone,eI,fix]
variable {n:Nat}{ps:ľ}{l:ĺ}{f g:ř}
theorem Jh (hp:Parts n ps){x:Int×Int}(hx:x∈ps){u u':Int}(hu:((n:Int)/x.2*u-1)%x.2=0)(IN:((n:Int)/x.2*u'-1)%x.2=0)(k:Int):top x.1 x.2 u k=top x.1 x.2 u' k:=by
 obtain⟨_,_,_,_,q2,_⟩:=zen hp hx;have a:=zem (n:=(n:Int)) (q:=x.2) (hole:=k) (u:=u) O hu;have b:=zem (n:=(n:Int)) (q:=x.2) (hole:=k) (u:=u') O IN;unfold top;rw[Rs.yc (Rs.vq hp hx) a b zol]
theorem LV {n:Nat}{ps:ľ}(hp:Parts n ps):∀{l l':ĺ},l.map ű=l'.map ű->(∀z∈l,z.1∈ps)->(∀z∈l,((n:Int)/z.1.2*z.2-1)%z.1.2=0)->(∀z∈l',((n:Int)/z.1.2*z.2-1)%z.1.2=0)->∀f,R n l f=R n l' f
 | [],[],_,_,_,_,f=>rfl
 | [],_::_,e,_,_,_,f=>by simp at e
 | _::_,[],e,_,_,_,f=>by simp at e
 | z::l,z'::l',e,hm,h,h',f=>by
  rw[eD,eD,List.cons.injEq] at e;obtain⟨e1,e2⟩:=e;simp only[R];have ee:E n z.1.1 z.1.2 z.2 f=E n z'.1.1 z'.1.2 z'.2 f:=funext fun k=>by
   have a:=h z av;have b:=h' z' av;rw[<-e1] at b ⊢;unfold E dl;rw[Jh hp (hm z av) a b]
  rw[ee];exact LV hp e2 (fun y hy=>hm y (aq _ hy)) (fun y hy=>h y (aq _ hy)) (fun y hy=>h' y (aq _ hy)) _
theorem pY.one {Oo:ľ}{l':ĺ}(h:pY n ps l)(h':pY n Oo l')(f:ř):R n l f=R n l' f:=by
 have e:=Pt.se h'.hp h.hp;subst e;exact LV h.hp (h.map.trans h'.map.symm) (fun z hz=>by rw[<-h.map];exact dU.mpr ⟨z,hz,Z⟩) h.le h'.le f
theorem pY.again (h:pY n ps l)(f:ř):R n l (R n l f)=R n l f:=JZ (fun z hz=>h.pc hz) fun z hz k t=>h.drop hz f k t
theorem pY.PQ (h:pY n ps l) (Φ:(Int->Int)->Int->Int)(add:∀f g,Φ (fun x=>f x+g x)=fun x=>Φ f x+Φ g x)(zero:∀x,Φ (fun _=>0) x=0)(inv:∀(f:ř)(p:Int),p∣(n:Int)->zbl n f->Inv n p f->Inv n p (Φ f))(hf:zbl n f) :
  R n l (Φ f)=R n l (Φ (R n l f)):=funext fun k=>by
 have gone:=Ec (n:=n) (N:=n) (l':=l) (P:=fun p=>p∈ps.map ű) Φ add zero (fun g p hg hP hi k=>by
  obtain⟨x,hx,ex⟩:=ţ.mp hP;have pd:p∣(n:Int):=by rw[<-ex];exact((zeb h.hp x).mp hx).2.1
  refine h.kill hx ?_ k;rw[ex];exact inv g p pd hg hi) (l:=l) (fun z hz=>h.pc hz) (fun z hz=>by rw[<-h.map];exact dU.mpr ⟨z.1,dU.mpr ⟨z,hz,Z⟩,Z⟩) hf k
 have e:Φ f=fun x=>Φ (fun y=>f y-R n l f y) x+Φ (R n l f) x:=by
  rw[<-add];congr 1;funext y;lia
 rw[e,uF,gone,eI]
theorem pY.turn (h:pY n ps l)(hf:zbl n f)(AV:Int):R n l (fun x=>f (x-AV))=R n l (fun x=>R n l f (x-AV)) :=
 h.PQ (fun g x=>g (x-AV)) (fun _ _=>Z) (fun _=>Z) (fun g p _ _ hi k t=>by
  show g (k+t*((n:Int)/p)-AV)=g (k-AV)
  rw[show k+t*((n:Int)/p)-AV=k-AV+t*((n:Int)/p) by lia,hi]) hf
def cv (n:Nat)(f g:ř)(x:Int):Int:=zag n fun j=>f j*g (x-j)
theorem xX (hn:0<n)(hf:zbl n f)(hg:zbl n g)(x:Int):cv n f g x=cv n g f x:=by
 unfold cv;have p:zbl n fun j=>f j*g (x-j):=Ld.A9 hf (Ld.wH hg x);rw[<-Ld.Je hn p x];refine zbc fun j _=>?_;show f (x-j)*g (x-(x-j))=_
 rw[show x-(x-(j:Int))=j by lia,ay]
theorem Jv {p:Int}(hi:Inv n p g):Inv n p (cv n f g):=fun k t=>by
 unfold cv;refine zbc fun j _=>?_;rw[show k+t*((n:Int)/p)-j=k-j+t*((n:Int)/p) by lia,hi]
theorem NA (hn:0<n){p:Int}(hf:zbl n f)(hg:zbl n g)(hi:Inv n p f):Inv n p (cv n f g):=fun k t=>by
 rw[xX hn hf hg,xX hn hf hg];exact Jv hi k t
theorem pY.conv (h:pY n ps l)(hf:zbl n f)(hg:zbl n g):R n l (cv n f g)=R n l (cv n (R n l f) (R n l g)):=by
 have n1:=h.n1;have a:=h.PQ (fun f'=>cv n f' g) (fun f1 f2=>funext fun x=>by unfold cv;rw[<-zca];exact zbc fun j _=>by rw[Int.add_mul]) (fun x=>by unfold cv;rw[zbc (G:=fun _=>0) fun j _=>by rw[Int.zero_mul],zdh])
  (fun f' p _ Vn hi=>NA n1 Vn hg hi) hf
 have b:=h.PQ (fun g'=>cv n (R n l f) g') (fun f1 f2=>funext fun x=>by unfold cv;rw[<-zca];exact zbc fun j _=>by rw[Int.mul_add]) (fun x=>by unfold cv;rw[zbc (G:=fun _=>0) fun j _=>by rw[Ė],zdh])
  (fun g' p _ _ hi=>Jv hi) hg
 rw[a,b]
theorem Qm {n:Nat}:∀{l:ĺ}{B:Nat}{f:ř},(∀k,(f k).natAbs<=B)->∀k,(R n l f k).natAbs<=2^l.length*B
 | [],B,f,h,k=>by simp only[R,List.length_nil,Nat.pow_zero,Nat.one_mul];exact h k
 | z::l,B,f,h,k=>by
  simp only[R,į];have:=Qm (n:=n) (l:=l) (B:=2*B) (f:=E n z.1.1 z.1.2 z.2 f) (fun k=>by
   unfold E;have a:=h k;have b:=h (dl n z.1.1 z.1.2 z.2 k);omega) k
  rw[dX,iu];exact this
theorem pY.bd {n:Nat}{ps:ľ}{l:ĺ}(h:pY n ps l)(n2:n<=420){a b:ń}{B:Nat}(ha:zbz (2^B) a)(bv:∀x,zaw b x=R n l (zaw a) x):zbz (2^(8+B)) b:=Ld.Gn fun k _=>by
 rw[bv];refine aS (Qm (fun k=>zev ha k) k) ?_;rw[fO];refine b9 _ (bR L ?_);have:=ux h.hp n2;rw[<-h.map,aa] at this;exact this
theorem MI {n:Nat}{ps:ľ}(hp:Parts n ps){x:Int×Int}(hx:x∈ps):∃v:Int,1<=v/\v<x.2/\v*((n:Int)/x.2)%x.2=1:=by
 obtain⟨_,_,_,_,q2,_⟩:=zen hp hx;have g:=Rs.BR hp hx;have eq:((x.2.toNat:Nat):Int)=x.2:=cR O;obtain⟨v,hv⟩:=Ld.P6 (st:=(n:Int)/x.2) (n:=x.2.toNat) O (by rw[eq];exact g);rw[eq] at hv;have one:(1:Int)%x.2=1:=aT L O;rw[one] at hv;have h0:=aH v (show x.2≠0 by lia);have h1:=aF v (show 0<x.2 by lia);have e:(v%x.2)*((n:Int)/x.2)%x.2=1:=by
  rw[<-hv,ay ((n:Int)/x.2) v,eT,aX _ (cq _),<-eT]
 refine⟨v%x.2,?_,h1,e⟩;rcases ū (v%x.2) 1 with z | z
 .have:v%x.2=0:=O;rw[this,aZ,fE] at e;lia
 .exact z
theorem NG {n q u:Int}(hq:2<=q)(h:u*(n/q)%q=1):(n/q*u-1)%q=0:=by
 have one:(1:Int)%q=1:=aT L O;exact aK.mp (by rw[ay,h,one])
variable {ps:ľ}{l:ĺ}{f:ř}
def low (p q u k:Int):Int:=(k*u%q)%(q/p)
def fw (p q u j k:Int):Int:=if low p q u j=low p q u k then (if top p q u k=top p q u j then 1 else if top p q u k=p-1 then -1 else 0) else 0
def V:ĺ->Int->Int->Int
 | [],_,_=>1
 | z::l,j,k=>fw z.1.1 z.1.2 z.2 j k*V l j k
theorem EO:∀(l:ĺ)(z:(Int×Int)×Int)(j k:Int),V (l++[z]) j k=V l j k*fw z.1.1 z.1.2 z.2 j k
 | [],z,j,k=>by simp[V]
 | y::l,z,j,k=>by
  show fw y.1.1 y.1.2 y.2 j k*V (l++[z]) j k=fw y.1.1 y.1.2 y.2 j k*V l j k*fw z.1.1 z.1.2 z.2 j k
  rw[EO l z,aE]
theorem J6 (p q u j k:Int):fw p q u j k=0\/fw p q u j k=1\/fw p q u j k=-1:=by
 unfold fw;split
 .split
  .exact .inr (.inl Z)
  .split
   .exact .inr (.inr Z)
   .exact .inl Z
 .exact .inl Z
theorem xF:∀(l:ĺ)(j k:Int),V l j k=0\/V l j k=1\/V l j k=-1
 | [],_,_=>.inr (.inl Z)
 | z::l,j,k=>by
  have a:=J6 z.1.1 z.1.2 z.2 j k;have b:=xF l j k;show fw z.1.1 z.1.2 z.2 j k*V l j k=0\/fw z.1.1 z.1.2 z.2 j k*V l j k=1\/fw z.1.1 z.1.2 z.2 j k*V l j k=-1
  rcases a with a | a | a<;>rcases b with b | b | b<;>rw[a,b]<;>decide
section
variable {n:Nat}{p q u:Int}
theorem Pc.sr (h:Pc n p q u)(k:Int):k*u%q=low p q u k+(q/p)*top p q u k:=by
 unfold low top;exact(Int.emod_add_mul_ediv _ _).symm
theorem Pc.KI (h:Pc n p q u)(k t:Int):low p q u (k+t*((n:Int)/p))=low p q u k:=by
 obtain⟨m,em,Ck,m1⟩:=h.m;unfold low;rw[h.step,Ck];have d:m∣q:=⟨p,by rw[em,ay]⟩;rw[aX _ d,aX _ d,ga]
theorem Pc.LB (h:Pc n p q u)(k:Int):low p q u (dl n p q u k)=low p q u k:=h.KI k _
theorem Pc.Ft (h:Pc n p q u)(j k:Int):(j*u%q=k*u%q)↔(low p q u j=low p q u k/\top p q u j=top p q u k):=by
 constructor
 .intro e;unfold low top;rw[e];exact⟨rfl,rfl⟩
 .rintro⟨a,b⟩;rw[h.sr,h.sr,a,b]
theorem Pc.Bl (h:Pc n p q u)(j k:Int):(j*u%q=k*u%q)↔q∣k-j:=by
 obtain⟨c,e,e1,e2⟩:=h.cof;have d:q∣c*u-1:=by have:=aY h.le;rwa [e1] at this
 constructor
 .intro z;have z1:q∣k*u-j*u:=aY (aK.mp z.symm);have z2:q∣(k-j)*(c*u):=by
   rw[show (k-j)*(c*u)=(k*u-j*u)*c by rw[<-cZ,aE,ay c u]];exact aD z1
  have z3:q∣(k-j)*(c*u-1):=ax d;have:k-j=(k-j)*(c*u)-(k-j)*(c*u-1):=by rw[cL,bX];lia
  rw[this];exact bE z2 z3
 .intro z;refine(aK.mpr (bB ?_)).symm;rw[<-cZ];exact aD z
theorem Pc.Pb (h:Pc n p q u){j:Int}(t:¬top p q u j=p-1)(k:Int):fw p q u j k=(if q∣k-j then 1 else 0)-(if q∣k-dl n p q u j then 1 else 0):=by
 have a:(q∣k-j)↔(low p q u j=low p q u k/\top p q u j=top p q u k):=(h.Bl j k).symm.trans (h.Ft j k);have b:(q∣k-dl n p q u j)↔(low p q u j=low p q u k/\p-1=top p q u k):=by
  have:=(h.Bl (dl n p q u j) k).symm.trans (h.Ft (dl n p q u j) k);rwa [h.LB,h.yt] at this
 unfold fw
 by_cases l:low p q u j=low p q u k
 .rw[aA l]
  by_cases e:top p q u k=top p q u j
  .rw[aA e,aA (a.mpr ⟨l,e.symm⟩),ah (fun z=>t (by rw[<-e];exact(b.mp z).2.symm))];rfl
  .rw[ah e,ah (fun z=>e (a.mp z).2.symm)]
   by_cases g:top p q u k=p-1
   .rw[aA g,aA (b.mpr ⟨l,g.symm⟩)];rfl
   .rw[ah g,ah (fun z=>g (b.mp z).2.symm)];rfl
 .rw[ah l,ah (fun z=>l (a.mp z).1),ah (fun z=>l (b.mp z).1)];rfl
theorem Jw {p':Int}(d:q∣(n:Int)/p')(k t:Int):(k+t*((n:Int)/p'))*u%q=k*u%q:=by
 obtain⟨c,e⟩:=d;rw[e,fQ,show t*(q*c)*u=q*(t*c*u) by rw[<-aE t q c,ay t q,aE,aE,aE],cV]
theorem Ii {p':Int}(d:q∣(n:Int)/p')(k t:Int):low p q u (k+t*((n:Int)/p'))=low p q u k:=by unfold low;rw[Jw d]
theorem Kt {p':Int}(d:q∣(n:Int)/p')(j t k:Int):fw p q u (j+t*((n:Int)/p')) k=fw p q u j k:=by unfold fw;rw[Ii d,uj d]
end
theorem Gp {n:Nat}{p':Int}:∀{l:ĺ},(∀z∈l,z.1.2∣(n:Int)/p')->∀j t k:Int,V l (j+t*((n:Int)/p')) k=V l j k
 | [],_,_,_,_=>rfl
 | z::l,h,j,t,k=>by
  show fw z.1.1 z.1.2 z.2 (j+t*((n:Int)/p')) k*V l (j+t*((n:Int)/p')) k=fw z.1.1 z.1.2 z.2 j k*V l j k
  rw[Kt (h z av),Gp (fun y hy=>h y (aq _ hy))]
def X:ĺ->Int->Int->Int
 | [],_,_=>1
 | z::l,j,k=>(if z.1.2∣k-j then 1 else 0)*X l j k
theorem OO:∀(l:ĺ)(j k:Int),X l j k=if (∀z∈l,z.1.2∣k-j) then 1 else 0
 | [],j,k=>by simp[X]
 | z::l,j,k=>by
  show (if z.1.2∣k-j then 1 else 0)*X l j k=_
  rw[OO l]
  by_cases a:z.1.2∣k-j
  .by_cases b:∀z∈l,z.1.2∣k-j
   .rw[aA a,aA b,aA (fun y hy=>by rcases ũ.mp hy with e | e;rw[e];exact a;exact b y e)];rfl
   .rw[aA a,ah b,ah (fun y=>b fun x hx=>y x (aq _ hx))];rfl
  .rw[ah a,aZ,ah (show ¬∀y∈z::l,y.1.2∣k-j from fun y=>a (y z av))]
theorem Gy {n:Nat}{p':Int}:∀{l:ĺ},(∀z∈l,z.1.2∣(n:Int)/p')->∀j t k:Int,X l (j+t*((n:Int)/p')) k=X l j k
 | [],_,_,_,_=>rfl
 | z::l,h,j,t,k=>by
  show (if z.1.2∣k-(j+t*((n:Int)/p')) then 1 else 0)*X l (j+t*((n:Int)/p')) k=(if z.1.2∣k-j then 1 else 0)*X l j k
  rw[Gy (fun y hy=>h y (aq _ hy))];congr 1;have d:z.1.2∣t*((n:Int)/p'):=ax (h z av)
  by_cases c:z.1.2∣k-j
  .rw[aA c,aA (by rw[show k-(j+t*((n:Int)/p'))=(k-j)-t*((n:Int)/p') by lia];exact bE c d)]
  .rw[ah c,ah (fun z=>c (by rw[show k-j=(k-(j+t*((n:Int)/p')))+t*((n:Int)/p') by lia];exact bY z d))]
theorem pY.dv {n:Nat}(h:pY n ps l){j k:Int}(d:∀z∈l,z.1.2∣k-j):(n:Int)∣k-j:=by
 have:=Rs.GH (t:=k-j) h.hp.row h.hp.srt (fun x hx=>by
  rw[<-h.map] at hx;obtain⟨z,hz,e⟩:=ţ.mp hx;rw[<-e];exact d z hz)
 rwa [h.hp.prd] at this
theorem pY.Xn {n:Nat}(h:pY n ps l)(j k:Int):X l j k=if (n:Int)∣k-j then 1 else 0:=by
 rw[OO]
 by_cases c:(n:Int)∣k-j
 .rw[aA c,aA (fun z hz=>bu (h.pc hz).qn c)]
 .rw[ah c,ah (fun d=>c (h.dv d))]
theorem SM {n:Nat}(hn:1<=n)(hf:zbl n f)(j:Int):zag n (fun k=>f k*(if (n:Int)∣k-j then 1 else 0))=f j:=by
 have j0:=aH j (show (n:Int)≠0 by lia);have j1:=aF j (show 0<(n:Int) by lia);have e:zag n (fun k=>f k*(if (n:Int)∣k-j then 1 else 0))=zag n (fun k=>if k=j%n then f k else 0):=zbc fun k hk=>by
  by_cases c:((k:Nat):Int)=j%n
  .rw[aA c,aA (by rw[c];exact aY (by rw[dr,aX _ (cq _),cG];rfl)),bX]
  .rw[ah c,ah,bi];intro z;refine c ?_;have:=aK.mpr (bB z);rwa [aT O O] at this
 rw[e,Ld.vn j0,aA j1,hf.md]
theorem pY.WA {n:Nat}(h:pY n ps l){i j:Nat}{y z:(Int×Int)×Int}(ne:i≠j)(ei:l[i]?=some y)(ej:l[j]?=some z):y.1.2∣(n:Int)/z.1.1:=by
 have pw:=dO.mp h.nd;obtain⟨hi,ei'⟩:=List.getElem?_eq_some_iff.mp ei;obtain⟨hj,ej'⟩:=List.getElem?_eq_some_iff.mp ej;have my:y.1∈ps:=by rw[<-h.map];exact dU.mpr ⟨y,ao ei,Z⟩
 have mz:z.1∈ps:=by rw[<-h.map];exact dU.mpr ⟨z,ao ej,Z⟩
 refine El h.hp my mz ?_;rcases ů i j with g | g
 .have:=pw i j hi hj g;rwa [ei',ej'] at this
 .have:=pw j i hj hi O;rw[ei',ej'] at this;exact fun e=>this e.symm
theorem pY.UC {n:Nat}(h:pY n ps l)(hf:zbl n f):∀i:Nat,i<=l.length->∀j:Int,(∀z∈l.take i,¬top z.1.1 z.1.2 z.2 j=z.1.1-1)->R n (l.take i) f j=zag n (fun k=>f k*(V (l.take i) j k*X (l.drop i) j k)):=by
 intro i
 induction i with
 | zero =>
  intro _ j _;rw[jt,List.drop_zero];show f j=_
  rw[<-SM h.n1 hf j];refine zbc fun k _=>?_;show _=f k*(1*X l j k)
  rw[h.Xn,cY]
 | succ i ih =>
  intro il j hj;have ei:l[i]?=some l[i]:=az O;have et:l.take (i+1)=l.take i++[l[i]]:=zcg ei;have ed:l.drop i=l[i]::l.drop (i+1):=jw O;have pc:=h.pc (cJ (by lia:i<l.length));have tz:¬top l[i].1.1 l[i].1.2 l[i].2 j=l[i].1.1-1:=hj _ (by rw[et];exact bP _ lB);have ca:∀y∈l.take i,y.1.2∣(n:Int)/l[i].1.1:=fun y hy=>by
   obtain⟨a,ha,ea⟩:=ø.mp hy;rw[cT] at ha;rw[iZ] at ea;exact h.WA (i:=a) (j:=i) O (by rw[<-ea];exact az O) ei
  have cb:∀y∈l.drop (i+1),y.1.2∣(n:Int)/l[i].1.1:=fun y hy=>by
   obtain⟨a,ha,ea⟩:=ø.mp hy;rw[cH] at ha;rw[List.getElem_drop] at ea;exact h.WA (i:=i+1+a) (j:=i) O (by rw[<-ea];exact az O) ei
  have WO:∀z∈l.take i,¬top z.1.1 z.1.2 z.2 j=z.1.1-1:=fun z hz=>hj z (by rw[et];exact cX _ hz);generalize l[i]=z at *;have e1:=ih O j WO;have e2:=ih O (dl n z.1.1 z.1.2 z.2 j) fun y hy=>by unfold dl;rw[uj (ca y hy)];exact WO y hy
  rw[et,Ek];show R n (l.take i) f j-R n (l.take i) f (dl n z.1.1 z.1.2 z.2 j)=_
  rw[e1,e2,ed];have key:∀k:Int,f k*(V (l.take i) j k*X (z::l.drop (i+1)) j k)=f k*(V (l.take i++[z]) j k*X (l.drop (i+1)) j k)+f k*(V (l.take i) (dl n z.1.1 z.1.2 z.2 j) k*X (z::l.drop (i+1)) (dl n z.1.1 z.1.2 z.2 j) k):=fun k=>by
   rw[EO,pc.Pb tz];show f k*(V (l.take i) j k*((if z.1.2∣k-j then 1 else 0)*X (l.drop (i+1)) j k))=_+f k*(V (l.take i) (dl n z.1.1 z.1.2 z.2 j) k*((if z.1.2∣k-dl n z.1.1 z.1.2 z.2 j then 1 else 0)*X (l.drop (i+1)) (dl n z.1.1 z.1.2 z.2 j) k))
   have x1:X (l.drop (i+1)) (dl n z.1.1 z.1.2 z.2 j) k=X (l.drop (i+1)) j k:=by unfold dl;exact Gy cb _ _ _
   have x2:V (l.take i) (dl n z.1.1 z.1.2 z.2 j) k=V (l.take i) j k:=by unfold dl;exact Gp ca _ _ _
   rw[x1,x2,<-gi];congr 1;rw[aE,<-gi,<-fQ];congr 2;lia
  have s:=zbc (n:=n) (F:=fun k=>f k*(V (l.take i) j k*X (z::l.drop (i+1)) j k)) (G:=fun k=>f k*(V (l.take i++[z]) j k*X (l.drop (i+1)) j k)+f k*(V (l.take i) (dl n z.1.1 z.1.2 z.2 j) k*X (z::l.drop (i+1)) (dl n z.1.1 z.1.2 z.2 j) k)) (fun k _=>key k);rw[zca] at s;lia
theorem pY.wsum {n:Nat}(h:pY n ps l)(hf:zbl n f){j:Int}(hj:∀z∈l,¬top z.1.1 z.1.2 z.2 j=z.1.1-1):R n l f j=zag n (fun k=>f k*V l j k):=by
 have:=h.UC hf l.length (aG _) j (by rw[b5];exact hj);rw[b5,kP] at this;rw[this];exact zbc fun k _=>by show f k*(V l j k*1)=_;rw[bX]
variable {ps:ľ}
section
variable {n:Nat}{p q u:Int}
theorem Pc.UT (h:Pc n p q u)(k:Int):0<=k*u%q/\k*u%q<q:=⟨aH _ (by have:=h.q2;lia),aF _ (by have:=h.q2;lia)⟩
theorem Pc.ND (h:Pc n p q u)(j:Int):q-q/p+(j*u%q)%(q/p)=dl n p q u j*u%q:=by
 obtain⟨m,em,Ck,m1⟩:=h.m;rw[h.sr (dl n p q u j),h.LB,h.yt];show q-q/p+low p q u j=low p q u j+q/p*(p-1)
 rw[Ck,cL,bX];have:m*p=q:=by rw[em,ay]
 lia
theorem Pc.Q9 (h:Pc n p q u){j:Int}(t:¬top p q u j=p-1)(k:Int):(if k*u%q=q-q/p+(j*u%q)%(q/p) then (-1:Int) else if k*u%q=j*u%q then 1 else 0)=fw p q u j k:=by
 rw[h.ND,h.Pb t];have a:=h.Bl j k;have b:=h.Bl (dl n p q u j) k;have ab:¬(q∣k-j/\q∣k-dl n p q u j):=fun z=>t (by
  have e1:=((h.Ft j k).mp (a.mpr z.1)).2;have e2:=((h.Ft (dl n p q u j) k).mp (b.mpr z.2)).2;rw[h.yt] at e2;rw[e1,e2])
 by_cases c:q∣k-dl n p q u j
 .rw[aA (b.mpr c).symm,aA c,ah (fun z=>ab ⟨z,c⟩)];rfl
 .rw[ah (fun z=>c (b.mp z.symm)),ah c]
  by_cases d:q∣k-j
  .rw[aA (a.mpr d).symm,aA d];rfl
  .rw[ah (fun z=>d (a.mp z.symm)),ah d];rfl
end
theorem pY.ex {n:Nat}(hn:1<=n)(hp:Parts n ps):∃l,pY n ps l:=by
 have key:∀qs:ľ,(∀x∈qs,x∈ps)->∃l:ĺ,l.map ű=qs/\∀z∈l,((n:Int)/z.1.2*z.2-1)%z.1.2=0:=by
  intro qs
  induction qs with
  | nil=>intro _;exact⟨[],Z,lB⟩
  | cons x r ih =>
   intro h;obtain⟨l,e,hl⟩:=ih fun y hy=>h y (ÿ _ hy);have hx:=h x av;obtain⟨v,v1,v2,hv⟩:=MI hp hx;obtain⟨_,_,_,_,q2,_⟩:=zen hp hx;refine⟨(x,v)::l,by rw[eD,e],fun z hz=>?_⟩;rcases ũ.mp hz with w | w
   .rw[w];exact NG q2 hv
   .exact hl z w
 obtain⟨l,e,hl⟩:=key ps fun _ h=>h;exact⟨l,hn,hp,e,hl⟩
def Kp (l:ĺ)(k:Int):Prop:=∀z∈l,¬top z.1.1 z.1.2 z.2 k=z.1.1-1
instance (l:ĺ)(k:Int):Decidable (Kp l k):=by unfold Kp;infer_instance
def hs (n:Nat):ń:=(ŭ n).map fun (i:Nat)=>(i:Int)
theorem D3 (n:Nat):(hs n).length=n:=by simp[hs]
theorem yP {n:Nat}{k:Int}:k∈hs n↔0<=k/\k<n:=by
 unfold hs;constructor
 .intro h;obtain⟨i,hi,e⟩:=ţ.mp h;have:=fj.mp hi;lia
 .intro h;exact dU.mpr ⟨k.toNat,fj.mpr O,O⟩
def qG (n:Nat)(l:ĺ):ń:=(hs n).filter fun k=>decide (Kp l k)
theorem xZ {n:Nat}{l:ĺ}{k:Int}:k∈qG n l↔(0<=k/\k<n)/\Kp l k:=by
 unfold qG;rw[je,yP,gL]
theorem vW (n:Nat)(l:ĺ):(qG n l).length<=n:=aS (jU _ _) (jE (D3 n))
theorem M6 {n:Nat}(hp:Parts n ps){x:Int×Int}(hx:x∈ps){u v:Int}(hu:((n:Int)/x.2*u-1)%x.2=0)(hv:((n:Int)/x.2*v-1)%x.2=0)(k:Int):k*u%x.2=k*v%x.2:=by
 obtain⟨_,_,_,_,q2,_⟩:=zen hp hx;exact Rs.yc (Rs.vq hp hx) (zem O hu) (zem O hv) zol
theorem O0 (F:ř)(a:Nat):∀b:Nat,zag (a+b) F=zag a F+zag b (fun i=>F (a+i))
 | 0=>by show zag a F=zag a F+0;lia
 | b+1=>by
  show zag (a+b) F+F ((a+b:Nat):Int)=zag a F+(zag b (fun i=>F (a+i))+F (a+b))
  rw[O0 F a b,gI];lia
theorem LL {st:Nat}(uX:0<st){s:Int}(s0:0<=s)(s1:s<st)(G:ř):∀p:Nat,zag (p*st) (fun k=>if (k-s)%st=0 then G k else 0)=zag p (fun t=>G (s+t*st))
 | 0=>by rw[Ĕ];rfl
 | p+1=>by
  rw[fv,O0,LL uX s0 s1 G p];show _=zag p (fun t=>G (s+t*st))+G (s+p*st)
  congr 1;have e:zag st (fun i=>if (((p*st:Nat):Int)+i-s)%st=0 then G (((p*st:Nat):Int)+i) else 0)=zag st (fun i=>if i=s then G (((p*st:Nat):Int)+i) else 0):=zbc fun i hi=>by
   have em:(((p*st:Nat):Int)+(i:Int)-s)%st=((i:Int)-s)%st:=by
    rw[aI,show (p:Int)*st+i-s=(i-s)+st*p by rw[ay];lia,cV]
   rw[em]
   by_cases c:(i:Int)=s
   .rw[aA c,aA (by rw[c,cG];rfl)]
   .rw[ah c,ah];intro z;obtain⟨d,hd⟩:=ò z;have d0:d=0:=by
     rcases İ d 0 with g | g | g
     .have:=aB (show d<=-1 by lia) (show 0<=(st:Int) by lia);lia
     .exact g
     .have:=aB (show 1<=d by lia) (show 0<=(st:Int) by lia);lia
    rw[d0,bi] at hd;lia
  rw[e,Ld.vn (G:=fun i=>G (((p*st:Nat):Int)+i)) s0,aA s1,aI,iW]
theorem pY.Ul {n:Nat}{ps:ľ}{l:ĺ}(h:pY n ps l){j:Int}(hj:Kp l j){p st:Nat}(hp:((p:Nat):Int)∈ps.map ű)(uX:0<st)(e:n=p*st){s:Int}(s0:0<=s)(s1:s<st):zag p (fun t=>V l j (s+t*st))=0:=by
 rw[<-LL uX s0 s1 (V l j) p,<-e];have n1:=h.n1;have p0:0<p:=by rcases õ p with z | z;(rw[z,Ĕ] at e;lia);exact z
 have AX:(n:Int)/p=st:=by rw[e,aI];exact aC _ O
 have per:zbl n (zcr n ((p:Int),s,1)):=fun x y exy=>by
  unfold zcr;show (if (x-s)%((n:Int)/p)=0 then (1:Int) else 0)=if (y-s)%((n:Int)/p)=0 then 1 else 0
  rw[AX];have d:(st:Int)∣n:=⟨p,by rw[e,aI,ay]⟩;have:x%st=y%st:=by rw[<-aX x d,exy,aX y d]
  rw[dr,this,<-dr]
 have k:=h.wP (è:=[((p:Int),s,1)]) (fun t ht=>by rw[cm.mp ht];exact hp) j;have er:zdd n [((p:Int),s,1)]=zcr n ((p:Int),s,1):=funext fun x=>by unfold zdd;simp
 rw[er,h.wsum per hj] at k;refine Eq.trans (zbc (G:=fun k=>zcr n ((p:Int),s,1) k*V l j k) fun i _=>?_) k;unfold zcr;show _=(if ((i:Int)-s)%((n:Int)/p)=0 then (1:Int) else 0)*V l j i
 rw[AX]
 by_cases c:((i:Int)-s)%st=0
 .rw[aA c,aA c,cY]
 .rw[ah c,ah c,aZ]
theorem Tz (n:Nat)(p q u:Int)(f:ř)(m k:Int):E n p q u (fun x=>f x*m) k=E n p q u f k*m:=by unfold E;dsimp only;rw[Int.sub_mul]
theorem FF (n:Nat)(m:Int):∀(l:ĺ)(f:ř)(k:Int),R n l (fun x=>f x*m) k=R n l f k*m
 | [],f,k=>rfl
 | z::l,f,k=>by
  simp only[R];have:E n z.1.1 z.1.2 z.2 (fun x=>f x*m)=fun x=>E n z.1.1 z.1.2 z.2 f x*m:=funext fun x=>Tz n _ _ _ f m x;rw[this,FF n m l]
def Zn (n:Nat)(l:ĺ)(f:ř):Prop:=∀x,R n l f x=0
end Rt
open Rt renaming qG→zct, cv→zcu, R→zep, yR→zet, pY→zeu, Kp→zfc
namespace Rx
open Lt
open Mx
def Uj {s a b W:Int}(h1:s∣a*W)(h2:s∣b*W):s∣zdk a b*W:=by
 have h:=jj h1 h2;rw[Int.gcd_mul_right,aI] at h;unfold zdk;rcases Int.natAbs_eq W with e | e
 .rw[e];exact h
 .rw[e,gh];exact(dZ).mpr h
structure Gc (é:ĸ)(i:Nat)(c:Int):Prop where
 nn:0<=c
 dv:∀j,j<i->c∣g (é.getD j []) 0
 of:∀s W:Int,(∀j,j<i->s∣g (é.getD j []) 0*W)->s∣c*W
def Gc.start (é:ĸ):Gc é 0 0:=⟨eL 0,fun j hj=>by lia,fun s W _=>by rw[aZ];exact bx s⟩
def Gc.step {é:ĸ}{i:Nat}{c:Int}(h:Gc é i c):Gc é (i+1) (zdk c (g (é.getD i []) 0)):=by
 refine⟨Eh.CA ..,fun j hj=>?_,fun s W hs=>?_⟩
 .rcases ť.mp hj with z | z
  .exact bu (kQ ..) (h.dv j z)
  .rw[z];exact ku ..
 .exact Uj (h.of s W fun j hj=>hs j O) (hs i O)
end Rx
namespace Rs
def QO {a b d:Int}(h:zdk a b=1)(d1:1<=d)(da:d∣a)(db:d∣b):d=1:=by
 have e:=jj da db;unfold zdk at h;rw[h] at e;have:=aW L e;lia
end Rs
namespace Ct
variable {n:Nat}{l:ĺ}{a W:ń}{bs:ĸ}{ps:ľ}
open Rt
open Lt
def kr (n:Nat)(l:ĺ)(a:ń):ń:=(qG n l).map fun h=>R n l (zaw a) h
def rL:(kr n l a).length=(qG n l).length:=aa ..
def J9 {c:Nat}(hc:c<(qG n l).length):g (kr n l a) c=R n l (zaw a) (g (qG n l) c) :=
 zdo (by unfold kr;rw[List.getElem?_map,zdv hc];rfl)
def Uv {c:Nat}(hc:c<(qG n l).length):(0<=g (qG n l) c/\g (qG n l) c<n)/\Kp l (g (qG n l) c):=xZ.mp (zcy hc)
def IZ (a:ń)(bs:ĸ)(cs:ń)(i:Nat):Int->Int:=fun x=>zaw a x+zag i fun j=>g cs j.toNat*zaw (bs.getD j.toNat []) x
def R_S (n:Nat)(l:ĺ)(F:ŗ)(x:Int):∀m:Nat,R n l (fun y=>zag m fun j=>F j y) x=zag m fun j=>R n l (F j) x
 | 0=>vi n l (fun _=>Z) x
 | m+1=>by
  have e:(fun y=>zag (m+1) fun j=>F j y)=fun y=>(zag m fun j=>F j y)+F m y:=funext fun y=>Z;rw[e,uF,R_S n l F x m];rfl
def TQ {cs:ń}{i:Nat}(x:Int):R n l (IZ a bs cs i) x=R n l (zaw a) x+zag i fun j=>g cs j.toNat*R n l (zaw (bs.getD j.toNat [])) x:=by
 unfold IZ;rw[uF,R_S n l (fun j y=>g cs j.toNat*zaw (bs.getD j.toNat []) y)];congr 1;refine zbc fun j _=>?_;have e:(fun y=>g cs (j:Int).toNat*zaw (bs.getD (j:Int).toNat []) y)=fun y=>zaw (bs.getD (j:Int).toNat []) y*g cs (j:Int).toNat:=funext fun y=>ay ..;rw[e,FF,ay]
def NU (h:pY n ps l)(n1:1<=n){f:ř}(hf:zbl n f)(z:∀c,c<(qG n l).length->R n l f (g (qG n l) c)=0):Zn n l f:=fun x=>by
 have per:zbl n (R n l f):=I0 (fun z hz=>h.pc hz) hf;rw[<-per.md];have x0:=aH x (show (n:Int)≠0 by lia);have x1:=aF x (show 0<(n:Int) by lia)
 by_cases k:Kp l (x%n)
 .obtain⟨c,hc,e⟩:=ų (xZ.mpr ⟨⟨x0,x1⟩,k⟩);have:=z c hc;rwa [zdo (az hc),e] at this
 .have ⟨z',hz,tz⟩:∃z∈l,top z.1.1 z.1.2 z.2 (x%n)=z.1.1-1:=bn fun no=>k fun z hz tz=>no ⟨z,hz,tz⟩;exact h.drop hz f _ tz
def way (h:pY n ps l)(n1:1<=n)(la:a.length=n)(lb:∀b∈bs,b.length=n){cs:ń}
 (hw:zes (qG n l).length (bs.map (kr n l)) (zbj (kr n l a) (-1)) cs):Zn n l (IZ a bs cs bs.length):=by
  refine NU h n1 ?_ fun c hc=>?_
  · intro x y e
    unfold IZ;rw[zcv la x y e];congr 1;refine zbc fun j hj=>?_;rw[zcv (lb _ (by rw[ae];exact zdr hj)) x y e]
  · rw[TQ]
    have e:=hw c hc;rw[aa] at e;have e2:g (zbj (kr n l a) (-1)) c=-R n l (zaw a) (g (qG n l) c):=zdo (by
      unfold zbj;rw[af,zdv (by rw[rL];exact hc),J9 hc];exact cA some (jm _))
    rw[e2] at e;have e3:(zag bs.length fun j=>g cs j.toNat*g ((bs.map (kr n l)).getD j.toNat []) c)=zag bs.length fun j=>g cs j.toNat*R n l (zaw (bs.getD j.toNat [])) (g (qG n l) c):=zbc fun j hj=>by
      rw[ae,ak,af,zdx hj,jo,i9,J9 hc]
    rw[<-e3,e];lia
def aw (n:Nat)(l:ĺ)(W:ń)(i:Nat):Int->Int:=fun k=>zag i fun c=>V l (g (qG n l) c.toNat) k*g W c.toNat
def IX (h:pY n ps l)(la:a.length=n)(lW:W.length=(qG n l).length):(zag n fun k=>zaw a k*aw n l W (qG n l).length k)=zbr (kr n l a) W:=by
 rw[Rx.p6 rL lW];have e:(zag n fun k=>zaw a k*aw n l W (qG n l).length k)=zag n fun k=>zag (qG n l).length fun c=>zaw a k*V l (g (qG n l) c.toNat) k*g W c.toNat:=zbc fun k _=>by
  unfold aw;rw[<-zbk];exact zbc fun c _=>(aE ..).symm
 rw[e,zdf];refine zbc fun c hc=>?_;rw[ae,zec,J9 hc,h.wsum (zcv la) (Uv hc).2]
def NZ (h:pY n ps l){p st:Nat}(hp:((p:Nat):Int)∈ps.map ű)(uX:0<st)(e:n=p*st){s:Int}(s0:0<=s)(s1:s<st):zag p (fun t=>aw n l W (qG n l).length (s+t*st))=0:=by
 unfold aw;rw[zdf];have z:(zag (qG n l).length fun c=>zag p fun t=>V l (g (qG n l) c.toNat) (s+t*st)*g W c.toNat)=zag (qG n l).length fun _=>0:=zbc fun c hc=>by
  rw[ae,zec,h.Ul (Uv hc).2 hp uX e s0 s1,aZ]
 rw[z,zdh]
def MW {v:ń}{w:Nat}(lv:v.length=w)(lW:W.length=w):zbr (zbj v (-1)) W=-zbr v W:=by
 have e:(fun i:Int=>-1*(g v i.toNat*g W i.toNat))=fun i:Int=>-1*(g v i.toNat*g W i.toNat):=Z;rw[Rx.p6 (by unfold zbj;rw[š];exact lv) lW,Rx.p6 lv lW,show (-zag w fun i=>g v i.toNat*g W i.toNat)=-1*zag w fun i=>g v i.toNat*g W i.toNat by lia,<-zbk];refine zbc fun i hi=>?_;rw[ae,zdo (l:=zbj v (-1)) (v:=g v i * -1) (by unfold zbj;rw[List.getElem?_map,zdv O];rfl),Int.mul_comm (g v i),ĥ]
def bar (h:pY n ps l)(la:a.length=n)(lb:∀b∈bs,b.length=n){s:Int}(lW:W.length=(qG n l).length)
 (hb:zea (bs.map (kr n l)) (zbj (kr n l a) (-1)) W s){AW:ń}(lA:AW.length=n)(ha:∀k:Nat,k<n->zaw AW k=aw n l W (qG n l).length k):(∀b∈bs,s∣zbr b AW)/\¬s∣zbr a AW:=by
  have key:∀{b:ń},b.length=n->zbr b AW=zbr (kr n l b) W:=fun {b} l'=>by
    rw[<-IX h l' lW,Rx.p6 l' lA];refine zbc fun k hk=>?_;rw[ae,<-ha k hk,<-zdt (zdv (show k<b.length by lia)),<-zdt (zdv (show k<AW.length by lia))]
  refine⟨fun b hm=>?_,fun d=>hb.2 ?_⟩
  · obtain⟨j,hj,e⟩:=ų hm
    have z:=hb.1 j (by rw[aa];exact hj);rw[ak,af,az hj,jo,i9,e] at z;rw[key (lb b hm)];exact z
  · rw[MW rL lW,<-key la]
    exact dZ.mpr d
def UF {n:Nat}{l:ĺ}{W:ń}{i M:Nat}(h:i<=60)(hb:∀c,c<i->(g W c).natAbs<2^M)(k:Int):(aw n l W i k).natAbs<2^(M+6):=by
 unfold aw;have b:=Mx.zT (k:=i) (F:=fun c=>V l (g (qG n l) c.toNat) k*g W c.toNat) (B:=((2^M:Nat):Int)) fun c hc=>by
  rw[ae,aR];have:=hb c hc;have v:(V l (g (qG n l) c) k).natAbs<=1:=by rcases xF l (g (qG n l) c) k with z | z | z<;>rw[z]<;>decide
  have:=cU v (cK this);rw[gO] at this;exact Int.ofNat_le.mpr this
 rw[<-aI] at b;have b':=Int.ofNat_le.mp b;have p:0<2^M:=Nat.two_pow_pos M;have e:2^(M+6)=2^M*64:=by rw[fO]
 have:=b9 (2^M) h;rw[e];lia
def Gk {n:Nat}{ps:ľ}{l:ĺ}(h:pY n ps l)(n2:n<=420){a:ń}{B:Nat}(ha:∀x∈a,x.natAbs<=B):∀z∈kr n l a,z.natAbs<=2^8*B:=fun z hz=>by
 unfold kr at hz;obtain⟨k,_,rfl⟩:=ţ.mp hz;refine aS (Qm (fun k=>zev (B:=B) ha k) k) (b9 _ (bR L ?_));have:=ux h.hp n2;rw[<-h.map,aa] at this;exact this
end Ct
open Ct renaming kr→zdp, IZ→zfp
namespace L2
open PySem PySem.Spec PyProof.Rows PySem.W
def US (å:Str)(a:Addr):HO:=.ext fun h=>h.CodeRec (.ref a) å
def zD (P:Addr)(pos:Pos)(å:Str)(H:Hp):Prop :=
 H P=some (.tbl #[])\/∃c:Addr,H P=some (.tbl #[rawInt pos.line,rawInt pos.col,.ref c])/\H c=some (US å c)
def Cf (P:Addr)(H H':Hp):Prop:=∀b o,b≠P->H b=some o->H' b=some o
def Cf.of {P:Addr}{H H':Hp}(h:lO H H'):Cf P H H':=fun b o _ e=>h b o e
def Cf.trans {P:Addr}{H H1 H2:Hp}(a:Cf P H H1)(b:Cf P H1 H2):Cf P H H2:=fun c o n e=>b c o n (a c o n e)
def zD.same {P:Addr}{pos:Pos}{å:Str}{H H':Hp}(l:zD P pos å H)(h:lO H H'):zD P pos å H':=by
 rcases l with l | ⟨c,l1,l2⟩
 .exact .inl (h _ _ l)
 .exact .inr ⟨c,h _ _ l1,h _ _ l2⟩
def zD.ne {P a:Addr}{pos:Pos}{å:Str}{H:Hp}{xs:ň}(l:zD P pos å H)(h:H a=some (.lst xs)):a≠P:=fun e=>by
 subst e;rcases l with l | ⟨c,l,_⟩<;>· rw[h] at l;cases l
structure zas (mg:ś)(base:Heap)(c P:Addr):Prop where
 code:CodeHd base c P
 blt:base.BuiltinsAt mg P
 ng:mainGlobals≠P
section
variable {H:Hp}{l a P:Addr}{å:Str}{pos:Pos}{e:Expr}
def zD.tab {P:Addr}{pos:Pos}{å:Str}{H:Hp}(l:zD P pos å H):∃ps,H P=some (.tbl ps):=by
 rcases l with l | ⟨_,l,_⟩
 .exact⟨_,l⟩
 .exact⟨_,l⟩
def Cf.seq {K:zfq}{P a:Addr}{H H':Hp}{xs:ň}(e:Cf P H H')(l:∃ps,H P=some (.tbl ps))(h:mj K H a xs):mj K H' a xs:=by
 obtain⟨ps,l⟩:=l;have ne:∀o,H a=some o->o≠.tbl ps->a≠P:=fun o e1 n z=>by
  subst z;rw[e1] at l;exact n (bO l)
 rcases h with (h | ⟨o,h⟩) | h
 .exact .inl (.inl (e _ _ (ne _ h (fun z=>nomatch z)) h))
 .exact .inl (.inr ⟨o,e _ _ (ne _ h (fun z=>nomatch z)) h⟩)
 .exact .inr h
end
structure Lb (K:zfq)(mg:ś)(base:Heap)(x:Str)(cc tT:Addr):Prop where
 kb:K.In base
 nb:base.Ns mainGlobals mg
 tb:tabIn K x=some (cc,tT)
 lb:zas mg base cc tT
def Cf.free {T:Addr}{H H':Hp}(e:Cf T H H')(t:∃ps,H' T=some (.tbl ps)){l:Addr}(h:H' l=none):H l=none:=by
 cases q:H l with
 | none=>rfl
 | some o =>
  have ne:l≠T:=fun z=>by obtain⟨ps,t⟩:=t;rw[<-z,h] at t;cases t
  rw[e l o ne q] at h;cases h
def Cf.lst {T:Addr}{H H':Hp}{r:Addr}{xs:ň}(e:Cf T H H')(t:∃ps,H T=some (.tbl ps))(h:H r=some (.lst xs)):H' r=some (.lst xs):=by
 obtain⟨ps,t⟩:=t;exact e _ _ (fun z=>by rw[z,t] at h;cases h) h
def Cf.same {T:Addr}{H H1 H2:Hp}(a:Cf T H H1)(b:lO H1 H2):Cf T H H2:=a.trans (.of b)
def Cf.upd {T:Addr}{H H':Hp}{r:Addr}{o:HO}(e:Cf T H H')(h:H r=none):Cf T H (upd H' r o):=fun b u n q=>by rw[mi (mh q h)];exact e b u n q
def zD.upd {T r:Addr}{pos:Pos}{å:Str}{H:Hp}{xs ys:ň}(l:zD T pos å H)(h:H r=some (.lst xs)):zD T pos å (upd H r (.lst ys)):=by
 rcases l with l | ⟨c,l1,l2⟩
 .exact .inl (by rw[mi (fun z=>by rw[<-z,l] at h;cases h)];exact l)
 .refine .inr ⟨c,by rw[mi (fun z=>by rw[<-z,l1] at h;cases h)];exact l1,?_⟩;rw[mi (fun z=>by rw[<-z,l2] at h;cases h)];exact l2
end L2
namespace L2
open PySem PySem.Spec PyProof.Rows
def Lc {lo n p s:Nat}(hs:0<s)(hp:0<p)(en:n=p*s)(zX:lo<s):sliceRange (sliceBounds (some (lo:Int)) none (some (s:Int)) n).1 (sliceBounds (some (lo:Int)) none (some (s:Int)) n).2.1 (sliceBounds (some (lo:Int)) none (some (s:Int)) n).2.2=(ŭ p).map fun t=>lo+t*s:=by
 have h0:(sliceBounds (some (lo:Int)) none (some (s:Int)) n).1=lo:=by
  have:s<=n:=by rw[en];exact cM s hp
  unfold sliceBounds;simp only[ù,show (s:Int) > 0 by omega,if_true];omega
 have h1:(sliceBounds (some (lo:Int)) none (some (s:Int)) n).2.1=n:=by unfold sliceBounds;simp only[ù,show (s:Int) > 0 by omega,if_true]
 have h2:(sliceBounds (some (lo:Int)) none (some (s:Int)) n).2.2=s:=Z;rw[h0,h1,h2];unfold sliceRange;simp only[show (s:Int) > 0 by omega,if_true];have sn:s<=n:=by rw[en];exact cM s hp
 have ei:(n:Int)=p*s:=by rw[en,aI]
 have lt:(lo:Int)<n:=lC;have cnt:((n:Int)-lo+s-1)/s=p:=by
  rw[show (n:Int)-lo+s-1=(s-1-lo)+s*p by rw[ei,ay];omega,fW _ _ lC,gU lC lC];omega
 rw[aA lt,cnt,ae];refine j8 fun k _=>?_;rw[ay,<-aI,<-gI,ae]
def NW {ns:ń}{n p s lo:Nat}(hn:ns.length=n)(en:n=p*s)(zX:lo<s):(((ŭ p).map fun t=>lo+t*s).filterMap fun i=>ns[i]?)=(ŭ p).map fun (t:Nat)=>zaw ns ((lo:Int)+(t:Int)*s):=by
 rw[List.filterMap_map];have key:∀k:Nat,k<=p->((ŭ k).filterMap ((fun i=>ns[i]?)∘fun t=>lo+t*s))=(ŭ k).map fun (t:Nat)=>zaw ns ((lo:Int)+(t:Int)*s):=by
  intro k
  induction k with
  | zero=>intro _;rfl
  | succ k ih =>
   intro hk;rw[iC,List.filterMap_append,ih lC,aQ];congr 1;have b:lo+k*s<ns.length:=by
    rw[hn,en];have:(k+1)*s<=p*s:=b9 _ hk;rw[fv] at this;omega
   have e:ns[lo+k*s]?=some (zaw ns ((lo+k*s:Nat):Int)):=Ld.Bc b;rw[gI,aI] at e;show List.filterMap ((fun i=>ns[i]?)∘fun t=>lo+t*s) [k]=_
   simp[e]
 exact key p (aG _)
variable {H:Hp}{m c:Int}{ws:ń}
open PySem PySem.Spec PyProof.Rows PySem.SeqAt
section
variable {X:Cx}
def OM (i j:Int):Prop:=j≠0/\j∣i/\j.natAbs.log2<9000
def CW:wy X (binaryOp .FloorDiv) (rI OM fun i j=>.int (i/j)):=R7 fun i j _ _ _ _ _ hc q=>by
 have e:i/j=i.fdiv j:=(Int.fdiv_eq_ediv_of_dvd hc.2.1).symm;rw[e] at q;exact floordiv_int hc.1 q (.inl (jA hc.2.2))
end
def GM {i j:Int}{B:Nat}(h0:j≠0)(hd:j∣i)(hb:j.natAbs<2^B)(hB:B<=9000):OM i j:=⟨h0,hd,by
 have:=(io (show j.natAbs≠0 by omega)).mpr hb;omega⟩
def Iv {n p s:Nat}(hs:0<s)(hp:0<p)(en:n=p*s):sliceRange (sliceBounds none none (some (s:Int)) n).1 (sliceBounds none none (some (s:Int)) n).2.1 (sliceBounds none none (some (s:Int)) n).2.2=(ŭ p).map fun t=>0+t*s:=by
 have h0:(sliceBounds none none (some (s:Int)) n).1=((0:Nat):Int):=by unfold sliceBounds;simp only[ù,show (s:Int) > 0 by omega,if_true];rfl
 have g0:(sliceBounds (some ((0:Nat):Int)) none (some (s:Int)) n).1=((0:Nat):Int):=by unfold sliceBounds;simp only[ù,show (s:Int) > 0 by omega,if_true];omega
 have e1:(sliceBounds none none (some (s:Int)) n).2.1=(sliceBounds (some ((0:Nat):Int)) none (some (s:Int)) n).2.1:=Z;have e2:(sliceBounds none none (some (s:Int)) n).2.2=(sliceBounds (some ((0:Nat):Int)) none (some (s:Int)) n).2.2:=Z;have k:=Lc (lo:=0) hs hp en hs;rw[h0,e1,e2,<-g0];exact k
section
variable {X:Cx}{e:Expr}{te:TE}{es:Expr}{ts:TO}{pos p2:Pos}
inductive QA (K:zfq)(Q:VK)(x:V)(st:ŕ)(H3:Hp):Prop
 | mk (a:Addr)(ns:ń)(n p s:Nat)(_:x=.ref a)(_:st=some (s:Int))(_:mj K H3 a (ns.map zad))(_:ns.length=n)(_:0<s)(_:0<p)(_:n=p*s)(_:∀q,H3 q=none->Q (.ref q) (upd H3 q (.lst (((ŭ p).map fun (t:Nat)=>zaw ns (((0:Nat):Int)+(t:Int)*s)).map zad))))
def zai (K:zfq)(te:TE)(ts:TO):TE:=fun σ H Q=>te σ H fun x H1=>ts σ H1 fun st H3=>QA K Q x st H3
def HV {K:zfq}(hK:X.K=K)(he:PE X e te)(uX:PO X (some es) ts):PE X (.Subscript e (.Slice none none (some es) p2) pos) (zai K te ts):=by
 subst hK;intro â s σ H Q I h;refine Subscript_ (oR (he â s σ H _ I h) fun v s1 ⟨x,H1,I1,r1,q1⟩=>?_);refine kY ?_;rw[ja];refine dh ?_;refine dh ?_;refine oR (uX â s1 σ H1 _ I1 q1) fun vt s3 ⟨t,H3,I3,pt,q3⟩=>?_;obtain⟨a,ns,n,pp,s0,rfl,AX,hq,hn,RF,Vp,en,q⟩:=q3;subst AX;cases r1;obtain⟨its,rv,ht,hz⟩:=I3.list hq;have I4:Inv X â σ H3 { s3 with heap:=s3.heap.push { cls:=.type "slice",data:=.fields #[.none,.none,vt] } }:=I3.kept (t':=s3.toks) fun b ob q=>aM _ q;have Vq:({ s3 with heap:=s3.heap.push { cls:=.type "slice",data:=.fields #[.none,.none,vt] } }:Shared).heap.IsList a its.toArray:=by
  obtain⟨its',Si,Cj,_⟩:=I4.list hq;have:its'=its:=by
   have e1:=ht.isList;obtain⟨o,ho,hc,n,hd⟩:=e1;obtain⟨o',E8,wQ,n',GS⟩:=Cj.isList;have Vr:=aM { cls:=.type "slice",data:=.fields #[.none,.none,vt] } ho;rw[show (s3.heap.push { cls:=.type "slice",data:=.fields #[.none,.none,vt] }).get? a=_ from E8] at Vr;cases Vr;rw[GS] at hd;injection hd with hd;have:=cA ħ hd;simpa using this
  rw[<-this];exact Cj.isList
 have len:=rv.length;rw[aa] at len;show wpAny (model X.prog X.w) X.A (subscriptTail e (.Slice none none (some es) p2) (.ref a) (.ref s3.heap.objs.size)) (EP X â σ Q) X.xe { s3 with heap:=s3.heap.push { cls:=.type "slice",data:=.fields #[.none,.none,vt] } }
 refine tail_any (ops:=[.ref a,.ref s3.heap.objs.size]) (T:="list") Vq.typeIs slot_list_getitem.lookup ?_ (by with_unfolding_all rfl);rw[aa] at hz;refine iE (st:=some (s0:Int)) Vq (jf ..) .none .none pt (by intro z;injection z with z;omega) ?_ (by rw[cf,<-len];exact hz);have esz:its.toArray.size=n:=by rw[cf,<-len,hn]
 have pv:=wD rv ((ŭ pp).map fun t=>0+t*s0);rw[NW hn en RF] at pv;unfold slicePick;rw[esz,Iv RF Vp en];have ml:(((ŭ pp).map fun (t:Nat)=>zaw ns (((0:Nat):Int)+(t:Int)*s0)).map zad).length<=sizeLine:=by
  rw[aa,aa,fZ];have:pp*1<=pp*s0:=dY _ RF;omega
 refine⟨.ref _,_,I4.laid (t':=s3.toks) (o:=.lst (((ŭ pp).map fun (t:Nat)=>zaw ns (((0:Nat):Int)+(t:Int)*s0)).map zad)) (fun b ob q=>aM _ q) (aG _) ?_,Z,q _ (I4.hok.fresh (aG _))⟩;exact⟨ml,_,0,pv,bV _ Z⟩
end
def lO.UJ {K:zfq}{H':Hp}{a:Addr}{xs:ň}(e:lO H H')(h:mW K H a xs):mW K H' a xs:=by
 rcases h with (h | ⟨o,h⟩) | h
 .exact .inl (.inl (e _ _ h))
 .exact .inl (.inr ⟨o,e _ _ h⟩)
 .exact .inr h
def dV (m:Int)(ws:ń)(c:Int):PyData:=.tuple [.int m,.tuple (ws.map PyData.int),.int c]
def qJ (H:Hp)(t:Addr)(m:Int)(ws:ń)(c:Int):Prop:=∃u,H t=some (.tup [.int m,.ref u,.int c])/\H u=some (.tup (ws.map zad))
def qJ.same {H':Hp}{t:Addr}(h:qJ H t m ws c)(s:lO H H'):qJ H' t m ws c:=let ⟨u,a,b⟩:=h;⟨u,s _ _ a,s _ _ b⟩
def A5 {K:zfq}{t:Addr}(h:qJ H t m ws c):GR K H (.ref t) (dV m ws c):=let ⟨u,a,b⟩:=h;.tup (mW.of a) (.cons (.int _) (.cons (.tup (mW.of b) (B5 ws)) (.cons (.int _) .nil)))
def AH:∀l:ń,PyData.depthAll (l.map PyData.int)<=1
 | []=>by simp[PyData.depthAll]
 | a::r=>by have:=AH r;simp only[ĕ,PyData.depthAll,PyData.depth];omega
def HW (ws:ń):PyData.canLayAll0 (ws.map PyData.int)=true:=by
 have h:=iN ws;unfold shaped at h;rw[gX] at h;have:=h.1;simpa only [PyData.canLay0] using this
def xH (m:Int)(ws:ń)(c:Int):shaped (dV m ws c)=true:=by
 have h1:=AH ws;unfold shaped dV;rw[gX];refine⟨by simp[PyData.canLay0,PyData.canLayAll0,HW ws],decide_eq_true ?_⟩;simp only[PyData.depth,PyData.depthAll];omega
def GF (m c m' c':Int)(ws pT:ń):noMix (dV m ws c) (dV m' pT c')=true:=by
 unfold dV;simp only[noMix,noMixAll];rw[PySem.W.noMix_ints ws pT];simp[noMix,noMixAll]
def Fx (m c m' c':Int)(ws pT:ń):same (dV m ws c) (dV m' pT c')=decide (m=m'/\ws=pT/\c=c'):=by
 unfold dV;simp only[same,sameAll];rw[PySem.W.same_ints ws pT]
 by_cases h1:m=m'<;>by_cases h2:ws=pT<;>by_cases h3:c=c'<;>simp[h1,h2,h3,same,sameAll]
def QR {K:zfq}{a b:Addr}{m' c':Int}{pT:ń}{Q:VK}(h1:qJ H a m ws c)(h2:qJ H b m' pT c')(q:Q (.bl (decide (m=m'/\ws=pT/\c=c'))) H):Nq K (.ref a) (.ref b) H Q :=
 ⟨_,_,A5 h1,A5 h2,xH ..,xH ..,GF ..,by rw[Fx];exact q⟩
def PZ {K:zfq}{a b:Addr}{m' c':Int}{pT:ń}{Q:VK}(h1:qJ H a m ws c)(h2:qJ H b m' pT c')(q:Q (.bl (!decide (m=m'/\ws=pT/\c=c'))) H):LP K (.ref a) (.ref b) H Q :=
 ⟨_,_,A5 h1,A5 h2,xH ..,xH ..,GF ..,by rw[Fx];exact q⟩
theorem FJ (a b c:V):oi [a,b,c] 0=some a:=rfl
theorem UA (a b c:V):oi [a,b,c] 1=some b:=rfl
theorem CH (a b c:V):oi [a,b,c] 2=some c:=rfl
section
variable {Q:ŝ}
variable {prog:Program}{w:World}{A:Around}{E:ŝ}{s:Shared}
def DV {it t:Addr}{i:Nat}{vs:Array Value}{x:Value}(hit:s.heap.IsTupleIter it t i)(ht:s.heap.IsTuple t vs)(hx:vs[i]?=some x)(hQ:∀h',h'.IsTupleIter it t (i+1)->Heap.SameBut it s.heap h'->Q x { s with heap:=h' }):wpAny (model prog w) A (Builtin.SmallTypes.nextOf (.ref it)) Q E s:=by
 obtain⟨o,g1,g2,g3⟩:=id hit;obtain⟨o2,k1,_,k2,k3⟩:=ht;unfold Builtin.SmallTypes.nextOf;refine bI (iJ (name:=Str.ofString "__next__") hit.typeIs gE (jB gE hit.typeIs jV ?_ (jT _)));show wpAny _ _ (field (.ref it) 0 >>= _) _ _ s;refine bI (i5 g1 g3 (x:=.ref t) Z ?_)
 show wpAny _ _ (if (Value.ref t == Value.none)=true then _ else _) _ _ s;rw[ah (show ¬((Value.ref t == Value.none)=true) from b3)]
 show wpAny _ _ (field (.ref it) 1 >>= _) _ _ s;refine bI (i5 g1 g3 (x:=.int i 0) Z ?_)
 show wpAny _ _ (seqItems? (.ref t) >>= _) _ _ s;refine bI (wpAny_seqItems k1 k3 ?_);simp only[ŧ,hx]
 refine bI (wpAny_setField g1 g3 lB (wpAny_pure ⟨x,Z,wpAny_pure (hQ _ ?_ (Heap.SameBut.update ..))⟩));exact⟨_,kT _ g1 (Obj.isFreed_of_fields (Obj.data_mapFields g3 _)),(Obj.cls_mapFields ..).trans g2,by rw[Obj.data_mapFields g3];simp[rawInt]⟩
def An {it t:Addr}{i:Nat}{vs:Array Value}(hh:A.handled=none)(hit:s.heap.IsTupleIter it t i)(ht:s.heap.IsTuple t vs)(hx:vs[i]?=none)(hE:∀h' e,Heap.ExtBut it s.heap h'->(∃o,h'.get? e=some o/\o.cls=.type "StopIteration")->E (.ref e) { s with heap:=h' }):wpAny (model prog w) A (Builtin.SmallTypes.nextOf (.ref it)) Q E s:=by
 obtain⟨o,g1,g2,g3⟩:=id hit;obtain⟨o2,k1,_,k2,k3⟩:=ht;unfold Builtin.SmallTypes.nextOf;refine bI (iJ (name:=Str.ofString "__next__") hit.typeIs gE (jB gE hit.typeIs jV ?_ (jT _)));show wpAny _ _ (field (.ref it) 0 >>= _) _ _ s;refine bI (i5 g1 g3 (x:=.ref t) Z ?_)
 show wpAny _ _ (if (Value.ref t == Value.none)=true then _ else _) _ _ s;rw[ah (show ¬((Value.ref t == Value.none)=true) from b3)]
 show wpAny _ _ (field (.ref it) 1 >>= _) _ _ s;refine bI (i5 g1 g3 (x:=.int i 0) Z ?_)
 show wpAny _ _ (seqItems? (.ref t) >>= _) _ _ s;refine bI (wpAny_seqItems k1 k3 ?_);simp only[ŧ,hx]
 refine bI (wpAny_rule (bI (wpAny_setField g1 g3 lB ?_)));show wpAny _ _ (newExc (.type "StopIteration") [] >>= _) _ _ _;refine bI ?_;simp only[newExc,newTuple]
 refine bI (js ?_ (by size_fits));refine bI (m:=firstArgMember _ _) (wpAny_of_eq (a:=Value.none) (by first | rfl | (simp only[firstArgMember];rfl)) ?_);refine js ?_ (by size_fits);simp only[raiseNew];refine wpAny_bind (wpAny_handled ?_)
 first | rw[show A.in1.handled=none from hh] | rw[hh]
 refine bI (dh (wpAny_throw ?_));exact hE _ _ (((Heap.SameBut.update ..).extBut.push _).push _) ⟨_,bV _ Z,Z⟩
end
def Ig {prog:Program}{w:World}{A:Around}(hh:A.handled=none)(it t:Addr)(Pm:t≠it)(vs:Array Value):Draws prog w A it [it,t] vs.size (fun i v=>vs[i]?=some v) (fun i h=>h.IsTupleIter it t i/\h.IsTuple t vs) where
 live:=fun _ _ st=>let ⟨o,ho,_⟩:=st.1;⟨o,ho⟩
 frame:=fun _ _ _ st hk=>⟨st.1.at fun o e=>hk it lB o e,let ⟨o,ho,r⟩:=st.2;⟨o,hk t lB o ho,r⟩⟩
 item:=fun i s Q E hi st hQ=>DV st.1 st.2 (x:=vs[i]) (by simp[hi]) fun h' zbD IP=>hQ _ h' s.toks (by simp[hi]) ⟨zbD,let ⟨o,ho,r⟩:=st.2;⟨o,IP.extBut t o Pm ho,r⟩⟩ IP
 done:=fun s Q E st hE=>An hh st.1 st.2 lB hE
def Hk (t:Addr)(vs:Array Value)(n:Nat)(dct:Option Addr)(sl:Array (Option Value)):Meets (Builtin.«enumerate.__new__» ⟨[.type "enumerate",.ref t],[]⟩) (fun _ R s=>s.heap.get? t=some { cls:=.type "tuple",dict:=dct,data:=.seq vs n,slots:=sl } /\
   R (.ok (.ret (.ref (s.heap.push { cls:=.type "tuple_iterator",data:=.fields #[.ref t,.int 0 0] }).objs.size))) { s with heap:=(s.heap.push { cls:=.type "tuple_iterator",data:=.fields #[.ref t,.int 0 0] }).push { cls:=.type "enumerate",data:=.fields #[.none,.bool false,.ref s.heap.objs.size,rawInt 0,.none,.none] } }) :=
 .of_wp fun prog w A R s h=>by
  obtain⟨hp,g,d,tk,os⟩:=s;obtain⟨ht,h⟩:=h;have ue:=sub_enumerate;have hT:Heap.IsTuple (Shared.heap ⟨hp,g,d,tk,os⟩) t vs:=⟨_,ht,Z,n,Z⟩
  wp_walk using iQ ht
  refine wpAny_stack_any fun st=>dh ?_;split
  .rename_i c _ _ _ _ _;cases (c == Value.type "enumerate")
   .wp_walk using iQ ht,jp hT
    exact⟨_,Z,h⟩
   .wp_walk using iQ ht,jp hT
    exact⟨_,Z,h⟩
  .wp_walk using iQ ht,jp hT
   exact⟨_,Z,h⟩
def EM {prog:Program}{w:World}{A:Around}{E:ŝ}{s:Shared}{t:Addr}{vs:Array Value}{Q:ŝ}(hL:s.heap.IsTuple t vs)
  (h:∀h',IsEnum h' (s.heap.objs.size+1) s.heap.objs.size 0 .none->h'.IsTupleIter s.heap.objs.size t 0->h'.objs.size=s.heap.objs.size+2->(∀b o,s.heap.get? b=some o->h'.get? b=some o)->Q (.ref (s.heap.objs.size+1)) { s with heap:=h' }):wpAny (model prog w) A (call (.type "enumerate") [.ref t]) Q E s:=by
 obtain⟨⟨c,dct,dt,sl⟩,hl,hc,n,hd⟩:=hL;replace hc:c=.type "tuple":=hc;replace hd:dt=.seq vs n:=hd;subst hc hd;refine callType_new F.called_enumerate L (F.typeCall_enumerate_1 _) (F.newCall_enumerate_1 _) (fun obj=>F.args_object_init_2 obj _) F.entry_enumerate_new (Hk t vs n dct sl) ⟨hl,?_⟩;have hz:(s.heap.push { cls:=.type "tuple_iterator",data:=.fields #[.ref t,.int 0 0] }).objs.size=s.heap.objs.size+1:=g4 ..;show _/\_;rw[hz]
 have he:IsEnum ((s.heap.push { cls:=.type "tuple_iterator",data:=.fields #[.ref t,.int 0 0] }).push { cls:=.type "enumerate",data:=.fields #[.none,.bool false,.ref s.heap.objs.size,rawInt 0,.none,.none] }) (s.heap.objs.size+1) s.heap.objs.size 0 .none:=by
  have:=bV (s.heap.push { cls:=.type "tuple_iterator",data:=.fields #[.ref t,.int 0 0] }) (o:={ cls:=.type "enumerate",data:=.fields #[.none,.bool false,.ref s.heap.objs.size,rawInt 0,.none,.none] }) Z;rw[hz] at this;exact this
 refine⟨⟨_,he,Z⟩,h _ he ⟨_,aM _ (bV _ Z),Z,Z⟩ (by rw[g4,hz]) fun b o x=>aM _ (aM _ x)⟩
def JQ (K:zfq)(a:Addr):It :=
 ⟨fun i H=>∃xs x,mW K H a xs/\xs[i]?=some x,fun i H v H'=>∃p x,v=.ref p/\H p=none/\(∀xs,mW K H a xs->xs[i]?=some x)/\H'=upd H p (.tup [.int i,x]),fun i H=>∃xs,mW K H a xs/\xs.length<=i⟩
def E2 {P:Program}{w:World}{K:zfq}{elts:ő}{x1}{pos:Pos}(a e it:Addr)(Pm:e≠it):Turn P w K (.Tuple elts x1 pos) (JQ K a) [e,it] e (fun i h=>∃old,IsEnum h e it ((i:Nat):Int) old/\h.IsTupleIter it a i) where
 mem:=by simp
 obj:=fun i h st b hb=>by
  obtain⟨old,he,o,e1,c,d⟩:=st;rcases ũ.mp hb with z | z
  .subst z;exact⟨_,he,fun v z=>by
    have z':Data.fields _=Data.cell v:=z;cases z'⟩
  .have z':b=it:=by simpa using z
   subst z';exact⟨o,e1,fun v z=>by rw[d] at z;cases z⟩
 keep:=fun i h h' st k=>by
  obtain⟨old,he,st⟩:=st;exact⟨old,k e lB _ he,st.at fun o e'=>k it lB o e'⟩
 item:=by
  intro X hP hw hK hc i â s σ H E I hf st hg;subst hP hw hK;obtain⟨old,he,st⟩:=st;obtain⟨xs,x,hq,hx⟩:=hg;obtain⟨its,rv,p,hz⟩:=I.tuple hq;obtain⟨u,hu,ru⟩:=rv.get hx;have Vg:e<s.heap.objs.size:=bZ he;have WG:it<s.heap.objs.size:=by obtain⟨o,e1,_⟩:=st;exact Heap.lt_size e1
  have nai:a≠it:=fun z=>by
   obtain⟨o,e1,c1,_⟩:=st;obtain⟨o',e2,c2,_⟩:=p;rw[z,e1] at e2;cases e2;rw[c1] at c2;exact absurd c2 lh
  have nea:e≠a:=fun z=>by
   obtain⟨o',e2,c2,_⟩:=p;rw[<-z] at e2;have e3:s.heap.get? e=some _:=he;rw[e3] at e2;cases e2;exact absurd c2 (by show Value.type "enumerate"≠.type "tuple";decide +kernel)
  have D:=Ig (prog:=X.prog) (w:=X.w) (A:=X.A.in1) (show X.A.in1.handled=none from I.ok.hd hc) it a nai its.toArray;have ilt:i<its.toArray.size:=by
   have:=(aJ.mp hu).1;simpa using this
  refine wpAny_pyNext_enum_itemD D he ⟨st,p⟩ ilt Pm (by simp[Pm,nea]) fun y h1 tk hy eo st1 ht1 hz1 hk1=>?_;have ey:y=u:=by
   have IN:its.toArray[i]?=some u:=by simpa using hu
   rw[IN] at hy;exact(bO hy).symm
  subst ey;refine⟨_,Z,jX eo fun h2 Pn hs2=>?_⟩
  replace hs2:Heap.SameBut e h1 h2:=hs2
  have nm:∀b,b∉[e,it]->b≠e/\b≠it:=fun b hb=>⟨fun z=>hb (by simp[z]),fun z=>hb (by simp[z])⟩;have IT:=I.Br (t':=tk+1) (h':=h2) (its:=[e,it]) (xs:=[.int ((i:Nat):Int),x]) (us:=[.int i tk,y]) (fun b o hb q=>hs2.extBut b o (nm b hb).1 (hk1 b o (nm b hb).1 (nm b hb).2 q)) hf
   (fun b hb=>by
    rcases ũ.mp hb with z | z
    .rw[z];exact Vg
    .have z':b=it:=by simpa using z
     rw[z'];exact WG)
   (hs2.extBut _ _ (iT Vg) ht1) lR (.cons ⟨_,Z⟩ (.cons ru .nil))
  refine⟨.ref s.heap.objs.size,_,IT.1,Z,⟨_,x,Z,I.hok.fresh (aG _),fun ys hy=>by rw[I.Ij hy hq];exact hx,Z⟩,⟨y,?_,st1.1.extBut hs2.extBut (dR Pm)⟩,IT.2⟩;have:((i+1:Nat):Int)=(i:Int)+1:=by push_cast;rfl
  rw[this];exact Pn
 done:=by
  intro X hP hw hK hc i â s σ H E I hf st hg;subst hP hw hK;obtain⟨old,he,st⟩:=st;obtain⟨xs,hq,hx⟩:=hg;obtain⟨its,rv,p,hz⟩:=I.tuple hq;have hl:=rv.length;obtain⟨f0,f1,f2,f3,f4,f5⟩:=hf it lB;have hT:s.TypeIs (.ref e) "enumerate":=⟨_,he,Z⟩;unfold pyNext;refine bI (wpAny_attempt (iJ (name:=Str.ofString "__next__") hT kW (jB kW hT F.entry_enumerate_next ?_ (F.args_enumerate_next_1 _))));show wpAny _ _ (field (.ref e) 2 >>= _) _ _ _;refine bI (i5 he Z (x:=.ref it) Z ?_)
  refine bI (An (show X.A.in1.handled=none from I.ok.hd hc) st p (by simp;omega) fun h' x he' DO=>?_);obtain⟨o,ho,wQ⟩:=DO;refine bI (wpAny_isInstance (T:="StopIteration") (b:=true) ⟨o,ho,wQ⟩ isSubtype_stop ?_);exact dh ⟨Z,I.turned (t':=s.toks) (fun b o hb e=>he' b o hb e) f0 f1 f3 f4 f5⟩
 self:=fun A i s Q E st h=>by
  obtain⟨old,he,st⟩:=st;exact iB he h
section
variable {X:Cx}
inductive LM (K:zfq)(R:(It->Hp->Prop))(vs:ň)(H1:Hp):Prop
 | mk (a:_)(_:vs=[.ref a])(_:∃xs,mW K H1 a xs)(_:R (JQ K a) H1)
def Qc (K:zfq)(ta:TA):TI:=fun σ H R=>ta σ H fun vs H1=>LM K R vs H1
def JY {elts:ő}{x1}{pos':Pos}{a:Expr}{ta:TA}{p pos:Pos}(hg:Gl X "enumerate")(hm:X.mg "enumerate"=none)(ha:PA X [a] ta)(hs:starEach [a] X.env=[(false,eval a X.env)]:=by rfl):PI X (.Tuple elts x1 pos') (.Call (.Name "enumerate" p) [a] [] pos) (Qc X.K ta):=by
 intro â s σ H R I h;refine Call_ (rT I hg hm boot_enumerate (cQ (oR (ha pos â s σ H _ I h) fun us s1 ⟨vs,H1,I1,r1,q1⟩=>?_) hs Z));obtain⟨a,e,⟨xs,hq⟩,q⟩:=q1;subst e;cases r1 with
 | cons r rr =>
  cases rr;cases r;obtain⟨its,rv,p,hz⟩:=I1.tuple hq;refine EM p fun h' he hit hz hk=>?_;have I2:Inv X â σ H1 { s1 with heap:=h' }:=I1.kept (t':=s1.toks) hk;refine iB he ?_;refine⟨_,[s1.heap.objs.size+1,s1.heap.objs.size],_,_,H1,Z,I2,E2 a _ _ (kJ _),⟨.none,he,hit⟩,fun b hb=>?_,q⟩;rcases ũ.mp hb with z | z
  .subst z;exact I1.Dy (gN _) (I1.hok.fresh (gN _))
  .have z':b=s1.heap.objs.size:=by simpa using z
   subst z';exact I1.Dy (aG _) (I1.hok.fresh (aG _))
end
def Io {K:zfq}{a:Addr}{xs:ň}{g:TG}{tb:TS}{D:Ends}{σ:St}{H:Hp}(Pv:Nat->St->Hp->Prop)(h0:Pv 0 σ H)(hl:∀i σ H,i<=xs.length->Pv i σ H->mW K H a xs)
  (hs:∀i x σ H p,xs[i]?=some x->Pv i σ H->H p=none->g (.ref p) σ (upd H p (.tup [.int i,x])) fun pK H2=>tb { D with nx:=Pv (i+1),ct:=Pv (i+1),bk:=D.nx } pK H2)(hd:∀σ H,Pv xs.length σ H->D.nx σ H) :
  ∃W:Nat->Nat->St->Hp->Prop,(∃m,W 0 m σ H)/\∀i m σ H,W i m σ H ->
   ((JQ K a).stop i H/\D.nx σ H)\/((JQ K a).go i H/\∃N:St->Hp->Prop,(∀nC H',N nC H'->∃m',m'<m/\W (i+1) m' nC H')/\∀x H',(JQ K a).yld i H x H'->g x σ H' fun pK H2=>tb { D with nx:=N,ct:=N,bk:=D.nx } pK H2):=by
 refine⟨fun i m σ H=>m=xs.length-i/\i<=xs.length/\Pv i σ H,⟨xs.length,lB,ý _,h0⟩,?_⟩;rintro i m σ H ⟨rfl,hi,p⟩;have q:=hl i σ H hi p
 by_cases rK:i<xs.length
 .refine .inr ⟨⟨xs,xs[i],q,by simp[rK]⟩,Pv (i+1),fun nC H' p'=>⟨xs.length-(i+1),lC,Z,rK,p'⟩,fun x H' y=>?_⟩;obtain⟨r,y,rfl,hr,hy,rfl⟩:=y;exact hs i y σ _ r (hy xs q) p hr
 .have e:i=xs.length:=lC;subst e;exact .inl ⟨⟨xs,q,aG _⟩,hd σ H p⟩
end L2
namespace Ps
open Pt (oZ Parts Row tG)
def dot:ń->ń->Int
 | c::cs,p::pl=>c*p+dot cs pl
 | _,_=>0
end Ps
namespace Vl
variable {m:Nat}{b:Int}
open Pt (Parts)
open Rt (fF pY R)
def uT {n:Nat}(hn:1<=n):∃l:ĺ,∃ps,pY n ps l:=by
 obtain⟨ps,hp⟩:=Pl.DE (n:=n) lC;obtain⟨l,h⟩:=pY.ex hn hp;exact⟨l,ps,h⟩
open Classical in
noncomputable def oj (n:Nat)(f:ř):Int->Int:=if h:1<=n then R n (uT h).choose f else f
def oN {n:Nat}{ps:ľ}{l:ĺ}(h:pY n ps l)(f:ř):oj n f=R n l f:=by
 unfold oj;rw[dif_pos h.n1];obtain⟨Oo,h'⟩:=(uT h.n1).choose_spec;exact h'.one h f
section
variable {n:Nat}(hn:1<=n){f g:ř}
include hn
def GD (f g:ř):oj n (fun x=>f x+g x)=fun x=>oj n f x+oj n g x:=by
 obtain⟨l,ps,h⟩:=uT hn;rw[oN h,oN h,oN h];exact funext fun k=>Rt.uF n l f g k
def sG (f:ř)(m:Int):oj n (fun x=>m*f x)=fun x=>m*oj n f x:=by
 obtain⟨l,ps,h⟩:=uT hn;rw[oN h,oN h];have e:(fun x=>m*f x)=fun x=>f x*m:=funext fun x=>ay ..;rw[e];exact funext fun k=>by rw[Rt.FF,ay]
def JB:oj n (fun _=>0)=fun _=>0:=by
 obtain⟨l,ps,h⟩:=uT hn;rw[oN h];exact funext fun k=>Rt.vi n l (fun _=>Z) k
def Hv (f:ř):oj n (oj n f)=oj n f:=by
 obtain⟨l,ps,h⟩:=uT hn;rw[oN h,oN h];exact h.again f
def Ge (hf:zbl n f):zbl n (oj n f):=by
 obtain⟨l,ps,h⟩:=uT hn;rw[oN h];exact Rt.I0 (fun z hz=>h.pc hz) hf
def KZ (hf:zbl n f)(hg:zbl n g):oj n (zcu n f g)=oj n (zcu n (oj n f) (oj n g)):=by
 obtain⟨l,ps,h⟩:=uT hn;rw[oN h,oN h,oN h,oN h];exact h.conv hf hg
def Gi {m:Nat}(hm:1<=m)(hf:zbl n f):oj (m*n) (fF m f)=fF m (oj n f):=by
 obtain⟨l,ps,h⟩:=uT hn;obtain⟨l',Oo,h'⟩:=uT (n:=m*n) (Nat.mul_pos hm hn);rw[oN h,oN h'];exact funext fun k=>Rt.TU hm h h' hf k
end
def wE (f:ř):fF 1 f=f:=funext fun x=>by
 unfold fF;rw[aA (by show x%(1:Int)=0;exact Int.emod_one x)];show f (x/1)=f x
 rw[Int.ediv_one]
def qC (m:Nat)(c:Int)(f:ř):fF m (fun x=>c*f x)=fun x=>c*fF m f x:=funext fun x=>by
 unfold fF;split
 .rfl
 .exact(bi c).symm
def AN {p q:Nat}(hp:1<=p)(f:ř):fF p (fF q f)=fF (p*q) f:=funext fun x=>by
 unfold fF;have e1:x/((p*q:Nat):Int)=x/p/q:=by rw[aI,Int.ediv_ediv_of_nonneg lC]
 have e2:x%((p*q:Nat):Int)=0↔x%p=0/\(x/p)%q=0:=by
  rw[<-iw,<-iw,<-iw,aI];constructor
  .rintro⟨c,hc⟩;refine⟨⟨q*c,by rw[hc,aE]⟩,⟨c,?_⟩⟩;rw[hc,aE,aC _ lC]
  .rintro⟨⟨c,hc⟩,⟨d,hd⟩⟩;refine⟨d,?_⟩;rw[hc,aC _ lC] at hd;rw[hc,hd,aE]
 by_cases c:x%p=0
 .rw[aA c]
  by_cases d:(x/p)%q=0
  .rw[aA d,aA (e2.mpr ⟨c,d⟩),e1]
  .rw[ah d,ah (fun z=>d (e2.mp z).2)]
 .rw[ah c,ah (fun z=>c (e2.mp z).1)]
def CM (hm:1<=m)(f:ř)(x:Int):fF m f (m*x)=f x:=by
 unfold fF;rw[aA (fR _ _),aC _ lC]
def yA (hm:1<=m){f g:ř}(h:fF m f=fF m g):f=g:=funext fun x=>by
 have:=eR h (m*x);rwa [CM hm,CM hm] at this
def vE {p q:Nat}(hp:1<=p)(hq:1<=q)(f:ř):fF p (fF q f)=fF q (fF p f):=by rw[AN hp,AN hq,dJ]
def lO (N:Nat)(f:ř)(b:Int)(M:Nat)(g:ř)(c:Int):Prop:=(fun x=>c*fF M (oj N f) x)=fun x=>b*fF N (oj M g) x
def lO.symm {N M:Nat}{f g:ř}{b c:Int}(h:lO N f b M g c):lO M g c N f b:=Eq.symm h
theorem lO.refl (N:Nat)(f:ř)(b:Int):lO N f b N f b:=rfl
def lO.trans {N M zog:Nat}{f g k:ř}{c d:Int}(hN:1<=N)(hM:1<=M)(hL:1<=zog)(hc:c≠0)(h1:lO N f b M g c)(h2:lO M g c zog k d):lO N f b zog k d:=by
 unfold lO at *;have a1:=cA (fF zog) h1;have a2:=cA (fF N) h2;rw[qC,qC] at a1 a2;refine yA hM ?_;rw[qC,qC];funext x;have b1:=eR a1 x;have b2:=eR a2 x;rw[vE hL hM] at b1;rw[vE hN hL,vE hN hM] at b2;refine aL hc ?_;show c*(d*fF M (fF zog (oj N f)) x)=c*(b*fF M (fF N (oj zog k)) x)
 have e1:c*(d*fF M (fF zog (oj N f)) x)=d*(c*fF M (fF zog (oj N f)) x):=dD ..;have e2:c*(b*fF M (fF N (oj zog k)) x)=b*(c*fF M (fF N (oj zog k)) x):=dD ..;rw[e1,e2,b1,<-b2,dD]
def BQ {N M J p q:Nat}(hN:1<=N)(hM:1<=M)(hp:1<=p)(hq:1<=q)(e1:J=p*N)(e2:J=q*M){f g:ř}{c:Int} :
  lO N f b M g c↔(fun x=>c*fF p (oj N f) x)=fun x=>b*fF q (oj M g) x:=by
 have pn:p*N=q*M:=e1.symm.trans e2;unfold lO;constructor
 .intro h;refine yA hM ?_;have a:=cA (fF p) h;rw[qC,qC] at a ⊢;rw[vE hM hp,a,AN hp,AN hM,pn,dJ q M]
 .intro h;refine yA hp ?_;have a:=cA (fF M) h;rw[qC,qC] at a ⊢;rw[vE hp hM,a,AN hp,AN hM,pn,dJ q M]
structure Mo (n:Nat)(w:ř)(c:Int):Prop where
 n1:1<=n
 per:zbl n w
 fix:oj n w=w
 c1:1<=c
 cw:∀d:Int,d∣c->(∀k,d∣w k)->d∣1
 ns:∀d:Int,d∣n->(∀k,w k≠0->d∣k)->d∣1
def q9 {a:Int}(ha:a≠0){P:Int->Prop}(one:∀d:Int,d∣a->(∀k,P k->d∣k)->d∣1)(h:∀k,P k->a∣b*k):a∣b:=by
 have g0:ż a b≠0:=fun z=>ha (Int.gcd_eq_zero_iff.mp z).1;obtain⟨a',ea⟩:((ż a b:Nat):Int)∣a:=ĝ ..;obtain⟨b',eb⟩:((ż a b:Nat):Int)∣b:=ė ..;obtain⟨D,hD⟩:∃D,D=ż a b:=⟨_,Z⟩;rw[<-hD] at ea eb g0;subst ea;subst eb;rw[iz,cD] at hD;have zh:ż a' b'=1:=(gu (show 0<D by omega) (show D*1=D*ż a' b' by rw[ip];exact hD)).symm;have gg:(D:Int)≠0:=lC;have d1:a'∣1:=one a' ⟨D,ay ..⟩ fun k hk=>by
  obtain⟨z,hz⟩:=h k hk;rw[aE,aE] at hz;exact Rs.tM zh ⟨z,aL gg hz⟩
 obtain⟨u,hu⟩:=d1;refine⟨u*b',?_⟩;rw[aE,<-aE a' u b',<-hu,cY]
def Fp {a:Int}(ha:1<=a)(hb:1<=b)(h1:a∣b)(h2:b∣a):a=b:=Int.le_antisymm (aW lC h1) (aW lC h2)
def OU {n:Nat}{w v:ř}{c d:Int}(h:Mo n w c)(g:Mo m v d)(s:lO n w c m v d):(n:Int)∣m:=by
 have hn:=h.n1;have hm:=g.n1;have hc:=h.c1;have hd:=g.c1;refine q9 (P:=fun k=>w k≠0) lC h.ns fun k hk=>?_;unfold lO at s;rw[h.fix,g.fix] at s;have e:=eR s (m*k);rw[CM hm] at e;unfold fF at e
 by_cases z:((m:Int)*k)%n=0
 .exact aY z
 .rw[ah z,bi] at e;exact absurd ((fV.mp e).resolve_left lC) hk
def Mo.uniq {n:Nat}{w v:ř}{c d:Int}(h:Mo n w c)(g:Mo m v d)(s:lO n w c m v d):n=m/\w=v/\c=d:=by
 have e:(n:Int)=m:=Fp (by have:=h.n1;omega) (by have:=g.n1;omega) (OU h g s) (OU g h s.symm);have e:n=m:=O;subst e;have hn:=h.n1;have e1:(fun x=>d*w x)=fun x=>c*v x:=by
  unfold lO at s;rw[h.fix,g.fix] at s;rw[<-qC,<-qC] at s;exact yA hn s
 have cd:c∣d:=q9 (P:=fun y=>∃k,w k=y) (by have:=h.c1;omega) (fun z hz hk=>h.cw z hz fun k=>hk _ ⟨k,Z⟩) fun y ⟨k,hk⟩=>by
  rw[<-hk];exact⟨v k,eR e1 k⟩
 have dc:d∣c:=q9 (P:=fun y=>∃k,v k=y) (by have:=g.c1;omega) (fun z hz hk=>g.cw z hz fun k=>hk _ ⟨k,Z⟩) fun y ⟨k,hk⟩=>by
  rw[<-hk];exact⟨w k,(eR e1 k).symm⟩
 have ec:=Fp h.c1 g.c1 cd dc;subst ec;refine⟨Z,funext fun x=>?_,Z⟩;exact aL (by have:=h.c1;omega) (eR e1 x)
def tell {N n g:Nat}{f:ř}{h:Int}(hN:1<=N)(hf:zbl N f)(hg:1<=g)(en:N=g*n)(gs:∀k,oj N f k≠0->(g:Int)∣k)(gm:∀d:Int,d∣N->(∀k,oj N f k≠0->d∣k)->d∣g)
 (h0:h≠0)(hb:h∣b)(hw:∀k,h∣oj N f k)(hm:∀d:Int,d∣b->(∀k,d∣oj N f k)->d∣h)(pos:1<=b/h) :
    Mo n (fun k=>oj N f (g*k)/h) (b/h)/\lO N f b n (fun k=>oj N f (g*k)/h) (b/h):=by
  have hn:1<=n:=by
    rcases õ n with z | z
    · rw[z,hZ] at en;omega
    · exact z
  have per:=Ge hN hf;have enI:(N:Int)=g*n:=by rw[en,aI]
  have pw:zbl n fun k=>oj N f (g*k):=fun x y e=>by
    refine per _ _ ?_;have:(g:Int)*x-g*y=N*((x-y)/n):=by
      have d:(n:Int)∣x-y:=aY (aK.mp e);obtain⟨z,hz⟩:=d;rw[hz,aC _ lC,enI,<-cL,hz,aE]
    refine aK.mpr ?_;rw[this];exact fR _ _
  have sp:fF g (fun k=>oj N f (g*k))=oj N f:=funext fun x=>by
    unfold fF
    by_cases c:x%g=0
    · rw[aA c]
      show oj N f (g*(x/g))=oj N f x
      rw[b8 (aY c)]
    · rw[ah c]
      by_cases z:oj N f x=0
      · exact z.symm
      · exact absurd (bB (gs x z)) c
  have fx:oj n (fun k=>oj N f (g*k))=fun k=>oj N f (g*k):=by
    refine yA hg ?_;have a:=Gi hn hg pw;rw[<-en,sp,Hv hN] at a;rw[<-a,sp]
  have hh:(fun k=>h*(oj N f (g*k)/h))=fun k=>oj N f (g*k):=funext fun k=>b8 (hw _);have fx2:oj n (fun k=>oj N f (g*k)/h)=fun k=>oj N f (g*k)/h:=by
    have a:=sG hn (fun k=>oj N f (g*k)/h) h;rw[hh,fx] at a;funext k;have:=eR a k;exact aL h0 (by rw[<-this,b8 (hw _)])
  obtain⟨b',eb⟩:=hb;have eb':b/h=b':=by rw[eb];exact aC _ h0
  refine⟨⟨hn,fun x y e=>cA (· / h) (pw x y e),fx2,pos,fun d d1 d2=>?_,fun d d1 d2=>?_⟩,?_⟩
  · have a:d*h∣h:=hm (d*h) (by rw[eb] ;rw[eb'] at d1;obtain⟨z,hz⟩:=d1;exact⟨z,by rw[hz,ĩ,ĥ,ĩ]⟩) fun k=>by
      by_cases z:oj N f k=0
      · rw[z];exact bx _
      · obtain⟨y,hy⟩:=gs k z
        obtain⟨u,hu⟩:=d2 y;refine⟨u,?_⟩;have:oj N f k=h*(oj N f (g*y)/h):=by rw[b8 (hw _),hy]
        rw[this,hu,dD,aE,dD]
    obtain⟨z,hz⟩:=a;refine⟨z,aL h0 ?_⟩;rw[bX]
    conv=>lhs;rw[hz]
    rw[ay d h,aE]
  · have a:(g:Int)*d∣g:=gm (g*d) (by rw[enI];obtain⟨z,hz⟩:=d1;exact⟨z,by rw[hz,ĥ]⟩) fun k hk=>by
      obtain⟨y,hy⟩:=gs k hk;rw[hy];have ne:oj N f (g*y)/h≠0:=fun z=>by
        have:=b8 (hw (g*y));rw[z,bi,<-hy] at this;exact hk this.symm
      obtain⟨u,hu⟩:=d2 y ne;exact⟨u,by rw[hu,aE]⟩
    obtain⟨z,hz⟩:=a;refine⟨z,aL (show (g:Int)≠0 by omega) ?_⟩;rw[bX,<-aE];exact hz
  · rw[BQ (J:=N) hN hn (aG 1) hg (by rw[gO]) en,wE,fx2]
    have e1:(fun x=>b*fF g (fun k=>oj N f (g*k)/h) x)=fun x=>b'*fF g (fun k=>h*(oj N f (g*k)/h)) x:=by
      rw[qC];funext x;rw[eb,ay h b',aE]
    rw[e1,hh,sp,eb']
def CQ {J:Nat}(hJ:1<=J){f g:ř}{b c:Int}:lO J f b J g c↔(fun x=>c*oj J f x)=fun x=>b*oj J g x:=by
 rw[BQ (J:=J) hJ hJ (aG 1) (aG 1) (by rw[gO]) (by rw[gO]),wE,wE]
def sf {N p:Nat}(hN:1<=N)(hp:1<=p){f:ř}(hf:zbl N f)(b:Int):lO N f b (p*N) (fF p f) b:=by
 rw[BQ (J:=p*N) (q:=1) hN (dI hp hN) hp (aG 1) Z (by rw[gO]),wE,Gi hN hp hf]
def Li {J:Nat}(hJ:1<=J){f1 f2 g1 g2:ř}{b1 b2 c1 c2:Int}(h1:lO J f1 b1 J g1 c1)(h2:lO J f2 b2 J g2 c2) :
  lO J (fun x=>b2*f1 x+b1*f2 x) (b1*b2) J (fun x=>c2*g1 x+c1*g2 x) (c1*c2):=by
 rw[CQ hJ] at *;rw[GD hJ,GD hJ,sG hJ,sG hJ,sG hJ,sG hJ];funext x;have e1:=eR h1 x;have e2:=eR h2 x;show c1*c2*(b2*oj J f1 x+b1*oj J f2 x)=b1*b2*(c2*oj J g1 x+c1*oj J g2 x)
 have a1:c1*oj J f1 x=b1*oj J g1 x:=e1;have a2:c2*oj J f2 x=b2*oj J g2 x:=e2;grind
def JR (n:Nat)(f g:ř)(a b:Int):zcu n (fun x=>a*f x) (fun x=>b*g x)=fun x=>a*b*zcu n f g x:=funext fun x=>by
 unfold zcu;rw[<-zbk];refine zbc fun j _=>?_;grind
def HE {J:Nat}(hJ:1<=J){f1 f2 g1 g2:ř}(p1:zbl J f1)(p2:zbl J f2)(q1:zbl J g1)(q2:zbl J g2){b1 b2 c1 c2:Int}(h1:lO J f1 b1 J g1 c1)(h2:lO J f2 b2 J g2 c2) :
  lO J (zcu J f1 f2) (b1*b2) J (zcu J g1 g2) (c1*c2):=by
 rw[CQ hJ] at *;rw[KZ hJ p1 p2,KZ hJ q1 q2];have a1:=sG hJ (zcu J (oj J f1) (oj J f2)) (c1*c2);have a2:=sG hJ (zcu J (oj J g1) (oj J g2)) (b1*b2);rw[<-JR] at a1 a2;rw[<-a1,<-a2,h1,h2]
def NH {n M:Nat}{w g:ř}{c d:Int}(h:Mo n w c)(hM:1<=M)(hd:d≠0)(s:lO n w c M g d):(n:Int)∣M:=by
 have hn:=h.n1;refine q9 (P:=fun k=>w k≠0) lC h.ns fun k hk=>?_;unfold lO at s;rw[h.fix] at s;have e:=eR s (M*k);rw[CM hM] at e;unfold fF at e
 by_cases z:((M:Int)*k)%n=0
 .exact aY z
 .rw[ah z,bi] at e;exact absurd ((fV.mp e).resolve_left hd) hk
section
variable {n:Nat}(hn:1<=n)
include hn
end
def HM (n:Nat)(h x:Int):Int:=if (n:Int)∣x-h then 1 else 0
def NS (n:Nat)(h:Int):zbl n (HM n h):=fun x y e=>by
 unfold HM;have d:(n:Int)∣x-y:=aY (aK.mp e);have:(n:Int)∣x-h↔(n:Int)∣y-h:=by
  constructor
  .intro z;have:=bE z d;rwa [show x-h-(x-y)=y-h by omega] at this
  .intro z;have:=bY z d;rwa [show y-h+(x-y)=x-h by omega] at this
 by_cases c:(n:Int)∣x-h
 .rw[aA c,aA (this.mp c)]
 .rw[ah c,ah (fun z=>c (this.mpr z))]
def MK:Parts ((1:Nat):Int) []:=⟨Z,fun x h=>(nomatch h),List.Pairwise.nil⟩
def Tv (f:ř):oj 1 f=f:=by
 have h:pY 1 [] []:=⟨aG 1,MK,Z,fun z h=>(nomatch h)⟩;rw[oN h];rfl
def Tk (n:Nat)(A:Int):fF n (fun _=>A)=fun x=>A*HM n 0 x:=funext fun x=>by
 unfold fF HM;rw[cS]
 by_cases c:x%n=0
 .rw[aA c,aA (aY c),bX]
 .rw[ah c,ah (fun z=>c (bB z)),bi]
def Ho (ë:Int):Mo 1 (fun _=>ë) 1:=⟨aG 1,fun _ _ _=>Z,Tv _,eL 1,fun d h _=>h,fun d h _=>h⟩
def Dg (g:Int)(l:ń):Int:=l.foldl zdk g
def Dv (a:Int)(l:ń):Int:=Dg (zex a) l
def NB (g:Int)(l:ń)(x:Int):Dg g (l++[x])=zdk (Dg g l) x:=by simp[Dg]
def E3:∀(l:ń)(g:Int),Dg g l∣g/\∀x∈l,Dg g l∣x
 | [],g=>⟨cq _,fun _ h=>(nomatch h)⟩
 | y::l,g=>by
  have ih:=E3 l (zdk g y);have e:Dg g (y::l)=Dg (zdk g y) l:=Z;rw[e];refine⟨bu ih.1 (kQ ..),fun x hx=>?_⟩;rcases ũ.mp hx with z | z
  .rw[z];exact bu ih.1 (ku ..)
  .exact ih.2 x z
def Ky:∀(l:ń)(g d:Int),d∣g->(∀x∈l,d∣x)->d∣Dg g l
 | [],g,d,h,_=>h
 | y::l,g,d,h,k=>Ky l (zdk g y) d (jj h (k y lB)) fun x hx=>k x (ÿ _ hx)
def AE:∀(l:ń)(g:Int),0<=g->0<=Dg g l
 | [],g,h=>h
 | y::l,g,_=>AE l (zdk g y) (Eh.CA ..)
def Kv (a:Int):zex a∣a/\a∣zex a:=by
 unfold zex;split
 .exact⟨Int.neg_dvd.mpr (cq _),dZ.mpr (cq _)⟩
 .exact⟨cq _,cq _⟩
def Ex (a:Int)(l:ń):Dv a l∣a/\∀x∈l,Dv a l∣x:=⟨bu (E3 l _).1 (Kv a).1,(E3 l _).2⟩
def Jc {a:Int}{l:ń}{d:Int}(h:d∣a)(k:∀x∈l,d∣x):d∣Dv a l:=Ky l _ d (bu h (Kv a).2) k
def Iw (a:Int):0<=zex a:=by rw[Eh.BN];lia
def Ai (a:Int)(l:ń):0<=Dv a l:=AE l _ (Iw a)
def hs (b:ń)(i:Nat):ń:=(zfg b i).map ű
def Be (b:ń)(i:Nat):hs b (i+1)=hs b i++(if zaw b i=0 then [] else [(i:Int)]):=by
 unfold hs;rw[Ld.xP,aQ];split<;>rfl
def D3 (b:ń)(i:Nat):(hs b i).length<=i:=by unfold hs;rw[š];exact Ld.Ei b i
def yP {b:ń}:∀{i:Nat}{k:Int},k∈hs b i↔0<=k/\k<i/\zaw b k≠0
 | 0,k=>by simp[hs,zfg];omega
 | i+1,k=>by
  rw[Be,g9,yP]
  by_cases c:zaw b i=0
  .rw[aA c];constructor
   .rintro (h | h)
    .exact⟨h.1,lC,h.2.2⟩
    .simp at h
   .rintro⟨h0,h1,h2⟩;refine .inl ⟨h0,?_,h2⟩;have:k≠i:=fun e=>h2 (by rw[e];exact c);omega
  .rw[ah c];constructor
   .rintro (h | h)
    .exact⟨h.1,lC,h.2.2⟩
    .have:k=i:=by simpa using h
     subst this;exact⟨lC,lC,c⟩
   .rintro⟨h0,h1,h2⟩
    by_cases e:k=i
    .exact .inr (by rw[e];simp)
    .exact .inl ⟨h0,lC,h2⟩
def rX (b:ń)(m s:Nat):ń:=(ŭ m).map fun (t:Nat)=>zaw b (((0:Nat):Int)+(t:Int)*s)
def uq (b:ń)(m s:Nat):(rX b m s).length=m:=by simp[rX]
def P7 {b:ń}{m s:Nat}(hm:1<=m)(hb:b.length=m*s)(k:Int):zaw (rX b m s) k=zaw b (s*k):=by
 have h0:=aH k (show (m:Int)≠0 by omega);have h1:=aF k (show 0<(m:Int) by omega);have e:=Ld.rP (a:=rX b m s) (x:=k) (by rw[uq];omega);rw[uq] at e;unfold rX at e;rw[af,dj lC] at e;have e':=bO e;unfold rX;rw[<-e'];refine Ld.Jg b _ _ ?_;rw[hb,cR h0];obtain⟨z,hz⟩:(m:Int)∣k-k%m:=Ę;refine aK.mpr (bB ⟨-z,?_⟩);have e3:k%m=k-m*z:=lC;rw[e3]
 push_cast
 grind
structure Tp (n:Nat)(f:ř)(b:Int)(m:Nat)(ws:ń)(c:Int):Prop where
 len:ws.length=m
 pln:Mo m (zaw ws) c
 same:lO n f b m (zaw ws) c
 mn:m∣n
 cb:c∣b
def told {n:Nat}{a b:ń}{β:Int}(n1:1<=n)(la:a.length=n)(lb:b.length=n)(bv:∀x,zaw b x=oj n (zaw a) x)(hβ:β≠0) :
  ∃s m:Nat,Dv n (hs b n)=s/\0<s/\0<m/\n=m*s/\(n:Int)/s=m /\
   ∀h:Int,(h=if β<0 then -Dv β (rX b m s) else Dv β (rX b m s))->h≠0/\h∣β/\(∀x∈rX b m s,h∣x)/\h.natAbs<=β.natAbs/\Tp n (zaw a) β m ((rX b m s).map (· / h)) (β/h):=by
 have RF:=Ai n (hs b n);obtain⟨s,es⟩:=ü RF;have sd:=(Ex (n:Int) (hs b n)).1;rw[es] at sd;have sdn:s∣n:=dE.mp sd;have s1:0<s:=by
  rcases õ s with z | z
  .subst z;have:=Nat.eq_zero_of_zero_dvd sdn;lia
  .exact z
 obtain⟨m,em⟩:=sdn;have m1:0<m:=by
  rcases õ m with z | z
  .subst z;rw[hZ] at em;lia
  .exact z
 have Ck:n=m*s:=by rw[em,dJ]
 refine⟨s,m,es,s1,m1,Ck,?_,?_⟩
 .rw[Ck];push_cast;exact gA _ lC
 intro h eh;have D:=Ex β (rX b m s);have d0:=Ai β (rX b m s);have dz:Dv β (rX b m s)≠0:=fun z=>by rw[z] at D;exact hβ (gS.mp D.1)
 have hd:∀x,h∣x↔Dv β (rX b m s)∣x:=fun x=>by
  rw[eh];split
  .exact Int.neg_dvd
  .exact Iff.rfl
 have GS:∀x,x∣h↔x∣Dv β (rX b m s):=fun x=>by
  rw[eh];split
  .exact dZ
  .exact Iff.rfl
 have h0:h≠0:=by rw[eh];split<;>omega
 have Mc:h∣β:=(hd _).mpr D.1;have per:zbl n (oj n (zaw a)):=Ge n1 (zcv la);have gs:∀k,oj n (zaw a) k≠0->(s:Int)∣k:=fun k hk=>by
  have k0:=aH k (show (n:Int)≠0 by lia);have k1:=aF k (show 0<(n:Int) by lia);have mem:k%n∈hs b n:=yP.mpr ⟨k0,k1,by rw[bv,per.md];exact hk⟩;have:=(Ex (n:Int) (hs b n)).2 _ mem;rw[es] at this;have e:k=k%n+n*(k/n):=(bU k n).symm;rw[e];exact bY this (aD sd)
 have wv:∀k,zaw (rX b m s) k=oj n (zaw a) (s*k):=fun k=>by rw[P7 m1 (by rw[lb];exact Ck),bv]
 have zbH:∀k,oj n (zaw a) (s*k)∈rX b m s:=fun k=>by
  rw[<-wv];have:=Ld.rP (a:=rX b m s) (x:=k) (by rw[uq];omega);exact ao this
 have Vs:∀x∈rX b m s,∃k,x=oj n (zaw a) k:=fun x hx=>by
  unfold rX at hx;obtain⟨t,_,e⟩:=ţ.mp hx;exact⟨_,by rw[<-e,bv]⟩
 have hw:∀k,h∣oj n (zaw a) k:=fun k=>by
  by_cases z:oj n (zaw a) k=0
  .rw[z];exact bx _
  .obtain⟨y,hy⟩:=gs k z;rw[hy];exact(hd _).mpr (D.2 _ (zbH y))
 have pos:1<=β/h:=by
  obtain⟨z,hz⟩:=Mc;have e:β/h=z:=by rw[hz];exact aC _ h0
  rw[e]
  by_cases c:β<0
  .rw[aA c] at eh;have hn:h<0:=lC;rcases ū z 1 with q | q
   .have:=Int.mul_nonneg_of_nonpos_of_nonpos (show h<=0 by omega) (show z<=0 by omega);omega
   .exact q
  .rw[ah c] at eh;have hn:0<h:=lC;rcases ū z 1 with q | q
   .have:=Int.mul_nonpos_of_nonneg_of_nonpos (show 0<=h by omega) (show z<=0 by omega);lia
   .exact q
 have T:=tell (N:=n) (n:=m) (g:=s) (f:=zaw a) (b:=β) (h:=h) n1 (zcv la) s1 em gs (fun d d1 d2=>by
   rw[<-es];refine Jc d1 fun x hx=>?_;obtain⟨x0,x1,x2⟩:=yP.mp hx;exact d2 x (by rw[<-bv];exact x2)) h0 Mc hw (fun d d1 d2=>(GS _).mpr (Jc d1 fun x hx=>by
   obtain⟨k,hk⟩:=Vs x hx;rw[hk];exact d2 k)) pos
 have ev:zaw ((rX b m s).map (· / h))=fun k=>oj n (zaw a) (s*k)/h:=funext fun k=>by
  rw[<-wv];unfold zaw;rw[aa];have lt:(k%(rX b m s).length).toNat<(rX b m s).length:=Ld.uu (by rw[uq];omega) k;simp only[List.getD_eq_getElem?_getD,List.getElem?_map,List.getElem?_eq_getElem lt];rfl
 refine⟨h0,Mc,fun x hx=>(hd _).mpr (D.2 x hx),fG O (aU.mpr Mc),⟨by rw[aa,uq],?_,?_,⟨s,Ck⟩,?_⟩⟩
 .rw[ev];exact T.1
 .rw[ev];exact T.2
 .obtain⟨z,hz⟩:=Mc;exact⟨h,by rw[hz,aC _ h0,ay]⟩
def Ob (x h:Int):(x/h).natAbs<=x.natAbs:=Int.natAbs_ediv_le_natAbs x h
def NT {n:Nat}{a b:ń}{ps:ľ}{l:ĺ}{B m s:Nat}(hl:pY n ps l)(n2:n<=420)(ha:zbz (2^B) a)(bv:∀x,zaw b x=R n l (zaw a) x)(h:Int):zbz (2^(8+B)) ((rX b m s).map (· / h)):=fun x hx=>by
 obtain⟨y,hy,e⟩:=ţ.mp hx;unfold rX at hy;obtain⟨t,_,et⟩:=ţ.mp hy;have:=zev (hl.bd n2 ha bv) (((0:Nat):Int)+(t:Int)*s);rw[et] at this;have h2:=Ob y h;rw[<-e];exact aS h2 this
def Tp.uniq {n n':Nat}{f f':ř}{b b':Int}{m m':Nat}{ws pT:ń}{c c':Int}(h:Tp n f b m ws c)(h':Tp n' f' b' m' pT c')(n1:1<=n)(WP:1<=n')(hb:b≠0)(IM:b'≠0)(s:lO n f b n' f' b'):m=m'/\ws=pT/\c=c':=by
 have s2:lO m (zaw ws) c m' (zaw pT) c':=lO.trans h.pln.n1 WP h'.pln.n1 IM (lO.trans h.pln.n1 n1 WP hb h.same.symm s) h'.same;obtain⟨e1,e2,e3⟩:=h.pln.uniq h'.pln s2;refine⟨e1,Ld.ext (by rw[h.len,h'.len,e1]) fun k _=>eR e2 k,e3⟩
def Tp.back {n n':Nat}{f f':ř}{b b':Int}{m m':Nat}{ws pT:ń}{c c':Int}(h:Tp n f b m ws c)(h':Tp n' f' b' m' pT c')(n1:1<=n)(WP:1<=n')(e1:m=m')(e2:ws=pT)(e3:c=c'):lO n f b n' f' b':=by
 subst e1;subst e2;subst e3;have c1:=h.pln.c1;exact lO.trans n1 h.pln.n1 WP lC h.same h'.same.symm
def ui {a:ń}{q:Nat}(hn:0<a.length)(hq:0<q):zaw (zbm a q)=fF q (zaw a):=funext fun x=>Ld.ub hn hq x
def ye {a:ń}(hn:0<a.length)(m:Int):zaw (zbj a m)=fun x=>m*zaw a x:=funext fun x=>by rw[Ld.ur hn,ay]
def xQ {a b:Int}{A B:Nat}(ha:a.natAbs<2^A)(hb:b.natAbs<2^B):(a*b).natAbs<2^(A+B):=by
 rw[aR,fO];exact Nat.mul_lt_mul'' ha hb
def qR {a b:Int}(ha:a≠0)(hb:b≠0):a*b≠0:=fun z=>(fV.mp z).elim ha hb
end Vl
open Vl renaming rX→zdc, Tp→zdq, qR→zfh
namespace Rt
end Rt
namespace Vl
open Rt (fF pY R)
open Pt (Parts)
variable {J m p:Nat}{f g:ř}{b c:Int}{ws:ń}
open Rt (fF)
def Tp.mk' (J1:1<=J)(hb:b≠0)(len:ws.length=m)(p:Mo m (zaw ws) c)(s:lO J f b m (zaw ws) c):Tp J f b m ws c:=by
 refine⟨len,p,s,dE.mp (NH p J1 hb s.symm),?_⟩;have c1:=p.c1;have m1:=p.n1;refine q9 (P:=fun y=>∃k,zaw ws k=y) lC (fun z hz hk=>p.cw z hz fun k=>hk _ ⟨k,Z⟩) fun y ⟨k,hk⟩=>?_;unfold lO at s;rw[p.fix] at s;have e:=eR s (J*k);rw[CM J1] at e;rw[<-hk];exact⟨_,e.symm⟩
def Tp.of {n:Nat}{d:Int}(h:Tp n f b m ws c)(n1:1<=n)(J1:1<=J)(hb:b≠0)(hd:d≠0)(s:lO n f b J g d):Tp J g d m ws c :=
 Tp.mk' J1 hd h.len h.pln (lO.trans J1 n1 h.pln.n1 hb s.symm h.same)
def Q0 (p:Nat)(f g:ř)(a b:Int):fF p (fun x=>a*f x+b*g x)=fun x=>a*fF p f x+b*fF p g x:=by
 rw[Rt.DX,qC,qC]
def Bi {n:Nat}(hp:1<=p)(hf:zbl n f):zbl (p*n) (fF p f):=fun x y e=>by
 obtain⟨e1,e2⟩:=Ld.BK hp e;unfold fF;rw[e1,hf _ _ e2]
def Gf (hf:zbl J f)(hg:zbl J g)(a b:Int):zbl J fun x=>a*f x+b*g x:=fun x y e=>by
 show a*f x+b*g x=_
 rw[hf x y e,hg x y e]
def PV (hg:zbl J g):zbl J (zcu J f g):=fun x y e=>zbc fun j _=>by
 rw[hg (x-j) (y-j) (by rw[dr,e,<-dr])]
def J8 {a b:ń}{n:Nat}(h:b.length=n)(hn:0<n):zaw (zef a b)=zcu n (zaw a) (zaw b):=funext fun x=>Ld.sy h hn x
def up {l q:Nat}(l1:1<=l)(m1:1<=m)(p1:1<=p)(q1:1<=q)(el:l=q*m)(eJ:J=p*l)(hc:c≠0)(lw:ws.length=m)(s:lO J f b m (zaw ws) c):lO J f b J (fF p (zaw (zbm ws q))) c:=by
 have J1:1<=J:=by rw[eJ];exact dI p1 l1
 have s1:=sf m1 q1 (zcv lw) c;have s2:=sf l1 p1 (f:=fF q (zaw ws)) (by rw[el];exact Bi q1 (zcv lw)) c;rw[<-el] at s1;rw[<-eJ] at s2;rw[ui lC q1];exact lO.trans J1 l1 J1 hc (lO.trans J1 m1 l1 hc s s1) s2
def Tp.sum {l m' q q' M:Nat}{d c' C:Int}{pT W:ń}(h:Tp J f b m ws c)(h':Tp J g d m' pT c')(l1:1<=l)(p1:1<=p)(q1:1<=q)(IG:1<=q')(el:l=q*m)(DP:l=q'*m')(eJ:J=p*l)(hb:b≠0)(hd:d≠0)
 (T:Tp l (zaw (zdb (zbj (zbm ws q) c') (zbj (zbm pT q') c))) (c*c') M W C):Tp J (fun x=>d*f x+b*g x) (b*d) M W C:=by
  have J1:1<=J:=by rw[eJ];exact dI p1 l1
  have c1:=h.pln.c1;have zC:=h'.pln.c1;have lf:(zbm ws q).length=l:=by rw[zed,h.len,el]
  have Ff:(zbm pT q').length=l:=by rw[zed,h'.len,DP]
  have u1:=up l1 h.pln.n1 p1 q1 el eJ lC h.len h.same;have u2:=up l1 h'.pln.n1 p1 IG DP eJ lC h'.len h'.same;have s:=Li J1 u1 u2;have eF:zaw (zdb (zbj (zbm ws q) c') (zbj (zbm pT q') c))=fun x=>c'*zaw (zbm ws q) x+c*zaw (zbm pT q') x:=funext fun x=>by
    rw[Ld.sF (by rw[zfm,zfm,lf,Ff]) (by rw[zfm];omega),ye lC,ye lC]
  rw[eF] at T;have pF:zbl l fun x=>c'*zaw (zbm ws q) x+c*zaw (zbm pT q') x:=Gf (zcv lf) (zcv Ff) _ _;have s2:=sf l1 p1 pF (c*c');rw[<-eJ,Q0] at s2;exact T.of l1 J1 (qR lC lC) (qR hb hd) (lO.trans l1 J1 J1 (qR lC lC) s2 s.symm)
def Tp.prod {l m' q q' M:Nat}{d c' C:Int}{pT W:ń}(h:Tp J f b m ws c)(h':Tp J g d m' pT c')(hf:zbl J f)(hg:zbl J g)(l1:1<=l)(p1:1<=p)(q1:1<=q)(IG:1<=q')(el:l=q*m)(DP:l=q'*m')(eJ:J=p*l)(hb:b≠0)(hd:d≠0)
 (T:Tp l (zaw (zef (zbm ws q) (zbm pT q'))) (c*c') M W C):Tp J (zcu J f g) (b*d) M W C:=by
  have J1:1<=J:=by rw[eJ];exact dI p1 l1
  have c1:=h.pln.c1;have zC:=h'.pln.c1;have lf:(zbm ws q).length=l:=by rw[zed,h.len,el]
  have Ff:(zbm pT q').length=l:=by rw[zed,h'.len,DP]
  have u1:=up l1 h.pln.n1 p1 q1 el eJ lC h.len h.same;have u2:=up l1 h'.pln.n1 p1 IG DP eJ lC h'.len h'.same;have pu:zbl J (fF p (zaw (zbm ws q))):=by rw[eJ];exact Bi p1 (zcv lf)
  have pu':zbl J (fF p (zaw (zbm pT q'))):=by rw[eJ];exact Bi p1 (zcv Ff)
  have s:=HE J1 hf hg pu pu' u1 u2;have lc:(zef (zbm ws q) (zbm pT q')).length=l:=by rw[Ld.oH,Ff]
  have s2:=sf l1 p1 (zcv lc) (c*c');rw[<-eJ,<-ui lC p1,Ld.LO lf Ff l1 p1,J8 (a:=zbm (zbm ws q) p) (b:=zbm (zbm pT q') p) (n:=J) (by rw[zed,Ff,eJ]) J1,ui lC p1,ui lC p1] at s2;exact T.of l1 J1 (qR lC lC) (qR hb hd) (lO.trans l1 J1 J1 (qR lC lC) s2 s.symm)
def Tp.whole (J1:1<=J)(k:Int):Tp J (fun x=>k*HM J 0 x) 1 1 [k] 1:=by
 have e:zaw [k]=fun _=>k:=funext fun x=>by
  have e1:x%(([k]:ń).length:Int)=0:=by show x%(1:Int)=0;exact Int.emod_one x
  unfold zaw;rw[e1];rfl
 refine Tp.mk' J1 L Z (by rw[e];exact Ho k) ?_;rw[e];have s:=sf (N:=1) (p:=J) (aG 1) J1 (f:=fun _=>k) (fun _ _ _=>Z) 1;rw[ip,Tk] at s;exact s.symm
def JE {m':Nat}(J1:1<=J)(h:m∣J)(h':m'∣J):∃l p q q':Nat,ă m m'=l/\1<=l/\1<=p/\1<=q/\1<=q'/\l=q*m/\l=q'*m'/\J=p*l:=by
 obtain⟨p,hp⟩:=Nat.lcm_dvd h h';obtain⟨q,hq⟩:=Ķ m m';obtain⟨q',zV⟩:=Į m m';have z:∀{x:Nat},¬x=0->1<=x:=fun h=>Nat.pos_of_ne_zero h;have l0:¬ă m m'=0:=fun z=>by rw[z,Ĕ] at hp;omega
 refine⟨ă m m',p,q,q',Z,z l0,z fun e=>?_,z fun e=>?_,z fun e=>?_,by rw[dJ];exact hq,by rw[dJ];exact zV,by rw[dJ];exact hp⟩
 .rw[e,hZ] at hp;omega
 .rw[e,hZ] at hq;exact l0 hq
 .rw[e,hZ] at zV;exact l0 zV
def OR {n m:Nat}{f:ř}{b c:Int}{ws:ń}{C:Nat}(t:Tp n f b m ws c)(b0:b≠0)(h:b.natAbs<2^C):c.natAbs<2^C:=bL (fG lC (aU.mpr t.cb)) h
def xX {J:Nat}(J1:1<=J){f g:ř}(hf:zbl J f)(hg:zbl J g):zcu J f g=zcu J g f:=funext fun x=>by
 have h:=Ld.Je (n:=J) J1 (F:=fun j=>f j*g (x-j)) (Ld.A9 hf (Ld.wH hg x)) x;unfold zcu;rw[<-h];refine zbc fun j _=>?_;show f (x-j)*g (x-(x-j))=g j*f (x-j)
 rw[ay,show x-(x-(j:Int))=j by omega]
def NY {J:Nat}(f g:ř)(a:Int):zcu J f (fun x=>a*g x)=fun x=>a*zcu J f g x:=by
 have:=JR J f g 1 a;simpa using this
def Qn {J:Nat}(J1:1<=J){f:ř}(hf:zbl J f)(k:Int):zcu J f (fun x=>k*HM J 0 x)=fun x=>k*f x:=by
 rw[NY];funext x;congr 1;have e:zcu J f (HM J 0) x=zag J fun j=>f j*(if (J:Int)∣j-x then 1 else 0):=zbc fun j _=>by
  unfold HM;congr 1;rw[cS];have:((J:Int)∣x-j)↔((J:Int)∣j-x):=by
   rw[show (j:Int)-x=-(x-j) by omega];exact dZ.symm
  by_cases c:(J:Int)∣x-j
  .rw[aA c,aA (this.mp c)]
  .rw[ah c,ah (fun z=>c (this.mpr z))]
 rw[e];exact Rt.SM J1 hf x
def Du (J:Nat)(k:Int):zbl J fun x=>k*HM J 0 x:=fun x y e=>by show k*_=k*_;rw[NS J 0 x y e]
end Vl
namespace L2
variable {H:Hp}{J B C:Nat}{f:ř}{b:Int}{t:Addr}
open PySem PySem.Spec PyProof.Rows
def Va (H:Hp)(J:Nat)(f:ř)(b:Int)(B C:Nat)(t:Addr):Prop:=∃(m:Nat)(ws:ń)(c:Int),qJ H t m ws c/\zdq J f b m ws c/\zbz (2^B) ws/\c.natAbs<2^C/\zbl J f/\b≠0
def Va.mk {m:Nat}{ws:ń}{c:Int}(h:qJ H t m ws c)(tp:zdq J f b m ws c)(bd:zbz (2^B) ws)(cb:c.natAbs<2^C)(p:zbl J f)(b0:b≠0):Va H J f b B C t:=⟨m,ws,c,h,tp,bd,cb,p,b0⟩
def Va.DC {n p:Nat}{ld:ń}{m:Nat}{ws:ń}{c:Int}(h:qJ H t m ws c)(tp:zdq n (zaw ld) b m ws c)(bd:zbz (2^B) ws)(ll:ld.length=n)(n1:1<=n)(J1:1<=J)(eJ:J=p*n)(p1:1<=p)(b0:b≠0)(bC:b.natAbs<2^C):Va H J (Rt.fF p (zaw ld)) b B C t :=
 ⟨m,ws,c,h,tp.of n1 J1 b0 b0 (by rw[eJ];exact Vl.sf n1 p1 (zcv ll) b),bd,Vl.OR tp b0 bC,by rw[eJ];exact Vl.Bi p1 (zcv ll),b0⟩
def Va.same {H H':Hp}{J:Nat}{f:ř}{b:Int}{B C:Nat}{t:Addr}(v:Va H J f b B C t)(s:lO H H'):Va H' J f b B C t:=let ⟨m,ws,c,h,r⟩:=v;⟨m,ws,c,h.same s,r⟩
def Va.mono {B' C':Nat}(v:Va H J f b B C t)(hB:B<=B')(hC:C<=C'):Va H J f b B' C' t :=
 let ⟨m,ws,c,h,tp,bd,cb,r⟩:=v;⟨m,ws,c,h,tp,Ld.pP bd (bR L hB),bK cb (bR L hC),r⟩
def Va.iff {g:ř}{d:Int}{B' C':Nat}{t':Addr}{K:zfq}(v:Va H J f b B C t)(v':Va H J g d B' C' t')(J1:1<=J)(s:Vl.lO J f b J g d){Q:VK}(q:Q (.bl true) H):Nq K (.ref t) (.ref t') H Q:=by
 obtain⟨m,ws,c,h,tp,_,_,_,b0⟩:=v;obtain⟨m',pT,c',h',Cb,_,_,_,d0⟩:=v';obtain⟨e1,e2,e3⟩:=tp.uniq Cb J1 J1 b0 d0 s;exact QR h h' (by rw[cB (by exact⟨by rw[e1],e2,e3⟩)];exact q)
def Va.ne {g:ř}{d:Int}{B' C':Nat}{t':Addr}{K:zfq}(v:Va H J f b B C t)(v':Va H J g d B' C' t')(J1:1<=J)(s:Vl.lO J f b J g d){Q:VK}(q:Q (.bl false) H):LP K (.ref t) (.ref t') H Q:=by
 obtain⟨m,ws,c,h,tp,_,_,_,b0⟩:=v;obtain⟨m',pT,c',h',Cb,_,_,_,d0⟩:=v';obtain⟨e1,e2,e3⟩:=tp.uniq Cb J1 J1 b0 d0 s;exact PZ h h' (by rw[cB (by exact⟨by rw[e1],e2,e3⟩)];exact q)
def Va.whole {H:Hp}{J:Nat}(J1:1<=J){k:Int}{t:Addr}{B:Nat}(h:qJ H t 1 [k] 1)(kb:k.natAbs<=2^B):Va H J (fun x=>k*Vl.HM J 0 x) 1 B 1 t :=
 ⟨1,[k],1,h,Vl.Tp.whole J1 k,fun x hx=>by rw[cm.mp hx];exact kb,L,Vl.Du J k,L⟩
def NI (lo:ŕ)(n s:Nat)(hs:0<s):(sliceRange (sliceBounds lo none (some (s:Int)) n).1 (sliceBounds lo none (some (s:Int)) n).2.1 (sliceBounds lo none (some (s:Int)) n).2.2).length<=n:=by
 have s0:(s:Int) > 0:=lC;have h0:0<=(sliceBounds lo none (some (s:Int)) n).1:=by
  unfold sliceBounds;cases lo with
  | none=>simp[hs]
  | some i=>simp only[ù,s0,if_true];omega
 have h1:(sliceBounds lo none (some (s:Int)) n).2.1=n:=by unfold sliceBounds;simp;omega
 have h2:(sliceBounds lo none (some (s:Int)) n).2.2=s:=Z;rw[h1,h2];unfold sliceRange;rw[aa,fZ];simp only[s0,if_true];generalize (sliceBounds lo none (some (s:Int)) n).1=a at h0;split
 .have e:(n:Int)-a+s-1=(n-a-1)+s:=lC;have e2:((n:Int)-a-1+s)/s=(n-a-1)/s+1:=Int.add_ediv_of_dvd_right (cq _) |>.trans (by rw[Int.ediv_self lC]);have e3:=cx (s:Int) (show 0<=(n:Int)-a-1 by omega);rw[e,e2];omega
 .omega
section
variable {X:Cx}{e:Expr}{te:TE}{lo:Option Expr}{es:Expr}{tl ts:TO}{pos p2:Pos}
inductive P5 (K:zfq)(Q:VK)(x:V)(st:ŕ)(H3:Hp):Prop
 | mk (a:Addr)(ns:ń)(s:Nat)(_:x=.ref a)(_:st=some (s:Int))(_:mj K H3 a (ns.map zad))(_:0<s)(_:∀p (ms:ń),H3 p=none->ms.length<=ns.length->Q (.ref p) (upd H3 p (.lst (ms.map zad))))
def ZU (K:zfq)(te:TE)(tl ts:TO):TE:=fun σ H Q=>te σ H fun x H1=>tl σ H1 fun _ H2=>ts σ H2 fun st H3=>P5 K Q x st H3
def Ah {K:zfq}(hK:X.K=K)(he:PE X e te)(hl:PO X lo tl)(uX:PO X (some es) ts):PE X (.Subscript e (.Slice lo none (some es) p2) pos) (ZU K te tl ts):=by
 subst hK;intro â s σ H Q I h;refine Subscript_ (oR (he â s σ H _ I h) fun v s1 ⟨x,H1,I1,r1,q1⟩=>?_);refine kY (oR (hl â s1 σ H1 _ I1 q1) fun vl s2 ⟨l,H2,I2,pl,q2⟩=>?_);rw[ja];refine dh ?_;refine oR (uX â s2 σ H2 _ I2 q2) fun vt s3 ⟨t,H3,I3,pt,q3⟩=>?_;obtain⟨a,ns,s0,rfl,AX,hq,RF,q⟩:=q3;subst AX;cases r1;obtain⟨its,rv,ht,hz⟩:=I3.list hq;have I4:Inv X â σ H3 { s3 with heap:=s3.heap.push { cls:=.type "slice",data:=.fields #[vl,.none,vt] } }:=I3.kept (t':=s3.toks) fun b ob q=>aM _ q;have Vq:({ s3 with heap:=s3.heap.push { cls:=.type "slice",data:=.fields #[vl,.none,vt] } }:Shared).heap.IsList a its.toArray:=by
  obtain⟨its',Si,Cj,_⟩:=I4.list hq;have:its'=its:=by
   have e1:=ht.isList;obtain⟨o,ho,hc,n,hd⟩:=e1;obtain⟨o',E8,wQ,n',GS⟩:=Cj.isList;have Vr:=aM { cls:=.type "slice",data:=.fields #[vl,.none,vt] } ho;rw[show (s3.heap.push { cls:=.type "slice",data:=.fields #[vl,.none,vt] }).get? a=_ from E8] at Vr;cases Vr;rw[GS] at hd;injection hd with hd;have:=cA ħ hd;simpa using this
  rw[<-this];exact Cj.isList
 have len:=rv.length;rw[aa] at len;show wpAny (model X.prog X.w) X.A (subscriptTail e (.Slice lo none (some es) p2) (.ref a) (.ref s3.heap.objs.size)) (EP X â σ Q) X.xe { s3 with heap:=s3.heap.push { cls:=.type "slice",data:=.fields #[vl,.none,vt] } }
 refine tail_any (ops:=[.ref a,.ref s3.heap.objs.size]) (T:="list") Vq.typeIs slot_list_getitem.lookup ?_ (by with_unfolding_all rfl);rw[aa] at hz;refine iE (st:=some (s0:Int)) Vq (jf ..) pl .none pt (by simp;omega) ?_ (by rw[ź,<-len];exact hz);have pv:=wD rv (sliceRange (sliceBounds l none (some (s0:Int)) its.toArray.size).1 (sliceBounds l none (some (s0:Int)) its.toArray.size).2.1 (sliceBounds l none (some (s0:Int)) its.toArray.size).2.2);have bl:=NI l its.toArray.size s0 RF;generalize hs:sliceRange (sliceBounds l none (some (s0:Int)) its.toArray.size).1 (sliceBounds l none (some (s0:Int)) its.toArray.size).2.1 (sliceBounds l none (some (s0:Int)) its.toArray.size).2.2=is at pv bl;have ml:(is.filterMap fun i=>ns[i]?).length<=ns.length:=by
  refine aS (List.length_filterMap_le _ _) ?_;rw[cf] at bl;omega
 unfold slicePick;rw[hs];have I5:Inv X â σ H3 { s3 with heap:=s3.heap.push { cls:=.type "slice",data:=.fields #[vl,.none,vt] } }:=I4;refine⟨.ref _,_,I4.laid (t':=s3.toks) (o:=.lst ((is.filterMap fun i=>ns[i]?).map zad)) (fun b ob q=>aM _ q) (aG _) ?_,Z,q _ _ (I4.hok.fresh (aG _)) ml⟩;exact⟨by rw[aa];exact aS ml hz,_,0,pv,bV _ Z⟩
end
end L2
namespace Ct
open Rt
open Lt
def KA {n:Nat}{l:ĺ}{ld os W:ń}{bs:ĸ}{s:Int}(lo:os.length=bs.length)(ev:∀x,R n l (zaw ld) x=zag bs.length fun j=>g os j.toNat*R n l (zaw (bs.getD j.toNat [])) x)(lW:W.length=(qG n l).length)
  (hb:zea (bs.map (kr n l)) (zbj (kr n l ld) (-1)) W s):e8:=by
 have lk:∀y∈bs.map (kr n l),y.length=(qG n l).length:=fun y hy=>by
  obtain⟨b,_,rfl⟩:=ţ.mp hy;exact rL
 refine Rx.TJ lk (by unfold zbj;rw[š,rL]) lW (cnts:=os.map fun x=>-x) (fun c hc=>?_) hb;rw[aa];have e2:g (zbj (kr n l ld) (-1)) c=-R n l (zaw ld) (g (qG n l) c):=zdo (by
  unfold zbj;rw[af,zdv (by rw[rL];exact hc),J9 hc];exact cA some (jm _))
 rw[e2,ev,show ∀z:Int,-z=-1*z from fun z=>by lia,<-zbk];refine zbc fun j hj=>?_;rw[ae,ak,af,zdx hj,jo,i9,J9 hc,zdo (l:=os.map fun x=>-x) (v:=-g os j) zoi,<-aE];congr 1;lia
end Ct
namespace K94
variable {l:PySem.W.OpenLaw}
open PySem L2
section
variable {a b c d e f g h:TS}{E:Ends}{s:St}{H:Hp}
def R5 (k:let D:=E;a D s H):a E s H:=k
def zo (k:let D:=E;let z1:=b;nX a z1 D s H):nX a b E s H:=k
def xi (k:let D:=E;let z2:=c;let z1:=nX b z2;nX a z1 D s H):nX a (nX b c) E s H:=k
def II (k:let D:=E;let z3:=d;let z2:=nX c z3;let z1:=nX b z2;nX a z1 D s H):nX a (nX b (nX c d)) E s H:=k
def R4 (k:let D:=E;let z4:=e;let z3:=nX d z4;let z2:=nX c z3;let z1:=nX b z2;nX a z1 D s H):nX a (nX b (nX c (nX d e))) E s H:=k
def Wx (k:let D:=E;let z6:=g;let z5:=nX f z6;let z4:=nX e z5;let z3:=nX d z4;let z2:=nX c z3;let z1:=nX b z2;nX a z1 D s H):nX a (nX b (nX c (nX d (nX e (nX f g))))) E s H:=k
def sq7 (k:let D:=E;let z7:=h;let z6:=nX g z7;let z5:=nX f z6;let z4:=nX e z5;let z3:=nX d z4;let z2:=nX c z3;let z1:=nX b z2;nX a z1 D s H):nX a (nX b (nX c (nX d (nX e (nX f (nX g h)))))) E s H:=k
def xT {X:Cx}{body:List Stmt}{R:TS->Prop}(n:Nat)(h:xc X (body.drop n) a)(k:let b:TS:=a;xc X (body.drop n) b->∃t,xc X body t/\R t):∃t,xc X body t/\R t:=k h
def pkD {X:Cx}{body:List Stmt}(k:let D:Ends:=E;∃t,xc X body t/\t D s H):∃t,xc X body t/\t E s H:=k
end
def top (i:Nat):Stmt:=PySem.Challenge.pw_evenhub_k94_whole_counterweights_as_valu.main.body.getD i (.Pass ⟨0,0,0,0⟩)
abbrev Av:Stmt:=top 10
def EK:lZ ["one","other","great","small","left"] ["one","other"] (lU Av):=⟨Z,Z,Z,lh,Z,lh,lh⟩
abbrev Fq:Stmt:=top 11
def Kc:lZ ["one","other"] ["one","other"] (lU Fq):=⟨Z,Z,Z,lh,Z,lh,lh⟩
abbrev CK:Stmt:=top 12
def HY:lZ ["one","other","bits","rests","counts","turn"] ["one","other","bits"] (lU CK):=⟨Z,Z,Z,lh,Z,lh,lh⟩
abbrev wS:Stmt:=top 13
def BM:lZ ["pair","turn"] ["pair","turn"] (lU wS):=⟨Z,Z,Z,lh,Z,lh,lh⟩
abbrev wZ:Stmt:=top 14
def BV:lZ ["rests","bits","length","behind","turn"] ["rests","bits"] (lU wZ):=⟨Z,Z,Z,lh,Z,lh,lh⟩
abbrev wU:Stmt:=top 15
def Bx:lZ ["rest","later_rest","turn","many","new_rest","further","doubt"] ["rest","later_rest"] (lU wU):=⟨Z,Z,Z,lh,Z,lh,lh⟩
abbrev LJ:Stmt:=top 18
def MR:lZ ["n","hole","weight","outcome"] ["n","hole","weight"] (lU LJ):=⟨Z,Z,Z,lh,Z,lh,lh⟩
abbrev KH:Stmt:=top 19
def NO:lZ ["one","other"] ["one","other"] (lU KH):=⟨Z,Z,Z,lh,Z,lh,lh⟩
abbrev w6:Stmt:=top 20
def Bp:lZ ["one","other"] ["one","other"] (lU w6):=⟨Z,Z,Z,lh,Z,lh,lh⟩
abbrev CY:Stmt:=top 21
def HZ:lZ ["load","many"] ["load","many"] (lU CY):=⟨Z,Z,Z,lh,Z,lh,lh⟩
abbrev As:Stmt:=top 22
def D8:lZ ["one","other","borne"] ["one","other"] (lU As):=⟨Z,Z,Z,lh,Z,lh,lh⟩
abbrev Aq:Stmt:=top 23
def D7:lZ ["borne","other","place","n"] ["borne","other","place"] (lU Aq):=⟨Z,Z,Z,lh,Z,lh,lh⟩
abbrev FG:Stmt:=top 24
def IW:lZ ["load","many","n","outcome","hole","weight"] ["load","many"] (lU FG):=⟨Z,Z,Z,lh,Z,lh,lh⟩
abbrev FL:Stmt:=top 26
def Jm:lZ ["n","found","left","p","q"] ["n"] (lU FL):=⟨Z,Z,Z,lh,Z,lh,lh⟩
abbrev uS:Stmt:=top 27
def yn:lZ ["n","p","q"] ["n","p"] (lU uS):=⟨Z,Z,Z,lh,Z,lh,lh⟩
abbrev LZ:Stmt:=top 28
def M5:lZ ["step","n","told"] ["step","n"] (lU LZ):=⟨Z,Z,Z,lh,Z,lh,lh⟩
abbrev zd:Stmt:=top 30
def C3:lZ ["load","p","hole","many","place"] ["load","p","hole","many"] (lU zd):=⟨Z,Z,Z,lh,Z,lh,lh⟩
abbrev vJ:Stmt:=top 31
def zM:lZ ["n","p","hole","step"] ["n","p","hole"] (lU vJ):=⟨Z,Z,Z,lh,Z,lh,lh⟩
abbrev Gz:Stmt:=top 33
def JT:lZ ["n","q","hole"] ["n","q","hole"] (lU Gz):=⟨Z,Z,Z,lh,Z,lh,lh⟩
abbrev AJ:Stmt:=top 34
def EE:lZ ["n","hole"] ["n","hole"] (lU AJ):=⟨Z,Z,Z,lh,Z,lh,lh⟩
abbrev sU:Stmt:=top 35
def wG:lZ ["p","q"] ["p","q"] (lU sU):=⟨Z,Z,Z,lh,Z,lh,lh⟩
abbrev Jy:Stmt:=top 36
def Nz:lZ ["n"] ["n"] (lU Jy):=⟨Z,Z,Z,lh,Z,lh,lh⟩
abbrev Lj:Stmt:=top 37
def N5:lZ ["load","n","left","rows","p","q","hole","many"] ["load"] (lU Lj):=⟨Z,Z,Z,lh,Z,lh,lh⟩
abbrev Ab:Stmt:=top 38
def Eu:lZ ["n","p","q","lead"] ["n","p","q"] (lU Ab):=⟨Z,Z,Z,lh,Z,lh,lh⟩
abbrev Ag:Stmt:=top 40
def Ee:lZ ["load","weights"] ["load","weights"] (lU Ag):=⟨Z,Z,Z,lh,Z,lh,lh⟩
abbrev yf:Stmt:=top 41
def C4:lZ ["n","hole","outcome","p","q","factors","lead"] ["n","hole"] (lU yf):=⟨Z,Z,Z,lh,Z,lh,lh⟩
abbrev tu:Stmt:=top 42
def wc:lZ ["p","q","kept_share","step","factors"] ["p","q","kept_share"] (lU tu):=⟨Z,Z,Z,lh,Z,lh,lh⟩
abbrev Dq:Stmt:=top 45
def Hi:lZ ["things","places"] ["things","places"] (lU Dq):=⟨Z,Z,Z,lh,Z,lh,lh⟩
abbrev Cu:Stmt:=top 46
def G9:lZ ["size","places","numbers","outcome","place","number"] ["size","places","numbers"] (lU Cu):=⟨Z,Z,Z,lh,Z,lh,lh⟩
abbrev AR:Stmt:=top 47
def EW:lZ ["rows"] ["rows"] (lU AR):=⟨Z,Z,Z,lh,Z,lh,lh⟩
abbrev xa:Stmt:=top 48
def BZ:lZ ["rows","column"] ["rows","column"] (lU xa):=⟨Z,Z,Z,lh,Z,lh,lh⟩
abbrev AU:Stmt:=top 49
def Eo:lZ ["steps","prime","found","number","step","left","column"] ["steps","prime"] (lU AU):=⟨Z,Z,Z,lh,Z,lh,lh⟩
abbrev At:Stmt:=top 50
def E7:lZ ["step","found","prime","left","number","column","row"] ["step","found","prime"] (lU At):=⟨Z,Z,Z,lh,Z,lh,lh⟩
abbrev ua:Stmt:=top 51
def xr:lZ ["row","column","number"] ["row"] (lU ua):=⟨Z,Z,Z,lh,Z,lh,lh⟩
abbrev yV:Stmt:=top 52
def C7:lZ ["row","many","other","modulus"] ["row","many","other","modulus"] (lU yV):=⟨Z,Z,Z,lh,Z,lh,lh⟩
abbrev uI:Stmt:=top 53
def yo:lZ ["row","many","modulus"] ["row","many","modulus"] (lU uI):=⟨Z,Z,Z,lh,Z,lh,lh⟩
abbrev uL:Stmt:=top 54
def zq:lZ ["rows","modulus","size","left","column","lead"] ["rows","modulus"] (lU uL):=⟨Z,Z,Z,lh,Z,lh,lh⟩
abbrev CT:Stmt:=top 55
def Im:lZ ["rows","undoing","modulus","goal","rests","told","left","scale","many","count","more"] ["rows","undoing","modulus","goal"] (lU CT):=⟨Z,Z,Z,lh,Z,lh,lh⟩
abbrev uN:Stmt:=top 56
def y4:lZ ["rows","goal","told"] ["rows","goal","told"] (lU uN):=⟨Z,Z,Z,lh,Z,lh,lh⟩
abbrev wV:Stmt:=top 57
def BX:lZ ["rests","scale","bits","bottom","number"] ["rests","scale"] (lU wV):=⟨Z,Z,Z,lh,Z,lh,lh⟩
abbrev tX:Stmt:=top 58
def xn:lZ ["number","scale","bits"] ["number","scale","bits"] (lU tX):=⟨Z,Z,Z,lh,Z,lh,lh⟩
abbrev AI:Stmt:=top 59
def EV:lZ ["number","scale","rest"] ["number","scale"] (lU AI):=⟨Z,Z,Z,lh,Z,lh,lh⟩
abbrev FI:Stmt:=top 62
def Jr:lZ ["steps","goal","prime","told"] ["steps","goal"] (lU FI):=⟨Z,Z,Z,lh,Z,lh,lh⟩
abbrev vm:Stmt:=top 63
def zR:lZ ["number","found"] ["number"] (lU vm):=⟨Z,Z,Z,lh,Z,lh,lh⟩
abbrev y7:Stmt:=top 64
def C8:lZ ["steps","goal","told"] ["steps","goal","told"] (lU y7):=⟨Z,Z,Z,lh,Z,lh,lh⟩
abbrev Dl:Stmt:=top 65
def Ib:lZ ["steps","counts","size","outcome","step","many"] ["steps","counts","size"] (lU Dl):=⟨Z,Z,Z,lh,Z,lh,lh⟩
abbrev sk:Stmt:=top 66
def v5:lZ ["steps","bar","number","step"] ["steps","bar"] (lU sk):=⟨Z,Z,Z,lh,Z,lh,lh⟩
abbrev AB:Stmt:=top 67
def EX:lZ ["modulus","number"] ["modulus","number"] (lU AB):=⟨Z,Z,Z,lh,Z,lh,lh⟩
abbrev DH:Stmt:=top 68
def Ip:lZ ["steps","goal","prime","frame","column","told","weights"] ["steps","goal","prime"] (lU DH):=⟨Z,Z,Z,lh,Z,lh,lh⟩
abbrev sX:Stmt:=top 69
def wI:lZ ["steps","frame","goal_made","others","told","number"] ["steps","frame","goal_made"] (lU sX):=⟨Z,Z,Z,lh,Z,lh,lh⟩
abbrev uM:Stmt:=top 70
def yY:lZ ["others","steps","frame","goal_made","modulus","number","made","rows","goal","leads","left","column","lead","taken","spared","counts"] ["others","steps","frame","goal_made"] (lU uM):=⟨Z,Z,Z,lh,Z,lh,lh⟩
abbrev tY:Stmt:=top 71
def xw:lZ ["made","modulus"] ["made","modulus"] (lU tY):=⟨Z,Z,Z,lh,Z,lh,lh⟩
abbrev zf:Stmt:=top 72
def Cn:lZ ["rows","size","modulus","leads","number","row"] ["rows","size","modulus"] (lU zf):=⟨Z,Z,Z,lh,Z,lh,lh⟩
abbrev Aa:Stmt:=top 73
def En:lZ ["leads","row","modulus","outcome","left","column","lead","told","many"] ["leads","row","modulus"] (lU Aa):=⟨Z,Z,Z,lh,Z,lh,lh⟩
abbrev FV:Stmt:=top 74
def Kj:lZ ["one","many","other","more","modulus"] ["one","many","other","more","modulus"] (lU FV):=⟨Z,Z,Z,lh,Z,lh,lh⟩
abbrev Au:Stmt:=top 75
def EH:lZ ["leads","column","modulus","amounts","place","lead","later"] ["leads","column","modulus"] (lU Au):=⟨Z,Z,Z,lh,Z,lh,lh⟩
abbrev wY:Stmt:=top 76
def B4:lZ ["frame","amounts","told"] ["frame","amounts"] (lU wY):=⟨Z,Z,Z,lh,Z,lh,lh⟩
abbrev Ae:Stmt:=top 79
def ET:lZ ["load","blocks","block","n","holes","told"] ["load","blocks"] (lU Ae):=⟨Z,Z,Z,lh,Z,lh,lh⟩
abbrev xj:Stmt:=top 80
def Bm:lZ ["load","holes","left"] ["load","holes"] (lU xj):=⟨Z,Z,Z,lh,Z,lh,lh⟩
abbrev tj:Stmt:=top 81
def wu:lZ ["n","holes","weights","outcome","hole","many"] ["n","holes","weights"] (lU tj):=⟨Z,Z,Z,lh,Z,lh,lh⟩
abbrev Gx:Stmt:=top 83
def Lz:lZ ["load","bottom","left","n","step","weights","by"] ["load","bottom"] (lU Gx):=⟨Z,Z,Z,lh,Z,lh,lh⟩
abbrev r6:Stmt:=top 84
def vP:lZ ["first","others","outcome","number"] ["first","others"] (lU r6):=⟨Z,Z,Z,lh,Z,lh,lh⟩
abbrev GK:Stmt:=top 85
def LQ:lZ ["many"] ["many"] (lU GK):=⟨Z,Z,Z,lh,Z,lh,lh⟩
abbrev Ue:Stmt:=top 86
def UM:lZ ["x","n"] ["x","n"] (lU Ue):=⟨Z,Z,Z,lh,Z,lh,lh⟩
abbrev uQ:Stmt:=top 87
def y3:lZ ["x","y","n"] ["x","y"] (lU uQ):=⟨Z,Z,Z,lh,Z,lh,lh⟩
abbrev CO:Stmt:=top 88
def He:lZ ["x","y","n"] ["x","y","n"] (lU CO):=⟨Z,Z,Z,lh,Z,lh,lh⟩
abbrev FZ:Stmt:=top 89
def LK:lZ ["x","y","n"] ["x","y"] (lU FZ):=⟨Z,Z,Z,lh,Z,lh,lh⟩
abbrev FX:Stmt:=top 90
def Kk:lZ ["x","y","n"] ["x","y"] (lU FX):=⟨Z,Z,Z,lh,Z,lh,lh⟩
abbrev uJ:Stmt:=top 92
def yv:lZ ["script","k"] ["script","k"] (lU uJ):=⟨Z,Z,Z,lh,Z,lh,lh⟩
abbrev yX:Stmt:=top 93
def Dc:lZ ["cell","most","left"] ["cell","most"] (lU yX):=⟨Z,Z,Z,lh,Z,lh,lh⟩
abbrev vC:Stmt:=top 94
def zE:lZ ["found"] ["found"] (lU vC):=⟨Z,Z,Z,lh,Z,lh,lh⟩
abbrev vS:Stmt:=top 95
def zS:lZ ["n","made","left","p"] ["n"] (lU vS):=⟨Z,Z,Z,lh,Z,lh,lh⟩
abbrev yw:Stmt:=top 96
def Cv:lZ ["n","cells","step","most","load","k","at"] ["n","cells","step","most"] (lU yw):=⟨Z,Z,Z,lh,Z,lh,lh⟩
abbrev vo:Stmt:=top 97
def zL:lZ ["load","weights","total","k"] ["load","weights"] (lU vo):=⟨Z,Z,Z,lh,Z,lh,lh⟩
abbrev Dh:Stmt:=top 98
def Hc:lZ ["number","modulus"] ["number","modulus"] (lU Dh):=⟨Z,Z,Z,lh,Z,lh,lh⟩
abbrev Az:Stmt:=top 99
def Ew:lZ ["told","load","blocks","n","one","p","hole","block"] ["told","load","blocks"] (lU Az):=⟨Z,Z,Z,lh,Z,lh,lh⟩
abbrev Aw:Stmt:=top 100
def Ej:lZ ["told","load","blocks","x","k"] ["told","load","blocks"] (lU Aw):=⟨Z,Z,Z,lh,Z,lh,lh⟩
abbrev JO:Stmt:=top 101
def Ja:lZ ["script","n","cell","many","cells","blocks","k","load","made","often","p","at","told","more","again"] ["script"] (lU JO):=⟨Z,Z,Z,lh,Z,lh,lh⟩
abbrev vI:Stmt:=inClass (top 44) 0
def uU:lZ ["self","steps","size","prime"] ["self","steps","size","prime"] (lU vI):=⟨Z,Z,Z,lh,Z,lh,lh⟩
abbrev tJ:Stmt:=inClass (top 44) 1
def tf:lZ ["self","goal"] ["self","goal"] (lU tJ):=⟨Z,Z,Z,lh,Z,lh,lh⟩
abbrev tO:Stmt:=inClass (top 44) 2
def sY:lZ ["self","goal"] ["self","goal"] (lU tO):=⟨Z,Z,Z,lh,Z,lh,lh⟩
abbrev sZ:Stmt:=inClass (top 44) 3
def si:lZ ["self","amounts","told"] ["self","amounts"] (lU sZ):=⟨Z,Z,Z,lh,Z,lh,lh⟩
structure Txt (K:zfq)(mg:ś)(CF:Addr)(cN:Nat->Nat):Prop where
 zez:mg "LEAD_BITS"=some (.int 128 (cN 0))
 zfr:mg "FIRST_PRIME"=some (.int 1000000007 (cN 1))
 zfs:mg "MOST_HOLES_COUNTERED"=some (.int 60 (cN 2))
 zft:mg "MOST_HOLES"=some (.int 420 (cN 3))
 zfu:mg "Frame"=some (.ref CF)
 zfv:Dn K mg "divisor" Av ["one","other"]
 zfw:Dn K mg "joint" Fq ["one","other"]
 zfx:Dn K mg "euclid" CK ["one","other","bits"]
 zfy:Dn K mg "turned_on" wS ["pair","turn"]
 zfz:Dn K mg "next_turn" wZ ["rests","bits"]
 zga:Dn K mg "sure_turn" wU ["rest","later_rest"]
 zgb:Dn K mg "hung" LJ ["n","hole","weight"]
 zgc:Dn K mg "plus" KH ["one","other"]
 zgd:Dn K mg "check_fit" w6 ["one","other"]
 zge:Dn K mg "scaled" CY ["load","many"]
 zgf:Dn K mg "laid_on" As ["one","other"]
 zgg:Dn K mg "brought" Aq ["borne","other","place"]
 zgh:Dn K mg "finer" FG ["load","many"]
 zgi:Dn K mg "parts" FL ["n"]
 zgj:Dn K mg "prime_power" uS ["n","p"]
 zgk:Dn K mg "back" LZ ["step","n"]
 zgl:Dn K mg "lay_ring" zd ["load","p","hole","many"]
 zgm:Dn K mg "ring_holes" vJ ["n","p","hole"]
 zgn:Dn K mg "share" Gz ["n","q","hole"]
 zgo:Dn K mg "is_kept" AJ ["n","hole"]
 zgp:Dn K mg "first_dropped" sU ["p","q"]
 zgq:Dn K mg "kept" Jy ["n"]
 zgr:Dn K mg "rest" Lj ["load"]
 zgs:Dn K mg "dropped" Ab ["n","p","q"]
 zgt:Dn K mg "weighed" Ag ["load","weights"]
 zgu:Dn K mg "weighing" yf ["n","hole"]
 zgv:Dn K mg "part_weighing" tu ["p","q","kept_share"]
 zgw:Dn K mg "picked" Dq ["things","places"]
 zgx:Dn K mg "spread" Cu ["size","places","numbers"]
 zgy:Dn K mg "flipped" AR ["rows"]
 zgz:Dn K mg "column_of" xa ["rows","column"]
 zha:Dn K mg "corners" AU ["steps","prime"]
 zhb:Dn K mg "cleared" At ["step","found","prime"]
 zhc:Dn K mg "first_filled" ua ["row"]
 zhd:Dn K mg "lessened" yV ["row","many","other","modulus"]
 zhe:Dn K mg "taken_times" uI ["row","many","modulus"]
 zhf:Dn K mg "undone_rows" uL ["rows","modulus"]
 zhg:Dn K mg "solved" CT ["rows","undoing","modulus","goal"]
 zhh:Dn K mg "is_solution" uN ["rows","goal","told"]
 zhi:Dn K mg "fractions" wV ["rests","scale"]
 zhj:Dn K mg "least_bottom" tX ["number","scale","bits"]
 zhk:Dn K mg "centred" AI ["number","scale"]
 zhl:Dn K mg "reach" FI ["steps","goal"]
 zhm:Dn K mg "next_prime" vm ["number"]
 zhn:Dn K mg "is_shown" y7 ["steps","goal","told"]
 zho:Dn K mg "summed" Dl ["steps","counts","size"]
 zhp:Dn K mg "first_unbarred" sk ["steps","bar"]
 zhq:Dn K mg "divides" AB ["modulus","number"]
 zhr:Dn K mg "sought" DH ["steps","goal","prime"]
 zhs:Dn K mg "sought_within" sX ["steps","frame","goal_made"]
 zht:Dn K mg "sought_with" uM ["others","steps","frame","goal_made"]
 zhu:Dn K mg "whole_counts" tY ["made","modulus"]
 zhv:Dn K mg "leads_of" zf ["rows","size","modulus"]
 zhw:Dn K mg "entered" Aa ["leads","row","modulus"]
 zhx:Dn K mg "mixed" FV ["one","many","other","more","modulus"]
 zhy:Dn K mg "barring" Au ["leads","column","modulus"]
 zhz:Dn K mg "inner_bar" wY ["frame","amounts"]
 zia:Dn K mg "counter" Ae ["load","blocks"]
 zib:Dn K mg "kept_rest" xj ["load","holes"]
 zic:Dn K mg "all_weighings" tj ["n","holes","weights"]
 zid:Dn K mg "value" Gx ["load","bottom"]
 zie:Dn K mg "divisor_of_all" r6 ["first","others"]
 zif:Dn K mg "whole" GK ["many"]
 zig:Dn K mg "on" Ue ["x","n"]
 zih:Dn K mg "joint_wheel" uQ ["x","y"]
 zii:Dn K mg "raised" CO ["x","y","n"]
 zij:Dn K mg "added" FZ ["x","y"]
 zik:Dn K mg "times" FX ["x","y"]
 zil:Dn K mg "_law_cell_at" uJ ["script","k"]
 zim:Dn K mg "_law_near" yX ["cell","most"]
 zin:Dn K mg "_law_number" vC ["found"]
 zio:Dn K mg "_law_primes" vS ["n"]
 ziq:Dn K mg "_law_load" yw ["n","cells","step","most"]
 zir:Dn K mg "_law_weighs" vo ["load","weights"]
 zis:Dn K mg "_law_by" Dh ["number","modulus"]
 zit:Dn K mg "_law_bar" Az ["told","load","blocks"]
 ziu:Dn K mg "_law_way" Aw ["told","load","blocks"]
 ziv:IK K CF
 ziw:qg K CF "size"
 zix:qg K CF "prime"
 ziy:qg K CF "found"
 ziz:qg K CF "chosen"
 zja:qg K CF "columns"
 zjb:qg K CF "rows"
 zjc:qg K CF "modulus"
 zjd:qg K CF "undoing"
 zje:Kn K mg CF "Frame" "Frame.__init__" vI ["self","steps","size","prime"]
 zjf:Mn K CF "missed" "Frame.missed" tJ ["self","goal"]
 zjg:Mn K CF "counts" "Frame.counts" tO ["self","goal"]
 zjh:Mn K CF "weights" "Frame.weights" sZ ["self","amounts"]
 zji:mg "len"=none
 zjj:mg "isinstance"=none
 zjk:mg "int"=none
 zjl:mg "bool"=none
 zjm:mg "list"=none
 zjn:mg "tuple"=none
 zjo:mg "range"=none
 zjp:mg "min"=none
 zjq:mg "max"=none
 zjr:mg "abs"=none
 zjs:mg "zip"=none
 zjt:mg "all"=none
 zju:mg "enumerate"=none
 zjv:mg "sum"=none
section
variable {r:Addr}{as:ŋ}{l:ń}{m:Int}{è:ĸ}
variable {cN:Nat->Nat}{CF:Addr}{P:Program}{w:World}{K:zfq}{mg:ś}{base:Heap}(T:Txt K mg CF cN)
inductive GE (K:zfq)(vs:ň)(H:Hp)(Q:VK)(_:XK):Prop
 | mk (a:Addr)(ns:ń)(_:vs=[.ref a])(_:mj K H a (ns.map zad))(_:ns.length<=63)(_:∀H',Q (.bl true) H')
inductive QV (vs:ň)(H:Hp)(Q:VK)(_:XK):Prop
 | mk (m:Nat)(h w:Int)(_:vs=[.int m,.int h,.int w])(_:1<=m)(_:m<=420)(_:∀r H',lO H H'->H r=none->H' r=some (.lst ((Ld.PR m h w).map zad))->Q (.ref r) H')
def xJ:Df P w K mg base 1 "hung" ["n","hole","weight"] QV:=by
 refine mX T.zgb MR fun f cdv A outer s H vs Q E hr nd h=>?_;obtain⟨m,x,v,rfl,m1,m2,q⟩:=h;refine⟨_,(lE (mE 3 nd (lY re (nY (mT lJ)) (pv 0))) (lE (rz (pv 2) (qZ (pv 3) (lY m3 (pv 1) (pv 0)) set_list)) (lL (ma (pv 3))))),xi ?_⟩;intros;refine⟨lI,fun l hl=>⟨_,Z,l,_,_,Z,Z,lH,lC,lC,(by show 1*_<=_;exact pO lC),fun p hp=>?_⟩⟩;have lp:l≠p:=mh lH hp;have Vp:H p=none:=by rwa [mi (dR lp)] at hp
 rw[rep0];refine⟨_,Z,_,Z,_,Z,_,Z,_,_,Z,Z,lC,p,_,_,_,Z,Z,lH,vF (v6 lB) lC x,?_⟩;refine⟨_,Z,q p _ (mO (mO (mO (lO.refl H) hl) Vp) Vp) Vp ?_⟩;rw[lH,set_int];rfl
inductive Th (K:zfq)(vs:ň)(H:Hp)(Q:VK)(_:XK):Prop
 | mk (a b:Addr)(xs ys:ň)(_:vs=[.ref a,.ref b])(_:mj K H a xs)(_:mj K H b ys)(_:xs.length=ys.length)(_:Q .non H)
def qT:Df P w K mg base 1 "check_fit" ["one","other"] (Th K):=by
 refine mX T.zgd Bp fun f cdv A outer s H vs Q E hr nd h=>?_;obtain⟨a,b,xs,ys,rfl,ha,hb,e,q⟩:=h;refine⟨_,(lL (nw (nQ qK (pM T.zji (pv 0)) (pM T.zji (pv 1))) (lL rj) mR)),?_⟩;refine⟨_,Z,a,_,Z,.inl ha,_,Z,b,_,Z,.inl hb,Z,_,Z,?_⟩;refine oS (fun c=>?_) (fun c=>q);exact OV c (by rw[e])
inductive MP (vs:ň)(H:Hp)(Q:VK)(_:XK):Prop
 | mk (r1 r2:Addr)(x y a b c d:Int)(N:Nat)(_:vs=[.ref r1,.ref r2])(_:H r1=some (.tup [.int x,.int y]))(_:H r2=some (.tup [.int a,.int b,.int c,.int d]))(_:N<=9000)(_:x.natAbs<2^N/\y.natAbs<2^N/\a.natAbs<2^N/\b.natAbs<2^N/\c.natAbs<2^N/\d.natAbs<2^N)(_:∀t,H t=none->Q (.ref t) (upd H t (.tup [.int (a*x+b*y),.int (c*x+d*y)])))
def vB:Df P w K mg base 1 "turned_on" ["pair","turn"] MP:=by
 refine mX T.zfy BM fun f cdv A outer s H vs Q E hr nd h=>?_;obtain⟨r1,r2,x,y,a,b,c,d,N,rfl,h1,h2,hN,⟨fx,fy,fa,fb,fc,fd'⟩,q⟩:=h;have p0:oi [zad x,zad y] 0=some (.int x):=Z;have p1:oi [zad x,zad y] 1=some (.int y):=Z;have t0:oi [zad a,zad b,zad c,zad d] 0=some (.int a):=Z;have t1:oi [zad a,zad b,zad c,zad d] 1=some (.int b):=Z;have t2:oi [zad a,zad b,zad c,zad d] 2=some (.int c):=Z;have t3:oi [zad a,zad b,zad c,zad d] 3=some (.int d):=Z;refine⟨_,(lL (ma (nE (mJ (lY mY (lY mH (mF mv (pv 1) lJ) (mF mv (pv 0) lJ)) (lY mH (mF mv (pv 1) lJ) (mF mv (pv 0) lJ))) (lY mY (lY mH (mF mv (pv 1) lJ) (mF mv (pv 0) lJ)) (lY mH (mF mv (pv 1) lJ) (mF mv (pv 0) lJ))))))),?_⟩;refine⟨_,Z,r2,_,_,_,Z,Z,mW.of h2,t0,_,Z,r1,_,_,_,Z,Z,mW.of h1,p0,_,_,Z,Z,sL fa fx O,_,Z,r2,_,_,_,Z,Z,mW.of h2,t1,_,Z,r1,_,_,_,Z,Z,mW.of h1,p1,_,_,Z,Z,sL fb fy O,_,_,Z,Z,?_⟩;exact⟨_,Z,r2,_,_,_,Z,Z,mW.of h2,t2,_,Z,r1,_,_,_,Z,Z,mW.of h1,p0,_,_,Z,Z,sL fc fx O,_,Z,r2,_,_,_,Z,Z,mW.of h2,t3,_,Z,r1,_,_,_,Z,Z,mW.of h1,p1,_,_,Z,Z,sL fd' fy O,_,_,Z,Z,lR,q⟩
def va {i j:Int}{N:Nat}(h0:0<j)(h:j.natAbs<2^N)(hN:N<=9000):Gd i j:=by
 refine⟨h0,?_⟩;have:=(io (show j.natAbs≠0 by lia)).mpr h;lia
def JC {u v d:Int}(h:d=if (if v<0 then -v else v) > (if u<0 then -u else u) then (if v<0 then -v else v) else (if u<0 then -u else u)):(u.natAbs:Int)<=d/\(v.natAbs:Int)<=d:=by
 have hv:(if v<0 then -v else v)=v.natAbs:=by split<;>lia
 have hu:(if u<0 then -u else u)=u.natAbs:=by split<;>lia
 rw[hv,hu] at h;split at h<;>lia
inductive Qr (vs:ň)(H:Hp)(Q:VK)(_:XK):Prop
 | mk (A B:Int)(h N:Nat)(_:vs=[.int (A/2^h),.int (B/2^h)])(_:0<=A)(_:0<B)(_:1<=N)(_:N<=9000)(_:A<2^N)(_:B<2^N)(_:∀t H' (x y z w:Int),lO H H'->H' t=some (.tup [.int x,.int y,.int z,.int w])->Eb.Tn A B x y z w->((x=1/\y=0/\z=0/\w=1)\/2^h<=z*A+w*B)->(x.natAbs<2^N/\y.natAbs<2^N/\z.natAbs<2^N/\w.natAbs<2^N)->Q (.ref t) H')
def B2:Df P w K mg base 1 "sure_turn" ["rest","later_rest"] Qr:=by
 refine mX T.zga Bx fun f cdv A outer s H vs Q E hr nd h=>?_;obtain⟨A0,B0,hh,N,rfl,a0,b0,N1,N2,fA,fB,q⟩:=h;obtain⟨HH,WQ⟩:∃HH:Int,HH=2^hh:=⟨_,Z⟩;obtain⟨W,hW⟩:∃W:Nat,W=2^N:=⟨_,Z⟩;have H1:1<=HH:=by rw[WQ];exact gP L
 have W2:2<=W:=by rw[hW];exact bR (n:=2) L N1
 have fA':A0<W:=by rw[hW];exact_mod_cast fA
 have fB':B0<W:=by rw[hW];exact_mod_cast fB
 rw[<-WQ];have eA:A0=A0/HH*HH+A0%HH:=by have:=bU A0 HH;rw[ay] at this;lia
 have eB:B0=B0/HH*HH+B0%HH:=by have:=bU B0 HH;rw[ay] at this;lia
 have mA0:=aH A0 (show HH≠0 by lia);have mA1:=aF A0 (show 0<HH by lia);have mB0:=aH B0 (show HH≠0 by lia);have mB1:=aF B0 (show 0<HH by lia);have da0:=de a0 (show 0<=HH by lia);have db0:=de (show 0<=B0 by lia) (show 0<=HH by lia);have da1:=cx (a:=A0) HH a0;have db1:=cx (a:=B0) HH O;generalize A0/HH=a at *;generalize B0/HH=b at *;refine⟨_,(lE (mE 2 nd (nE (lG lJ (lG lJ (lG lJ (lG lJ mB)))))) (lE (oV aO (nQ qK (pv 1) lJ) (lE (mE 3 nd (lY mS (pv 0) (pv 1))) (lE (mE 4 nd (lY oU (pv 0) (lY mH (pv 3) (pv 1)))) (lE (mE 5 nd (nE (lG (mF mv (pv 2) lJ) (lG (mF mv (pv 2) lJ) (lG (lY oU (mF mv (pv 2) lJ) (lY mH (pv 3) (mF mv (pv 2) lJ))) (lG (lY oU (mF mv (pv 2) lJ) (lY mH (pv 3) (mF mv (pv 2) lJ))) mB)))))) (lE (mE 6 nd (mZ (Ap Z) lD T.zjq L2.LW (mJ (mZ qM lD T.zjr zew (mT (mF mv (pv 5) lJ))) (mZ qM lD T.zjr zew (mT (mF mv (pv 5) lJ)))))) (lE (nw (PW.pt (vw (nQ Gq (pv 4) (pv 6)) (yF (nQ Gq (lY oU (pv 1) (pv 4)) (lY mY (pv 6) (mZ (Ap Z) lD T.zjq L2.LW (mJ (mZ qM lD T.zjr zew (mT (mF mv (pv 2) lJ))) (mZ qM lD T.zjr zew (mT (mF mv (pv 2) lJ)))))))))) (lL (ma (pv 2))) mR) (lE (mE 2 nd (pv 5)) (lE (mE 0 nd (pv 1)) (lL (mE 1 nd (pv 4))))))))))) (lL (ma (pv 2))))),xi ?_⟩;intros;refine⟨mC,fun t0 Oq=>?_⟩;have rE:lO H (upd H t0 (.tup [zad 1,zad 0,zad 0,zad 1])):=lQ (lO.refl _) Oq;have h0:upd H t0 (.tup [zad 1,zad 0,zad 0,zad 1]) t0=some (.tup [zad 1,zad 0,zad 0,zad 1]):=lH;generalize upd H t0 (.tup [zad 1,zad 0,zad 0,zad 1])=HA at rE h0 ⊢;refine⟨fun m σ H'=>lO H H'/\∃(ta:Addr)(rest ç x y z w:Int)(o1 o2 o3 o4:œ),σ=[some (.int rest),some (.int ç),some (.ref ta),o1,o2,o3,o4]/\H' ta=some (.tup [.int x,.int y,.int z,.int w])/\rest=x*a+y*b/\ç=z*a+w*b/\0<=rest/\0<=ç/\rest<W/\ç<W/\Eb.Tn A0 B0 x y z w/\0<z*A0+w*B0/\((x=1/\y=0/\z=0/\w=1)\/HH<=z*A0+w*B0)/\(x.natAbs<W/\y.natAbs<W/\z.natAbs<W/\w.natAbs<W)/\m=ç.toNat,
  ⟨_,rE,t0,a,b,1,0,0,1,none,none,none,none,Z,h0,O,O,da0,db0,O,O,.one,O,.inl ⟨Z,Z,Z,Z⟩,⟨O,O,O,O⟩,Z⟩,?_⟩
 rintro m σ H' ⟨sm,ta,rest,ç,x,y,z,w,o1,o2,o3,o4,rfl,hT,e1,e2,r0,l0,r1,l1,tn,L0,big,⟨fx,fy,fz,fw⟩,rfl⟩;have i0:oi [zad x,zad y,zad z,zad w] 0=some (.int x):=Z;have i1:oi [zad x,zad y,zad z,zad w] 1=some (.int y):=Z;have i2:oi [zad x,zad y,zad z,zad w] 2=some (.int z):=Z;have i3:oi [zad x,zad y,zad z,zad w] 3=some (.int w):=Z;have out:Q (.ref ta) H':=q ta H' x y z w sm hT tn (by rw[<-WQ];exact big) (by rw[<-hW];exact⟨fx,fy,fz,fw⟩);refine⟨_,Z,Z,_,Z,oS (fun c=>?_) (fun c=>⟨_,Z,out⟩)⟩;have lp:0<ç:=by have:=OV c;lia
 obtain⟨qq,hq⟩:∃qq:Int,qq=rest/ç:=⟨_,Z⟩;have q0:0<=qq:=by rw[hq];exact de r0 O
 have qle:qq<=rest:=by rw[hq];exact cx _ r0
 have md:=bU rest ç;have mn0:=aH rest (show ç≠0 by lia);have mn1:=aF rest lp;rw[<-hq,ay] at md;have qW:qq.natAbs<2^N:=by rw[<-hW];lia
 have lW:ç.natAbs<2^N:=by rw[<-hW];lia
 have zW:z.natAbs<2^N:=by rw[<-hW];exact fz
 have wW:w.natAbs<2^N:=by rw[<-hW];exact fw
 refine⟨_,fun _ _ h=>h,?_⟩;refine⟨_,Z,_,Z,_,_,Z,Z,va lp lW N2,?_⟩;dsimp only;rw[<-hq]
 try dsimp only[nu,qx,qu]
 refine⟨_,Z,_,Z,_,Z,_,_,Z,Z,sL qW lW O,_,_,Z,Z,?_⟩;dsimp only;obtain⟨nr,hnr⟩:∃nr:Int,nr=rest-qq*ç:=⟨_,Z⟩;rw[<-hnr];have nr0:0<=nr:=O;have nr1:nr<ç:=O
 try dsimp only[nu,qx,qu]
 refine⟨_,Z,ta,_,_,_,Z,Z,mW.of hT,i2,_,Z,ta,_,_,_,Z,Z,mW.of hT,i3,_,Z,ta,_,_,_,Z,Z,mW.of hT,i0,_,Z,_,Z,ta,_,_,_,Z,Z,mW.of hT,i2,_,_,Z,Z,sL qW zW O,_,_,Z,Z,?_⟩;refine⟨_,Z,ta,_,_,_,Z,Z,mW.of hT,i1,_,Z,_,Z,ta,_,_,_,Z,Z,mW.of hT,i3,_,_,Z,Z,sL qW wW O,_,_,Z,Z,mC,fun fu hfu=>?_⟩;have Mt:lO H' (upd H' fu (.tup [zad z,zad w,zad (x-qq*z),zad (y-qq*w)])):=lQ (lO.refl _) hfu;have hF:upd H' fu (.tup [zad z,zad w,zad (x-qq*z),zad (y-qq*w)]) fu=some (.tup [zad z,zad w,zad (x-qq*z),zad (y-qq*w)]):=lH;generalize upd H' fu (.tup [zad z,zad w,zad (x-qq*z),zad (y-qq*w)])=HB at Mt hF ⊢
 try dsimp only[nu,qx,qu]
 have hT2:=Mt _ _ hT;have Vt:Q (.ref ta) HB:=q ta HB x y z w (sm.trans Mt) hT2 tn (by rw[<-WQ];exact big) (by rw[<-hW];exact⟨fx,fy,fz,fw⟩);have en:nr=(x-qq*z)*a+(y-qq*w)*b:=by rw[hnr,e1,e2];grind
 obtain⟨x',DO⟩:∃x':Int,x'=x-qq*z:=⟨_,Z⟩;obtain⟨y',Fb⟩:∃y':Int,y'=y-qq*w:=⟨_,Z⟩;rw[<-DO,<-Fb] at hF en;have j2:oi [zad z,zad w,zad x',zad y'] 2=some (.int x'):=Z;have j3:oi [zad z,zad w,zad x',zad y'] 3=some (.int y'):=Z;refine⟨_,Z,fu,_,_,_,Z,Z,mW.of hF,j2,_,Z,_,Z,fu,_,_,_,Z,Z,mW.of hF,j3,_,Z,_,_,Z,?_⟩
 try dsimp only[nu,qx,qu]
 obtain⟨d,hd⟩:∃d:Int,d=(if (if y'<0 then -y' else y') > (if x'<0 then -x' else x') then (if y'<0 then -y' else y') else (if x'<0 then -x' else x')):=⟨_,Z⟩;rw[<-hd];have dd:=JC hd;refine⟨_,Z,_,Z,_,_,Z,Z,_,Z,oS (fun c1=>⟨_,Z,Vt⟩) (fun c1=>?_)⟩;have n1:=xy c1;refine⟨_,Z,_,Z,_,_,Z,Z,_,Z,_,Z,ta,_,_,_,Z,Z,mW.of hT2,i2,_,Z,_,Z,ta,_,_,_,Z,Z,mW.of hT2,i3,_,Z,_,_,Z,_,_,Z,Z,_,_,Z,Z,_,Z,oS (fun c2=>⟨_,Z,Vt⟩) (fun c2=>?_)⟩;have n2:=xy c2;obtain⟨d',GS⟩:∃d':Int,d'=(if (if w<0 then -w else w) > (if z<0 then -z else z) then (if w<0 then -w else w) else (if z<0 then -z else z)):=⟨_,Z⟩;rw[<-GS] at n2;have dd':=JC GS;have su:=Eb.sure H1 eA eB mA0 mA1 mB0 mB1 tn q0 L0 (d:=d) (d':=d') (by rw[<-DO];exact dd.1) (by rw[<-Fb];exact dd.2) dd'.1 dd'.2 (by rw[<-DO,<-Fb,<-en];lia) (by rw[<-DO,<-Fb,<-en,<-e2];lia);rw[<-DO,<-Fb] at su;refine⟨_,Z,?_⟩;refine⟨_,Z,?_⟩;refine⟨_,Z,?_⟩;exact⟨nr.toNat,O,sm.trans Mt,fu,ç,nr,z,w,x',y',_,_,_,_,Z,hF,e2,en,l0,nr0,l1,O,su.1,O,.inr su.2,⟨fz,fw,O,O⟩,Z⟩
def Kr {B ä:Int}(b0:0<=B)(h0:0<=ä)(h:vZ B > ä):2^ä.toNat<=B:=by
 rcases ū B (2^ä.toNat) with c | c
 .exfalso;have e:((2^ä.toNat:Nat):Int)=2^ä.toNat:=by rw[eO];rfl
  have:B.natAbs<2^ä.toNat:=O;have:=PyProof.Rows.intBits_le this;unfold vZ at h;lia
 .exact c
def Nl {A B x y z w:Int}(h:Eb.Tn A B x y z w)(ne:¬(x=1/\y=0/\z=0/\w=1)):z*A+w*B<x*A+y*B:=by
 cases h with
 | one=>exact absurd ⟨Z,Z,Z,Z⟩ ne
 | step q h _ _ lt _=>exact lt
inductive NP (vs:ň)(H:Hp)(Q:VK)(_:XK):Prop
 | mk (r:Addr)(A B ä:Int)(N:Nat)(_:vs=[.ref r,.int ä])(_:H r=some (.tup [.int A,.int B]))(_:0<=A)(_:0<B)(_:0<=ä)(_:vZ B > ä)(_:1<=N)(_:N<=9000)(_:A<2^N)(_:B<2^N)(_:∀t H' (x y z w:Int),lO H H'->H' t=some (.tup [.int x,.int y,.int z,.int w])->Eb.Tn A B x y z w->z*A+w*B<B->2^ä.toNat<=x*A+y*B->(x.natAbs<2^N/\y.natAbs<2^N/\z.natAbs<2^N/\w.natAbs<2^N)->Q (.ref t) H')
def BG:Df P w K mg base 2 "next_turn" ["rests","bits"] NP:=by
 refine mX T.zfz BV fun f cdv A outer s H vs Q E hr nd h=>?_;obtain⟨r,A0,B0,ä,N,rfl,hR,a0,b0,bi0,big,N1,N2,fA,fB,q⟩:=h;have i0:oi [zad A0,zad B0] 0=some (.int A0):=Z;have i1:oi [zad A0,zad B0] 1=some (.int B0):=Z;have bge:=Kr O bi0 big;have eN:((2^N:Nat):Int)=2^N:=by rw[eO];rfl
 have N2':2<=2^N:=bR (n:=2) L N1;have single:∀H1:Hp,lO H H1->∀t,H1 t=none->Q (.ref t) (upd H1 t (.tup [zad 0,zad 1,zad 1,zad (-(A0/B0))])):=fun H1 sm t ht=>by
  have q0:0<=A0/B0:=de a0 O;have q1:A0/B0<=A0:=cx _ a0;have md:=bU A0 B0;have m0:=aH A0 (show B0≠0 by lia);have m1:=aF A0 b0;have e3:1*A0 + -(A0/B0)*B0=A0%B0:=by rw[j4,ay (A0/B0)];lia
  have tn:Eb.Tn A0 B0 0 1 1 (-(A0/B0)):=by
   have:=Eb.Tn.step (A:=A0) (B:=B0) (A0/B0) .one O (by rw[show (1-A0/B0*0)*A0+(0-A0/B0*1)*B0=1*A0 + -(A0/B0)*B0 by grind,e3];exact m0) (by rw[show (1-A0/B0*0)*A0+(0-A0/B0*1)*B0=1*A0 + -(A0/B0)*B0 by grind,e3];lia) q0;rwa [show 1-A0/B0*0=1 by lia,show 0-A0/B0*1=-(A0/B0) by lia] at this
  exact q t _ 0 1 1 (-(A0/B0)) (lQ sm ht) lH tn (by rw[e3];exact m1) O ⟨O,O,O,O⟩
 refine⟨_,(lE (mE 2 nd (mZ (G7 Z) lD T.zjp L2.P1 (mJ (yK fS eY eZ vL (mF mv (pv 0) lJ)) (yK fS eY eZ vL (mF mv (pv 0) lJ))))) (lE (nw (nQ uO (pv 2) (lY mY (pv 1) (uk (v:=.int 128) lD T.zez ⟨_,Z⟩))) (lE (mE 3 nd (lY oU (pv 2) (uk (v:=.int 128) lD T.zez ⟨_,Z⟩))) (lE (mE 4 nd (mD (B2 T) hr (mJ (lY K7 (mF mv (pv 0) lJ) (pv 3)) (lY K7 (mF mv (pv 0) lJ) (pv 3))))) (lL (nw (nQ (Kl (Of hr)) (pv 4) (nE (lG lJ (lG lJ (lG lJ (lG lJ mB)))))) (lL (ma (pv 4))) mR)))) mR) (lL (ma (nE (lG lJ (lG lJ (lG lJ (lG (tD qO (lY mS (mF mv (pv 0) lJ) (mF mv (pv 0) lJ))) mB))))))))),xi ?_⟩;intros;refine⟨_,Z,r,_,_,_,Z,Z,mW.of hR,i0,Z,_,Z,Z,_,Z,r,_,_,_,Z,Z,mW.of hR,i1,Z,_,Z,Z,_,_,Z,?_⟩;obtain⟨len,æ⟩:∃len:Int,len=(if vZ B0<vZ A0 then vZ B0 else vZ A0):=⟨_,Z⟩;rw[<-æ];refine⟨_,Z,_,Z,_,_,Z,Z,_,_,Z,Z,_,Z,?_⟩;have last:∀(σ:St)(H1:Hp),σ[0]?=some (some (.ref r))->lO H H1->jd:=fun _ _ _ _=>trivial;refine oS (fun c=>?_) (fun _=>?_)
 .have c':=dec c;refine⟨_,Z,_,_,Z,Z,?_⟩;dsimp only;obtain⟨bh,hbh⟩:∃bh:Int,bh=len-128:=⟨_,Z⟩;rw[<-hbh]
  try dsimp only[nu,qx,qu]
  refine⟨_,Z,r,_,_,_,Z,Z,mW.of hR,i0,_,Z,_,_,Z,Z,(show 0<=bh by lia),_,Z,r,_,_,_,Z,Z,mW.of hR,i1,_,Z,_,_,Z,Z,(show 0<=bh by lia),A0,B0,bh.toNat,N,Z,a0,b0,N1,N2,fA,fB,fun ta H1 x y z w nS h1 tn ab DU=>?_⟩
  try dsimp only[nu,qx,qu]
  refine⟨_,Z,mC,fun tb WR=>Z9 ((mi (mh h1 WR)).trans h1) lH ⟨_,Z,oS (fun c2=>?_) (fun c2=>?_)⟩⟩
  .have ne:¬(x=1/\y=0/\z=0/\w=1):=fun zz=>by rw[cB zz] at c2;cases c2
   have great:=ab.resolve_left ne;have ds:=Nl tn ne;have pw:(2:Int)^ä.toNat<=2^bh.toNat:=by
    have:=bR (n:=2) L (show ä.toNat<=bh.toNat by lia);have e1:((2^ä.toNat:Nat):Int)=2^ä.toNat:=by rw[eO];rfl
    have e2:((2^bh.toNat:Nat):Int)=2^bh.toNat:=by rw[eO];rfl
    lia
   exact⟨_,Z,q ta _ x y z w (lQ nS WR) ((mi (mh h1 WR)).trans h1) tn (tn.lt ne) O DU⟩
  .have smb:=lQ (o:=.tup [zad 1,zad 0,zad 0,zad 1]) nS WR;refine⟨_,Z,r,_,_,_,Z,Z,mW.of (smb _ _ hR),i0,_,Z,r,_,_,_,Z,Z,mW.of (smb _ _ hR),i1,_,_,Z,Z,va b0 O N2,_,Z,mC,fun t ht=>single _ smb t ht⟩
 .exact⟨_,Z,r,_,_,_,Z,Z,mW.of hR,i0,_,Z,r,_,_,_,Z,Z,mW.of hR,i1,_,_,Z,Z,va b0 O N2,_,Z,mC,fun t ht=>single _ (lO.refl _) t ht⟩
def qy (N:Nat):((2^N:Nat):Int)=2^N:=by rw[eO];rfl
inductive SR (vs:ň)(H:Hp)(Q:VK)(_:XK):Prop
 | mk (one other ä:Int)(N:Nat)(_:vs=[.int one,.int other,.int ä])(_:1<=one)(_:0<=other)(_:0<=ä)(_:1<=N)(_:N<=9000)(_:one<2^N)(_:other<2^N)(_:∀t H' (r0 c0 r1 c1:Int),lO H H'->H' t=some (.tup [.int r0,.int c0,.int r1,.int c1])->zfo one other r0 r1 c0 c1->1<=r0->vZ r1<=ä->(r0=one\/2^ä.toNat<=r0)->(c0.natAbs:Int)<=one->Q (.ref t) H')
def wF:Df P w K mg base 3 "euclid" ["one","other","bits"] SR:=by
 refine mX T.zfx HY fun f cdv A outer s H vs Q E hr nd h=>?_;obtain⟨one,other,ä,N,rfl,o1,t0,b0,N1,N2,fo,ft,q⟩:=h;have eN:=qy N;refine⟨_,(lE (mE 3 nd (nE (mJ (pv 0) (pv 1)))) (lE (mE 4 nd (nE (mJ lJ lJ))) (lE (oV aO (nQ uO (yK fS eY eZ vL (mF mv (pv 3) lJ)) (pv 2)) (lE (mE 5 nd (mD (BG T) hr (mJ (pv 3) (pv 2)))) (lE (mE 3 nd (mD (vB T) hr (mJ (pv 3) (pv 5)))) (lL (mE 4 nd (mD (vB T) hr (mJ (pv 4) (pv 5)))))))) (lL (ma (nE (lG (mF mv (pv 3) lJ) (lG (mF mv (pv 4) lJ) (lG (mF mv (pv 3) lJ) (lG (mF mv (pv 4) lJ) mB)))))))))),II ?_⟩;intros;refine⟨_,Z,_,Z,lR,fun ra hra=>?_⟩;refine⟨lR,fun ca WS=>?_⟩;have rE:lO H (upd (upd H ra (.tup [.int one,.int other])) ca (.tup [.int 0,.int 1])):=lQ (lQ (lO.refl _) hra) WS;have zY:upd (upd H ra (.tup [.int one,.int other])) ca (.tup [.int 0,.int 1]) ra=some (.tup [.int one,.int other]):=(mi (mh lH WS)).trans lH;have hc0:upd (upd H ra (.tup [.int one,.int other])) ca (.tup [.int 0,.int 1]) ca=some (.tup [.int 0,.int 1]):=lH;generalize upd (upd H ra (.tup [.int one,.int other])) ca (.tup [.int 0,.int 1])=H0 at rE zY hc0 ⊢;refine⟨fun m σ H'=>lO H H'/\∃(ra ca:Addr)(r c lr lc:Int)(tv:œ),σ=[some (.int one),some (.int other),some (.int ä),some (.ref ra),some (.ref ca),tv]/\H' ra=some (.tup [.int r,.int lr])/\H' ca=some (.tup [.int c,.int lc])/\1<=r/\r<2^N/\lr<2^N/\zfo one other r lr c lc/\(r=one\/2^ä.toNat<=r)/\(c.natAbs:Int)<=one/\m=lr.toNat,
  ⟨_,rE,ra,ca,one,0,other,1,none,Z,zY,hc0,o1,fo,ft,.start O t0,.inl Z,O,Z⟩,?_⟩
 rintro m σ H' ⟨sm,ra,ca,r,c,lr,lc,tv,rfl,hR,hC,r1,rN,lN,st,big,cb,rfl⟩;have i0:oi [zad r,zad lr] 0=some (.int r):=Z;have i1:oi [zad r,zad lr] 1=some (.int lr):=Z;have c0:oi [zad c,zad lc] 0=some (.int c):=Z;have c1:oi [zad c,zad lc] 1=some (.int lc):=Z;have l0:=st.p1;have lcb:=st.c1 O r1;refine⟨_,Z,ra,_,_,_,Z,Z,mW.of hR,i1,Z,_,Z,Z,_,Z,_,_,Z,Z,_,Z,?_⟩;refine oS (fun c'=>?_) (fun c'=>?_)
 .have gt:=dec c';have ne:=Oc (show vZ lr > 0 by lia);refine⟨_,fun _ _ h=>h,?_⟩;refine xi ?_;intros;refine⟨_,Z,_,Z,ra,r,lr,ä,N,Z,hR,O,O,b0,gt,N1,N2,rN,lN,fun ta H1 x y z w nS h1 tn lt zbK DU=>?_⟩;have ni:¬(x=1/\y=0/\z=0/\w=1):=fun ⟨a,b,d,e⟩=>by rw[d,e] at lt;lia
  have cc:=tn.c0 st O r1 ni;have Pj:=tn.st st;refine⟨_,Z,_,Z,ra,ta,r,lr,x,y,z,w,N,Z,nS _ _ hR,h1,N2,⟨O,O,DU.1,DU.2.1,DU.2.2.1,DU.2.2.2⟩,fun rb hrb=>?_⟩;have nZ:lO H1 (upd H1 rb (.tup [.int (x*r+y*lr),.int (z*r+w*lr)])):=lQ (lO.refl _) hrb;have h2:upd H1 rb (.tup [.int (x*r+y*lr),.int (z*r+w*lr)]) rb=some (.tup [.int (x*r+y*lr),.int (z*r+w*lr)]):=lH;generalize upd H1 rb (.tup [.int (x*r+y*lr),.int (z*r+w*lr)])=H2 at nZ h2 ⊢;refine⟨_,Z,_,Z,ca,ta,c,lc,x,y,z,w,N,Z,nZ _ _ (nS _ _ hC),nZ _ _ h1,N2,⟨O,O,DU.1,DU.2.1,DU.2.2.1,DU.2.2.2⟩,fun cb' hcb=>?_⟩;exact⟨(z*r+w*lr).toNat,by have:=Pj.p1;lia,lQ ((sm.trans nS).trans nZ) hcb,rb,cb',_,_,_,_,_,Z,lQ (lO.refl _) hcb _ _ h2,lH,cc.2.1,O,O,Pj,.inr zbK,cc.1,Z⟩
 .have le:=xy c';refine⟨_,Z,ra,_,_,_,Z,Z,mW.of hR,i0,_,Z,ca,_,_,_,Z,Z,mW.of hC,c0,_,Z,ra,_,_,_,Z,Z,mW.of hR,i1,_,Z,ca,_,_,_,Z,Z,mW.of hC,c1,mC,fun t ht=>?_⟩;exact q t _ r c lr lc (lQ sm ht) lH st r1 O big cb
inductive Nm (vs:ň)(H:Hp)(Q:VK)(_:XK):Prop
 | mk (st n:Int)(N:Nat)(_:vs=[.int st,.int n])(_:1<=n)(_:1<=N)(_:N<=9000)(_:n<2^N)(_:∀d:Int,1<=d->d∣n->d∣st->d=1)(_:∀(u:Int) H',1<=u->u<=n->n∣st*u-1->lO H H'->Q (.int u) H')
def B3:Df P w K mg base 4 "back" ["step","n"] Nm:=by
 refine mX T.zgk M5 fun f cdv A outer s H vs Q E hr nd h=>?_;obtain⟨st,n,N,rfl,n1,N1,N2,fn,zh,q⟩:=h;have s0:=aH st (show n≠0 by lia);have s1:=aF st (show 0<n by lia);refine⟨_,(lE (mE 2 nd (mD (wF T) hr (lG (pv 1) (lG (lY m3 (pv 0) (pv 1)) (lG lJ mB))))) (lE (nw (nQ qK (mF mv (pv 2) lJ) lJ) (lL rj) mR) (lL (ma (lY mY (lY m3 (lY oU (mF mv (pv 2) lJ) lJ) (pv 1)) lJ))))),xi ?_⟩;intros;refine⟨_,Z,_,Z,_,Z,_,_,Z,Z,(show 0<n by lia),n,st%n,0,N,Z,n1,s0,eL 0,N1,N2,fn,O,fun t H1 r0 c0 r1 c1 nS h1 S p0 bz _ _=>?_⟩;have i0:oi [zad r0,zad c0,zad r1,zad c1] 0=some (.int r0):=Z;have i1:oi [zad r0,zad c0,zad r1,zad c1] 1=some (.int c0):=Z;have z:r1=0:=Dk O;have dv:=S.dvd z;have eg:r0=1:=zh r0 p0 dv.1 (by
  have a:n∣st%n-st:=zds st n;have b:=bE dv.2 (bu dv.1 a);rwa [show st%n-(st%n-st)=st by lia] at b)
 refine⟨_,Z,t,_,_,_,Z,Z,mW.of h1,i0,Z,_,Z,Ar (cA zad eg) ?_⟩;rw[eg,z] at S;have o:=S.back n1;refine⟨_,Z,t,_,_,_,Z,Z,mW.of h1,i1,_,_,Z,Z,_,Z,_,_,Z,Z,(show 0<n by lia),_,_,Z,Z,?_⟩;exact q _ _ o.1 o.2.1 o.2.2 nS
def Bd (N:Nat)(l:ń):Prop:=∀x∈l,x.natAbs<2^N
def uA {a b:Int}{N M:Nat}(ha:a.natAbs<2^N)(hb:b.natAbs<2^M)(h:N<=1000000)(h':M<=1000000):IntMulOk a b:=sL ha hb O
inductive QJ (vs:ň)(H:Hp)(Q:VK)(_:XK):Prop
 | mk (r s:Addr)(row other:ń)(ë m:Int)(N M:Nat)(_:vs=[.ref r,.int ë,.ref s,.int m])(_:H r=some (.lst (row.map zad)))(_:H s=some (.lst (other.map zad)))(_:row.length=other.length)(_:row.length<=20000)(_:0<m)(_:ë.natAbs<2^N)(_:Bd M other)(_:N<=1000000)(_:M<=1000000)(_:∀t H',lO H H'->H' t=some (.lst ((zfa row ë other m).map zad))->Q (.ref t) H')
def tV:Df P w K mg base 1 "lessened" ["row","many","other","modulus"] QJ:=by
 refine mX T.zhd C7 fun f cdv A outer s H vs Q E hr nd h=>?_;obtain⟨r,s',row,other,ë,m,N,M,rfl,h1,h2,l,lz,m0,bm,bo,N1,M1,q⟩:=h;refine⟨_,(lE (nw (nQ pX (pv 1) lJ) (lL (ma (pv 0))) mR) (lL (ma (oX [("modulus",3),("many",1)] ["number","less"] (qP lD T.zjs (mJ (pv 0) (pv 2))) (fun C s H fp=>⟨(tQ 2 3),mL,(lY m3 (lY oU (pv 2) (lY mH (pv 1) (pv 3))) (pv 0))⟩))))),_,Z,Z,_,Z,?_⟩;refine oS (fun c=>?_) (fun c=>?_)
 .have z:=xt c;exact⟨_,Z,q r H (lO.refl _) (by unfold zfa;rw[if_pos z];exact h1)⟩
 .have z:=yL c;refine⟨_,Z,_,Z,r,s',Z,⟨_,mj.of h1⟩,⟨_,mj.of h2⟩,?_⟩;refine qY (K:=K) (xs:=row.map zad) (ys:=other.map zad) (ž (fun x y=>(x-ë*y)%m) row other) (by rw[aa,aa,l]) (by rw[eQ,aa,<-l,gT]) (by rw[aa];exact lz) (mj.of h1) (mj.of h2) ?_ ?_
  .intro i x y H2 p hx hy sm hp R k;obtain⟨u,rfl,hu⟩:=int_at hx;obtain⟨v,rfl,hv⟩:=int_at hy;refine⟨p,_,Z,mW.of lH,Z,_,_,Z,_,_,Z,Z,_,Z,_,Z,_,Z,_,_,Z,Z,uA bm (bo v (ao hv)) N1 M1,_,_,Z,Z,_,Z,_,_,Z,Z,m0,?_⟩;exact k _ _ (lQ (lO.refl _) hp) (by rw[cy,hu,hv])
  .intro D H2 sm _ hD;refine q D H2 sm ?_;unfold zfa;rw[ah z];exact hD
inductive Q5 (vs:ň)(H:Hp)(Q:VK)(_:XK):Prop
 | mk (r:Addr)(row:ń)(ë m:Int)(N M:Nat)(_:vs=[.ref r,.int ë,.int m])(_:H r=some (.lst (row.map zad)))(_:row.length<=20000)(_:0<m)(_:ë.natAbs<2^N)(_:Bd M row)(_:N<=1000000)(_:M<=1000000)(_:∀t H',lO H H'->H' t=some (.lst ((row.map fun x=>x*ë%m).map zad))->Q (.ref t) H')
def ud:Df P w K mg base 1 "taken_times" ["row","many","modulus"] Q5:=by
 refine mX T.zhe yo fun f cdv A outer s H vs Q E hr nd h=>?_;obtain⟨r,row,ë,m,N,M,rfl,h1,lz,m0,bm,bo,N1,M1,q⟩:=h;refine⟨_,(lL (ma (oX [("modulus",2),("many",1)] ["number"] (mQ (pv 0)) (fun C s H fp=>⟨(qo 2),mL,(lY m3 (lY mH (pv 2) (pv 1)) (pv 0))⟩)))),_,Z,r,Z,⟨_,mj.of h1⟩,?_⟩;refine nT (K:=K) (xs:=row.map zad) (row.map fun x=>x*ë%m) zom (by rw[aa];exact lz) (mj.of h1) ?_ fun D H2 sm _ hD=>q D H2 sm hD;intro i x H2 hx sm R k;obtain⟨u,rfl,hu⟩:=int_at hx;refine⟨_,Z,_,Z,_,_,Z,Z,uA (bo u (ao hu)) bm M1 N1,_,Z,_,_,Z,Z,m0,?_⟩;exact k _ _ (lO.refl _) (by rw[af,hu];rfl)
def cen (n m:Int):Int:=if 2*(n%m)<=m then n%m else n%m-m
inductive SY (vs:ň)(H:Hp)(Q:VK)(_:XK):Prop
 | mk (n m:Int)(_:vs=[.int n,.int m])(_:0<m)(_:Q (.int (cen n m)) H)
def y6:Df P w K mg base 1 "centred" ["number","scale"] SY:=by
 refine mX T.zhk EV fun f cdv A outer s H vs Q E hr nd h=>?_;obtain⟨n,m,rfl,m0,q⟩:=h;refine⟨_,(lE (mE 2 nd (lY m3 (pv 0) (pv 1))) (lL (ma (LX (nQ Gq (lY mH lJ (pv 2)) (pv 1)) (pv 2) (lY oU (pv 2) (pv 1)))))),_,Z,_,Z,_,_,Z,Z,m0,_,Z,_,_,Z,Z,n5 L L,_,Z,_,_,Z,Z,_,Z,?_⟩;unfold cen at q;refine oS (fun c=>?_) (fun c=>?_)
 .rw[aA (dec c)] at q;exact⟨_,Z,q⟩
 .rw[ah (xy c)] at q;exact⟨_,Z,_,Z,_,_,Z,Z,q⟩
inductive Qt (vs:ň)(H:Hp)(Q:VK)(_:XK):Prop
 | mk (r:Addr)(row:ń)(_:vs=[.ref r])(_:H r=some (.lst (row.map zad)))(_:row.length<=20000)(_:∀(c:Nat) H',lO H H'->c<row.length->zbh row c≠0->Q (.int c) H')(_:∀H',lO H H'->(∀c,c<row.length->zbh row c=0)->Q .non H')
def s9:Df P w K mg base 1 "first_filled" ["row"] Qt:=by
 refine mX T.zhc xr fun f cdv A outer s H vs Q E hr nd h=>?_;obtain⟨r,row,rfl,h1,lz,q1,q2⟩:=h;refine⟨_,(lE (nh aO Z (qE lD T.zju (mT (pv 0))) (oY Z (mI (nW 1 nd) (mI (nW 2 nd) oe))) (lL (nw (nQ qK (pv 2) lJ) (lL (ma (pv 1))) mR))) (lL (ma t5))),_,Z,r,Z,⟨_,mj.of h1⟩,rY (K:=K) (xs:=row.map zad) (fun i σ H2=>lO H H2/\(∃o1 o2:œ,σ=[some (.ref r),o1,o2])/\∀c,c<i->zbh row c=0) ⟨lO.refl _,⟨none,none,Z⟩,fun c hc=>absurd hc (bS _)⟩ (fun i σ H2 _ z=>z.1.seq (mj.of h1)) ?_ ?_⟩
 .rintro i x σ H2 p hx ⟨sm,⟨o1,o2,rfl⟩,z⟩ hp;obtain⟨v,rfl,hv⟩:=int_at hx;have gv:=zdo hv;have il:i<row.length:=(aJ.mp hv).1;refine⟨p,_,Z,mW.of lH,Z,_,_,Z,_,_,Z,Z,_,Z,Z,_,Z,oS (fun c=>?_) (fun c=>?_)⟩
  .exact⟨_,Z,q1 i _ (lQ sm hp) il (by rw[gv];exact OV c)⟩
  .exact⟨lQ sm hp,⟨_,_,Z⟩,fun c' wQ=>by
    rcases ť.mp wQ with e | e
    .exact z c' e
    .rw[e,gv];exact Hu c⟩
 .rintro σ H2 ⟨sm,_,z⟩;rw[aa] at z;exact q2 H2 sm z
inductive SQ (K:zfq)(vs:ň)(H:Hp)(Q:VK)(_:XK):Prop
 | mk (r s:Addr)(a b:ń)(N M:Nat)(_:vs=[.ref r,.ref s])(_:mj K H r (a.map zad))(_:mj K H s (b.map zad))(_:a.length=b.length)(_:a.length<=20000)(_:Bd N a)(_:Bd M b)(_:N<=1000000)(_:M<=1000000)(_:∀H',lO H H'->Q (.int (zbr a b)) H')
def rn:Df P w K mg base 2 "weighed" ["load","weights"] (SQ K):=by
 refine mX T.zgt Ee fun f cdv A outer s H vs Q E hr nd h=>?_;obtain⟨r,s',a,b,N,M,rfl,ha,hb,l,lz,ba,bb,N1,M1,q⟩:=h;refine⟨_,(lE (oO (mD (qT T) hr (mJ (pv 0) (pv 1)))) (lL (ma (mZ (wO Z) lD T.zjv L2.E5 (mT (oX [] ["weight","number"] (qP lD T.zjs (mJ (pv 0) (pv 1))) (fun C s H fp=>⟨(tQ 0 1),mL,(lY mH (pv 0) (pv 1))⟩))))))),_,Z,_,Z,r,s',_,_,Z,ha,hb,by rw[aa,aa,l],_,Z,_,Z,r,s',Z,⟨_,ha⟩,⟨_,hb⟩,?_⟩;refine qY (K:=K) (xs:=a.map zad) (ys:=b.map zad) (ž (· * ·) a b) (by rw[aa,aa,l]) (by rw[eQ,aa,<-l,gT]) (by rw[aa];exact lz) ha hb ?_ ?_
 .intro i x y H2 p hx hy sm hp R k;obtain⟨u,rfl,hu⟩:=int_at hx;obtain⟨v,rfl,hv⟩:=int_at hy;refine⟨p,_,Z,mW.of lH,Z,_,_,Z,_,_,Z,Z,_,Z,_,Z,_,_,Z,Z,uA (ba u (ao hu)) (bb v (ao hv)) N1 M1,?_⟩;exact k _ _ (lQ (lO.refl _) hp) (by rw[cy,hu,hv])
 .intro D H2 sm _ hD;exact⟨D,_,Z,mj.of hD,q H2 sm⟩
abbrev ni (ps:ŏ):ń:=ps.map fun (p:Nat)=>(p:Int)
def LG {ps:ŏ}{i:Nat}{x:V}(h:((ni ps).map zad)[i]?=some x):∃p:Nat,x=.int p/\ps[i]?=some p:=by
 obtain⟨v,rfl,hv⟩:=int_at h;rw[af] at hv;cases e:ps[i]? with
 | none=>rw[e] at hv;cases hv
 | some p=>rw[e] at hv;cases hv;exact⟨p,Z,Z⟩
def pk (xs:ň)(ps:ŏ):ň:=ps.map fun p=>xs.getD p .non
inductive Rl (K:zfq)(vs:ň)(H:Hp)(Q:VK)(_:XK):Prop
 | mk (r s:Addr)(xs:ň)(ps:ŏ)(_:vs=[.ref r,.ref s])(_:mj K H r xs)(_:H s=some (.lst ((ni ps).map zad)))(_:∀p∈ps,p<xs.length)(_:ps.length<=20000)(_:∀t H',lO H H'->H t=none->H' t=some (.lst (pk xs ps))->Q (.ref t) H')
def wM:Df P w K mg base 1 "picked" ["things","places"] (Rl K):=by
 refine mX T.zgw Hi fun f cdv A outer s H vs Q E hr nd h=>?_;obtain⟨r,s',xs,ps,rfl,h1,h2,lt,lz,q⟩:=h;refine⟨_,(lL (ma (oX [("things",0)] ["place"] (mQ (pv 1)) (fun C s H fp=>⟨(qo 1),mL,(mF (qI (K:=K) Z) (pv 0) (pv 1))⟩)))),_,Z,s',Z,⟨_,mj.of h2⟩,?_⟩;refine J4 (K:=K) (xs:=(ni ps).map zad) (pk xs ps) (by unfold pk;rw[š,š,š]) (by rw[š,š];exact lz) (mj.of h2) ?_ fun D H2 sm n hD=>q D H2 sm n hD;intro i x H2 hx sm R k;obtain⟨p,rfl,hp⟩:=LG hx;have pl:=lt p (ao hp);have e:xs[p]?=some (xs.getD p .non):=by rw[ak,az pl];rfl
 exact⟨_,Z,_,Z,r,_,_,_,Z,Z,sm.seq h1,nV e,k _ _ (lO.refl _) (by unfold pk;rw[List.getElem?_map,hp];rfl)⟩
def KO (a:ń)(ps:ŏ)(h:∀p∈ps,p<a.length):pk (a.map zad) ps=(ps.map fun p=>zbh a p).map zad:=by
 unfold pk;rw[jI];refine j8 fun p hp=>?_;rw[ak,af,zdv (h p hp)];rfl
inductive Tg (K:zfq)(vs:ň)(H:Hp)(Q:VK)(_:XK):Prop
 | mk (r:Addr)(è:ĸ)(c:Nat)(_:vs=[.ref r,.int c])(_:nM H r è)(_:∀row∈è,c<row.length)(_:è.length<=20000)(_:∀t H',lO H H'->H t=none->H' t=some (.lst ((è.map fun row=>zbh row c).map zad))->Q (.ref t) H')
def vH:Df P w K mg base 1 "column_of" ["rows","column"] (Tg K):=by
 refine mX T.zgz BZ fun f cdv A outer s H vs Q E hr nd h=>?_;obtain⟨r,è,c,rfl,⟨as,h1,pa⟩,lt,lz,q⟩:=h;have la:=mw pa;refine⟨_,(lL (ma (oX [("column",1)] ["row"] (mQ (pv 0)) (fun C s H fp=>⟨(qo 1),mL,(mF (qI (K:=K) Z) (pv 1) (pv 0))⟩)))),_,Z,r,Z,⟨_,mj.of h1⟩,?_⟩;refine nT (K:=K) (xs:=as.map zbb) (è.map fun row=>zbh row c) (by rw[aa,aa,la]) (by rw[aa,la];exact lz) (mj.of h1) ?_ fun D H2 sm n hD=>q D H2 sm n hD;intro i x H2 hx sm R k;obtain⟨a,row,rfl,ha,nA,hh⟩:=oM pa hx;have cl:=lt row (ao nA);exact⟨_,Z,_,Z,a,_,_,_,Z,Z,mj.of (sm _ _ hh),nV (by rw[af,zdv cl];rfl),k _ _ (lO.refl _) (by rw[af,nA];rfl)⟩
inductive Qv (K:zfq)(vs:ň)(H:Hp)(Q:VK)(_:XK):Prop
 | mk (r:Addr)(è:ĸ)(n:Nat)(_:vs=[.ref r])(_:nM H r è)(_:è.length=n)(_:∀row∈è,row.length=n)(_:n<=20000)(_:∀t H',lO H H'->H t=none->nM H' t (zeq n è)->Q (.ref t) H')
def y9:Df P w K mg base 2 "flipped" ["rows"] (Qv K):=by
 refine mX T.zgy EW fun f cdv A outer s H vs Q E hr nd h=>?_;obtain⟨r,è,n,rfl,hR,lr,lt,lz,q⟩:=h;obtain⟨as,h1,pa⟩:=id hR;have la:=mw pa;refine⟨_,(lL (ma (oX [("rows",0)] ["column"] (nK lD T.zjo (mT (pM T.zji (pv 0)))) (fun C s H fp=>⟨(qo 1),mL,(mD (vH T) hr (mJ (pv 0) (pv 1)))⟩)))),_,Z,r,_,Z,.inl (mj.of h1),n,by rw[aa,la,lr],O,O,?_⟩;refine Cy (n:=n) (zeq n è) (by unfold zeq;rw[š,û]) lz ?_ fun D H2 sm n hD=>q D H2 sm n hD;intro i H2 hi sm R k;exact⟨_,Z,_,Z,r,è,i,Z,hR.same sm,fun row nA=>by rw[lt row nA];exact hi,O,fun t H3 nJ _ h3=>k H3 t _ nJ (by unfold zeq;rw[List.getElem?_map,List.getElem?_range hi];rfl) h3⟩
inductive T6 (K:zfq)(vs:ň)(H:Hp)(Q:VK)(_:XK):Prop
 | mk (n:Nat)(r s:Addr)(ps:ŏ)(xs:ń)(_:vs=[.int n,.ref r,.ref s])(_:H r=some (.lst ((ni ps).map zad)))(_:H s=some (.lst (xs.map zad)))(_:ps.length=xs.length)(_:∀p∈ps,p<n)(_:n<=20000)(_:∀t H',lO H H'->H t=none->H' t=some (.lst ((zdn n ps xs).map zad))->Q (.ref t) H')
def Ay:Df P w K mg base 1 "spread" ["size","places","numbers"] (T6 K):=by
 refine mX T.zgx G9 fun f cdv A outer s H vs Q E hr nd h=>?_;obtain⟨n,r,s',ps,xs,rfl,h1,h2,l,lt,lz,q⟩:=h;refine⟨_,(lE (mE 3 nd (lY re (nY (mT lJ)) (pv 0))) (lE (nh aO Z (qP lD T.zjs (mJ (pv 1) (pv 2))) (oY Z (mI (nW 4 nd) (mI (nW 5 nd) oe))) (lL (rz (pv 5) (qZ (pv 3) (pv 4) set_list)))) (lL (ma (pv 3))))),xi ?_⟩;intros;refine⟨lI,fun lo zX=>⟨_,Z,lo,_,_,Z,Z,lH,O,O,zoj,fun p hp=>?_⟩⟩;rw[rep0];have Ou:lO H (upd (upd H lo (.lst [zad 0])) p (.lst ((ş n (0:Int)).map zad))):=lQ (lQ (lO.refl _) zX) hp;have pn:H p=none:=(lQ (lO.refl _) zX).free hp;have hP:upd (upd H lo (.lst [zad 0])) p (.lst ((ş n (0:Int)).map zad)) p=some (.lst ((ş n (0:Int)).map zad)):=lH;generalize upd (upd H lo (.lst [zad 0])) p (.lst ((ş n (0:Int)).map zad))=H0 at Ou hP ⊢;refine⟨_,Z,_,Z,r,s',Z,⟨_,mj.of (Ou _ _ h1)⟩,⟨_,mj.of (Ou _ _ h2)⟩,BO (K:=K) (xs:=(ni ps).map zad) (ys:=xs.map zad) (by rw[aa,aa,aa,l]) (fun i σ H2=>lO H H2/\(∃o1 o2:œ,σ=[some (.int n),some (.ref r),some (.ref s'),some (.ref p),o1,o2])/\H2 p=some (.lst ((zdn n (ps.take i) (xs.take i)).map zad))) ⟨Ou,⟨none,none,Z⟩,by rw[hP];rfl⟩ (fun i σ H2 _ z=>⟨z.1.seq (mj.of h1),z.1.seq (mj.of h2)⟩) ?_ ?_⟩
 .rintro i x y σ H2 pa hx hy ⟨sm,⟨o1,o2,rfl⟩,Md⟩ hpa;obtain⟨c,rfl,hc⟩:=LG hx;obtain⟨v,rfl,hv⟩:=int_at hy;have cl:=lt c (ao hc);have pne:p≠pa:=mh Md hpa;refine⟨pa,_,Z,mW.of lH,Z,_,_,Z,_,_,Z,Z,_,Z,_,Z,_,Z,p,_,_,_,Z,Z,(mi pne).trans Md,t8 O zon,mO (lQ sm hpa) pn,⟨_,_,Z⟩,?_⟩;rw[lH,ae,set_int];have e1:ps.take (i+1)=ps.take i++[c]:=by rw[dS,hc];rfl
  have e2:xs.take (i+1)=xs.take i++[v]:=by rw[dS,hv];rfl
  rw[e1,e2];unfold zdn;rw[Rx.z9 _ _ _ _ _ (by rw[cT,cT,l])]
 .rintro σ H2 ⟨sm,⟨o1,o2,rfl⟩,Md⟩;rw[aa,aa,b5,l,b5] at Md;exact⟨_,Z,q p H2 sm pn Md⟩
def OS (H:Hp)(a:Addr)(x:zcf):Prop:=∃b,H a=some (.tup [.int x.1,.int x.2.1,.ref b])/\H b=some (.lst (x.2.2.map zad))
def tI (H:Hp)(r:Addr)(fs:List zcf):Prop:=∃as:ŋ,H r=some (.lst (as.map zbb))/\Paired (OS H) as fs
def pR {α β:Type}{F G:α->β->Prop}:∀{a:List α}{b:List β},Paired F a b->(∀x y,F x y->G x y)->Paired G a b
 | _,_,.nil,_=>.nil
 | _,_,.cons h t,i=>.cons (i _ _ h) (pR t i)
def tI.same {H H':Hp}(sm:lO H H'){fs:List zcf}(h:tI H r fs):tI H' r fs :=
 let ⟨as,h1,h2⟩:=h;⟨as,sm _ _ h1,pR h2 fun _ _ ⟨b,u,v⟩=>⟨b,sm _ _ u,sm _ _ v⟩⟩
def tI.push {H:Hp}{F t b:Addr}{fs:List zcf}{f:zcf}(hF:H F=some (.lst (as.map zbb)))(pa:Paired (OS H) as fs)(ht:H t=some (.tup [.int f.1,.int f.2.1,.ref b]))(hb:H b=some (.lst (f.2.2.map zad)))(nb:b≠F):tI (upd H F (.lst (as.map zbb++[.ref t]))) F (fs++[f]):=by
 have old:Paired (OS (upd H F (.lst (as.map zbb++[.ref t])))) as fs:=by
  have ne:∀(a:Addr)(x:zcf),a∈as->OS H a x->OS (upd H F (.lst (as.map zbb++[.ref t]))) a x:=fun a x ha ⟨c,u,v⟩=>by
   refine⟨c,(mi (p7 u hF (by intro z;cases z))).trans u,(mi (p7 v hF fun z=>?_)).trans v⟩;injection z with z;cases as with
   | nil=>cases ha
   | cons a0 WI=>cases e:x.2.2 with
    | nil=>rw[e] at z;cases z
    | cons y ys=>rw[e] at z;injection z with z1;cases z1
  have go:∀{uE:ŋ}{Fc:List zcf},(∀a∈uE,a∈as)->Paired (OS H) uE Fc->Paired (OS (upd H F (.lst (as.map zbb++[.ref t])))) uE Fc:=fun {uE Fc} sub p=>by
   induction p with
   | nil=>exact .nil
   | cons h _ ih=>exact .cons (ne _ _ (sub _ av) h) (ih fun a ha=>sub a (aq _ ha))
  exact go (fun a h=>h) pa
 refine⟨as++[t],by rw[lH,aQ];rfl,L2.Paired.ER old (.cons ⟨b,(mi (p7 ht hF (by intro z;cases z))).trans ht,(mi nb).trans hb⟩ .nil)⟩
def yB {p:Int}{N:Nat}(pN:p<2^N)(h:Rx.In p l):Bd N l:=fun x hx=>by
 have:=h x hx;have e:=qy N;lia
inductive Uw (vs:ň)(H:Hp)(Q:VK)(_:XK):Prop
 | mk (r s:Addr)(step:ń)(fs:List zcf)(p:Int)(w N:Nat)(_:vs=[.ref r,.ref s,.int p])(_:H r=some (.lst (step.map zad)))(_:tI H s fs)(_:Rx.UG p w fs)(_:step.length=w)(_:w<=20000)(_:0<p)(_:p<2^N)(_:N<=1000000)(_:∀t H',lO H H'->H' t=some (.lst ((zdl p fs step).map zad))->Q (.ref t) H')
def yu:Df P w K mg base 2 "cleared" ["step","found","prime"] Uw:=by
 refine mX T.zhb E7 fun f cdv A outer s H vs Q E hr nd h=>?_;obtain⟨r,s',step,fs,p,w',N,rfl,h1,hF,rk,l,lz,p0,pN,N1,q⟩:=h;obtain⟨as,h2,pa⟩:=id hF;have la:=mw pa;refine⟨_,(lE (xm 3 [("prime",2)] ["weight"] nd (mQ (pv 0)) (fun C s H fp=>⟨(qo 1),mL,(lY m3 (pv 1) (pv 0))⟩)) (lE (nh aO Z (mQ (pv 1)) (oY Z (mI (nW 4 nd) (mI (nW 5 nd) (mI (nW 6 nd) oe)))) (lL (mE 3 nd (mD (tV T) hr (lG (pv 3) (lG (mF mU (pv 3) (pv 5)) (lG (pv 6) (lG (pv 2) mB)))))))) (lL (ma (pv 3))))),xi ?_⟩;intros;refine⟨_,Z,r,Z,⟨_,mj.of h1⟩,?_⟩;refine nT (K:=K) (xs:=step.map zad) (step.map fun x=>x%p) zom zoh (mj.of h1) ?_ ?_
 .intro i x H2 hx sm R k;obtain⟨u,rfl,hu⟩:=int_at hx;exact⟨_,Z,_,Z,_,_,Z,Z,p0,k _ _ (lO.refl _) (by rw[af,hu];rfl)⟩
 .intro D H0 rE _ hD;refine⟨_,Z,s',Z,⟨_,mj.of (rE _ _ h2)⟩,om (K:=K) (xs:=as.map zbb) (fun i σ H2=>lO H H2/\∃(tl:Addr)(o1 o2 o3:œ),σ=[some (.ref r),some (.ref s'),some (.int p),some (.ref tl),o1,o2,o3]/\H2 tl=some (.lst ((zdl p (fs.take i) step).map zad))) ⟨rE,D,none,none,none,Z,hD⟩ (fun i σ H2 _ z=>z.1.seq (mj.of h2)) ?_ ?_⟩
  .rintro i x σ H2 hx ⟨sm,tl,o1,o2,o3,rfl,hl⟩;obtain⟨a,rfl,ha⟩:=rh hx;obtain⟨f,hf,b,ht,hb⟩:=m9 pa ha;have rf:=rk f (ao hf);have ok:=Rx.vh p0 l (fs:=fs.take i) Z fun f hf=>rk f (g8 hf);refine⟨a,_,Z,mW.of (sm _ _ ht),Z,_,_,Z,_,_,Z,_,_,Z,Z,?_⟩;have cg:oi ((zdl p (fs.take i) step).map zad) (f.2.1:Int)=some (.int (zbh (zdl p (fs.take i) step) f.2.1)):=nV zoi;have big:=ok.2.g p0 f.2.1;have e:=qy N;refine⟨_,Z,_,Z,_,Z,tl,_,_,_,Z,Z,mj.of hl,cg,_,Z,_,Z,tl,b,_,f.2.2,_,p,N,N,Z,hl,sm _ _ hb,by rw[ok.1,rf.1],O,p0,O,yB pN rf.2.1,N1,N1,fun t H3 nJ h3=>?_⟩;refine⟨sm.trans nJ,t,_,_,_,Z,?_⟩;have e1:fs.take (i+1)=fs.take i++[f]:=by rw[dS,hf];rfl
   rw[e1,Rx.yd];exact h3
  .rintro σ H2 ⟨sm,tl,o1,o2,o3,rfl,hl⟩;rw[aa,la,b5] at hl;exact⟨_,Z,q tl H2 sm hl⟩
inductive QW (vs:ň)(H:Hp)(Q:VK)(_:XK):Prop
 | mk (r:Addr)(é:ĸ)(p:Int)(w N:Nat)(_:vs=[.ref r,.int p])(_:nM H r é)(_:∀x∈é,x.length=w)(_:w<=20000)(_:é.length<=20000)(_:zbn p)(_:p<2^N)(_:1<=N)(_:N<=9000)(_:∀t H' fs,lO H H'->H t=none->tI H' t fs->Rx.sK p w é é.length fs->Q (.ref t) H')
def Et:Df P w K mg base 5 "corners" ["steps","prime"] QW:=by
 refine mX T.zha Eo fun f cdv A outer s H vs Q E hr nd h=>?_;obtain⟨r,é,p,w',N,rfl,⟨as,h1,pa⟩,lw,lz,ls,hp,pN,N1,N2,q⟩:=h;have la:=mw pa;have p2:=hp.1;refine⟨_,(lE (mE 2 nd (nY mB)) (lE (nh aO Z (qE lD T.zju (mT (pv 0))) (oY Z (mI (nW 3 nd) (mI (nW 4 nd) oe))) (lE (mE 5 nd (mD (yu T) hr (lG (pv 4) (lG (pv 2) (lG (pv 1) mB))))) (lE (mE 6 nd (mD (s9 T) hr (mT (pv 5)))) (lL (nw (nQ Nx (pv 6) t5) (lL (oO (vX cW cO cP o5 (pv 2) (mT (nE (lG (pv 3) (lG (pv 6) (lG (mD (ud T) hr (lG (pv 5) (lG (mD (B3 T) hr (mJ (mF mU (pv 5) (pv 6)) (pv 1))) (lG (pv 1) mB)))) mB)))))))) mR))))) (lL (ma (pv 2))))),xi ?_⟩;intros;refine⟨pO L,fun F hF=>?_⟩;have Mt:lO H (upd H F (.lst [])):=lQ (lO.refl _) hF;refine⟨_,Z,r,Z,⟨_,mj.of (Mt _ _ h1)⟩,rY (K:=K) (xs:=as.map zbb) (fun i σ H2=>lO H H2/\∃(fs:List zcf)(o1 o2 o3 o4:œ),σ=[some (.ref r),some (.int p),some (.ref F),o1,o2,o3,o4]/\tI H2 F fs/\fs.length<=i/\Rx.sK p w' é i fs) ⟨Mt,[],none,none,none,none,Z,⟨[],lH,.nil⟩,aG _,.start ..⟩ (fun i σ H2 _ z=>z.1.seq (mj.of h1)) ?_ ?_⟩
 .rintro i x σ H2 pp hx ⟨sm,fs,o1,o2,o3,o4,rfl,fo,fl,cn⟩ Cd;obtain⟨a,step,rfl,ha,uX,hh⟩:=oM pa hx;have il:i<as.length:=(aJ.mp ha).1;have l:=lw step (ao uX);have sQ:=lQ (o:=.tup [.int (i:Nat),.ref a]) (lO.refl H2) Cd;refine⟨pp,_,Z,mW.of lH,Z,_,_,Z,_,_,Z,Z,?_⟩;refine xi ?_;intros;refine⟨_,Z,_,Z,_,Z,a,F,step,fs,p,w',N,Z,sQ _ _ (sm _ _ hh),fo.same sQ,cn.rok,l,lz,O,pN,O,fun tl H3 nJ hl=>?_⟩;have ok:=Rx.vh (show 0<p by lia) l Z cn.rok;have Vu:=(sm.trans sQ).trans nJ;have fo3:=(fo.same sQ).same nJ;refine⟨_,Z,tl,_,Z,hl,by rw[ok.1];exact lz,fun c H4 sm4 hc nz=>?_,fun H4 sm4 z=>?_⟩
  .rw[ok.1] at hc;have gb:=ok.2.g (show 0<p by lia) c;have WT:=sm4 _ _ hl;have cg:oi ((zdl p fs step).map zad) (c:Int)=some (.int (zbh (zdl p fs step) c)):=nV zoi;refine⟨_,Z,Z,_,Z,rp lB ?_⟩;obtain⟨fas,fh,fpa⟩:=fo3.same sm4;refine⟨_,Z,.inl ⟨Z,_,mj.of fh⟩,_,Z,_,Z,_,Z,_,Z,_,Z,tl,_,_,_,Z,Z,mj.of WT,cg,_,Z,_,p,N,Z,O,N1,N2,pN,fun d d1 dp dg=>?_,fun u H5 u1 u2 hu pH=>?_⟩
   .rcases ū d p with c' | c'
    .rcases ū d 2 with c'' | c''
     .lia
     .exact absurd dp (hp.2 d c'' c')
    .have:=aW (show 0<zbh (zdl p fs step) c by lia) dg;lia
   have e:=qy N;refine⟨_,Z,tl,_,u,p,N,N,Z,pH _ _ WT,by rw[ok.1];exact lz,O,O,yB pN ok.2,O,O,fun tr H6 sR h6=>?_⟩;refine⟨me,fun tt uf=>?_⟩;have Sq:=lQ (o:=.tup [.int (i:Nat),.int (c:Nat),.ref tr]) (lO.refl H6) uf;have smA:=(pH.trans sR).trans Sq;refine⟨F,_,_,Z,Z,smA _ _ fh,?_,?_⟩
   .rw[aa,mw fpa];exact oq O
   .have WU:=pR fpa fun _ _ ⟨b,u,v⟩=>(⟨b,smA _ _ u,smA _ _ v⟩:OS _ _ _);have Fn:H6 F=some (.lst (fas.map zbb)):=sR _ _ (pH _ _ fh);have nb:tr≠F:=fun z=>by
     rw[z] at h6;rw[Fn] at h6;injection h6 with h6;injection h6 with h6;have l6:=cA ķ h6;rw[aa,aa,aa,ok.1] at l6;cases e1:fas with
     | nil=>rw[e1] at l6;simp at l6;lia
     | cons a0 WI=>cases e2:(zdl p fs step) with
      | nil=>rw[e2] at ok;have:=ok.1;simp at this;lia
      | cons y ys=>rw[e1,e2] at h6;injection h6 with z1;cases z1
    refine⟨mO (((Vu.trans sm4).trans (pH.trans sR)).trans Sq) hF,fs++[((i:Nat),c,(zdl p fs step).map fun x=>x*u%p)],_,_,_,_,Z,tI.push (f:=((i:Nat),c,(zdl p fs step).map fun x=>x*u%p)) (smA _ _ fh) WU lH (Sq _ _ h6) nb,by rw[aP];show fs.length+1<=_;lia,cn.some hp uX l hc nz hu⟩
  .refine⟨_,Z,Z,_,Z,oQ lB ?_⟩;exact⟨Vu.trans sm4,fs,_,_,_,_,Z,fo3.same sm4,O,cn.none O uX l (by rw[<-ok.1];exact z)⟩
 .rintro σ H2 ⟨sm,fs,o1,o2,o3,o4,rfl,fo,fl,cn⟩;rw[aa,la] at cn;exact⟨_,Z,q F H2 fs sm hF fo cn⟩
def xM {n i:Nat}(h:i<n)(x:Int):Ld.PR n i x=zei n i x:=by
 unfold Ld.PR zei;have:((i:Int)%n).toNat=i:=by rw[aT O O];lia
 rw[this]
def Lg {N:Nat}{row other:ń}{ë:Int}(m0:0<m)(mN:m<2^N)(h:Bd N row):Bd N (zfa row ë other m):=by
 unfold zfa;split
 .exact h
 .exact yB mN (Rx.In.zip m0 _ _ fun x y=>x-ë*y)
inductive Ud (vs:ň)(H:Hp)(Q:VK)(_:XK):Prop
 | mk (r:Addr)(è:ĸ)(k E N:Nat)(p:Int)(_:vs=[.ref r,.int (p^E)])(_:nM H r è)(_:è.length=k)(_:∀row∈è,row.length=k/\Bd N row)(_:k<=420)(_:1<=E)(_:zbn p)(_:p^E<2^N)(_:1<=N)(_:N<=9000)(_:∀c,c<=k->Mx.xz p c (zcd è))(_:∀t H' us,lO H H'->H t=none->nM H' t us->us.length=k->(∀u∈us,u.length=k/\Bd N u)->Mx.LI (p^E) k (zcd us) (zcd è)->Q (.ref t) H')
def yU:Df P w K mg base 5 "undone_rows" ["rows","modulus"] Ud:=by
 refine mX T.zhf zq fun f cdv A outer s H vs Q E hr nd h=>?_;obtain⟨r,è,k,E',N,p,rfl,⟨as,h1,pa⟩,lr,lw,k4,E1,hp,mN,N1,N2,ind,q⟩:=h;have la:=mw pa;have p2:=hp.1;have m0:0<p^E':=gP O;have pm:p∣p^E':=by
  obtain⟨e,rfl⟩:∃e,E'=e+1:=⟨E'-1,O⟩;exact⟨p^e,by rw[bj,ay]⟩
 have eN:=qy N;have N2':2<=2^N:=bR (n:=2) L N1;generalize hm:p^E'=m at *;refine⟨_,(lE (mE 2 nd (pM T.zji (pv 0))) (lE (xm 3 [("size",2)] ["number","row"] nd (qE lD T.zju (mT (pv 0))) (fun C s H fp=>⟨(tQ 1 2),mL,(lY tP (pv 2) (mD (xJ T) hr (lG (pv 0) (lG (pv 1) (lG lJ mB)))))⟩)) (lE (nh aO Z (nK lD T.zjo (mT (pv 2))) (nW 4 nd) (lE (mE 5 nd (mD (ud T) hr (lG (mF mU (pv 3) (pv 4)) (lG (mD (B3 T) hr (mJ (mF mU (mF mU (pv 3) (pv 4)) (pv 4)) (pv 1))) (lG (pv 1) mB))))) (lE (xm 3 [("lead",5),("modulus",1),("column",4)] ["row"] nd (mQ (pv 3)) (fun C s H fp=>⟨(qo 3),mL,(mD (tV T) hr (lG (pv 3) (lG (mF (qI (K:=K) Z) (pv 3) (pv 2)) (lG (pv 0) (lG (pv 1) mB)))))⟩)) (lL (rz (pv 5) (qZ (pv 3) (pv 4) set_list)))))) (lL (ma (oX [("size",2)] ["row"] (mQ (pv 3)) (fun C s H fp=>⟨(qo 1),mL,(tU (JL (K:=K) Z) (pv 1) (pB (pv 0)) GP)⟩))))))),II ?_⟩;intros;refine⟨_,Z,r,_,Z,.inl (mj.of h1),?_⟩;rw[aa,la,lr];refine⟨_,Z,r,Z,⟨_,mj.of h1⟩,?_⟩;refine Jb (K:=K) (xs:=as.map zbb) (zel k è) (by unfold zel;rw[ģ,š,la]) (by rw[š,la];lia) (mj.of h1) ?_ ?_
 .intro i x H2 pp hx sm Cd R kk;obtain⟨a,row,rfl,ha,nA,hh⟩:=oM pa hx;have il:i<k:=by rw[<-lr];exact(aJ.mp nA).1
  have rl:=lw row (ao nA);have sQ:=lQ (o:=.tup [.int (i:Nat),.ref a]) (lO.refl H2) Cd;refine⟨pp,_,Z,mW.of lH,Z,_,_,Z,_,_,Z,Z,_,Z,_,Z,_,Z,k,(i:Nat),1,Z,O,O,fun ht H3 nJ _ h3=>?_⟩;rw[xM il] at h3;refine⟨a,ht,_,_,Z,Z,nJ _ _ (sQ _ _ (sm _ _ hh)),h3,?_,fun c hc=>?_⟩
  .rw[aa,aa,zfk,rl.1];exact pO O
  .rw[<-aQ];exact kk _ c (row++zei k i 1) (lQ (sQ.trans nJ) hc) (by unfold zel;rw[List.getElem?_mapIdx,nA];rfl) lH
 intro D H0 rE nD hD;have gj0:=Rx.P4 (m:=m) lr fun row h=>(lw row h).1;have au:(zel k è).length=k/\∀row∈zel k è,row.length=k+k/\Bd N row:=by
  refine⟨by unfold zel;rw[ģ,lr],fun row nA=>?_⟩;obtain⟨i,hi,e⟩:=ų nA;unfold zel at e hi;rw[List.getElem_mapIdx] at e;rw[ģ] at hi;have rl:=lw _ (cJ hi);rw[<-e];refine⟨by rw[aP,zfk,rl.1],fun x hx=>?_⟩;rcases ŵ.mp hx with c | c
  .exact rl.2 x c
  .obtain⟨j,hj,ej⟩:=zer c;rw[Rx.rq O] at ej;split at ej<;>(rw[<-ej];lia)
 refine⟨_,Z,k,Z,O,O,oy (n:=k) (fun i σ H2=>lO H H2/\∃(tl:Addr)(ls:ĸ)(o1 o2:œ),σ=[some (.ref r),some (.int m),some (.int k),some (.ref tl),o1,o2]/\nM H2 tl ls/\ls.length=k/\(∀row∈ls,row.length=k+k/\Bd N row)/\Mx.Gj m k (zcd è) i (Rx.wl k ls) (Rx.wr k ls)) ⟨rE,D,_,none,none,Z,hD,au.1,au.2,gj0⟩ ?_ ?_⟩
 .rintro c σ H2 hc ⟨sm,tl,ls,o1,o2,rfl,⟨bs,t1,pb⟩,ll,lb,gj⟩;refine xi ?_;intros;have RG:=mw pb;have nA:=zdx (è:=ls) (i:=c) O;have rl:=lb _ (zdr (è:=ls) (i:=c) O);obtain⟨a,Ov,ha⟩:=zc pb nA;have cg:oi ((ls.getD c []).map zad) (c:Int)=some (.int (zbh (ls.getD c []) c)):=nV zoi;have piv:¬p∣zbh (ls.getD c []) c:=by
   have:=gj.Td p2 pm hc (ind (c+1) hc);unfold Rx.wl at this;rwa [ae] at this
  refine⟨_,Z,_,Z,tl,_,_,_,Z,Z,mj.of t1,Ov,_,Z,_,Z,tl,_,_,_,Z,Z,mj.of t1,Ov,_,Z,a,_,_,_,Z,Z,mj.of ha,cg,_,Z,_,m,N,Z,O,N1,N2,mN,fun d d1 dm dg=>Rx.NX hp piv d1 (by rw[hm];exact dm) dg,fun u H3 u1 u2 hu nJ=>?_⟩;refine⟨_,Z,a,_,u,m,N,N,Z,nJ _ _ ha,O,m0,O,rl.2,O,O,fun le H4 sm4 h4=>?_⟩;obtain⟨lead,rC⟩:∃lead:ń,lead=(ls.getD c []).map fun x=>x*u%m:=⟨_,Z⟩;rw[<-rC] at h4;have lel:lead.length=k+k:=by rw[rC,aa,rl.1]
  have lei:Bd N lead:=by rw[rC];exact yB mN (Rx.In.mod m0 _ fun x=>x*u)
  have t4:=sm4 _ _ (nJ _ _ t1);have pb4:=m5 (nJ.trans sm4) pb;refine⟨_,Z,tl,Z,⟨_,mj.of t4⟩,?_⟩;refine rA (K:=K) (xs:=bs.map zbb) (ls.map fun row=>zfa row (zbh row c) lead m) (by rw[aa,aa,RG]) zoh (mj.of t4) ?_ ?_
  .intro i x H5 hx pH R kk;obtain⟨b,row,rfl,hb,Sr,WV⟩:=oM pb4 hx;have rl5:=lb row (ao Sr);have cg5:oi (row.map zad) (c:Int)=some (.int (zbh row c)):=nV zoi;have gb:=rl5.2 _ (zcy (l:=row) (i:=c) O);exact⟨_,Z,_,Z,_,Z,b,_,_,_,Z,Z,mj.of (pH _ _ WV),cg5,_,Z,_,Z,b,le,row,lead,_,m,N,N,Z,pH _ _ WV,pH _ _ h4,by rw[rl5.1,lel],O,m0,gb,lei,O,O,fun t H6 sR h6=>kk H6 t _ sR (by rw[af,Sr];rfl) h6⟩
  intro D2 H5 pH nD2 ⟨es,e1,pe⟩;have vk:=mw pe;rw[aa] at vk;refine⟨_,Z,_,Z,_,Z,D2,_,_,_,Z,Z,e1,t8 O zoh,?_⟩;have Vv:=(sm.trans nJ).trans sm4;have u1':=Rx.JX (m:=m) (v:=u) ll hc fun row h=>(lb row h).1;have eq:(ls.map fun row=>zfa row (zbh row c) lead m).set c lead=Rx.uZ m c u ls:=by unfold Rx.uZ;rw[rC]
  refine⟨mO (Vv.trans pH) (Vv.free nD2),D2,Rx.uZ m c u ls,_,_,Z,?_,u1'.1,fun row nA=>⟨u1'.2 row nA,?_⟩,Rx.Ng ll (fun row h=>(lb row h).1) gj hc hu⟩
  .rw[<-eq,ae];exact nM.put e1 pe (fun z=>by rw[z] at vk;simp at vk;lia) (pH _ _ h4)
  .rw[<-eq] at nA;rcases ó nA with z | z
   .obtain⟨y,hy,rfl⟩:=ţ.mp z;exact Lg m0 mN (lb y hy).2
   .rw[z];exact lei
 .rintro σ H2 ⟨sm,tl,ls,o1,o2,rfl,⟨bs,t1,pb⟩,ll,lb,gj⟩;have RG:=mw pb;refine⟨_,Z,tl,Z,⟨_,mj.of t1⟩,?_⟩;refine rA (K:=K) (xs:=bs.map zbb) (ls.map fun row=>row.drop k) (by rw[aa,aa,RG]) zoh (mj.of t1) ?_ ?_
  .intro i x H5 hx pH R kk;obtain⟨b,row,rfl,hb,Sr,WV⟩:=oM pb hx;refine⟨_,Z,_,Z,_,Z,b,_,Z,mj.of (pH _ _ WV),fun c hc=>?_⟩;rw[Cs];exact kk _ c (row.drop k) (lQ (lO.refl _) hc) (by rw[af,Sr];rfl) lH
  .intro D2 H5 pH nD2 hD2;refine q D2 H5 _ (sm.trans pH) (sm.free nD2) hD2 (by rw[aa,ll]) (fun u hu=>?_) (Rx.NV ll gj);obtain⟨y,hy,rfl⟩:=ţ.mp hu;exact⟨by rw[cH,(lb y hy).1];lia,fun x hx=>(lb y hy).2 x (iK hx)⟩
def vQ {X:Cx}{K:zfq}(h:X.K=K):R6 X (SJ K):=by subst h;exact mv
def BL {x:Int}(x0:0<=x)(m0:0<=m)(h:vZ x<=m):x<2^m.toNat:=by
 have e:=qy m.toNat;unfold vZ Builtin.Int.intBits at h
 by_cases z:x=0
 .rw[z];exact gP L
 .rw[ah (by simpa using z)] at h;have:=(io (show x.natAbs≠0 by lia)).mp (show x.natAbs.log2<m.toNat by lia);lia
def Fz {x:Int}(x0:0<=x)(m0:0<=m)(h:m<vZ x):2^m.toNat<=x:=Kr x0 m0 h
def Hn {sc ä:Int}(s0:64<=sc)(e:ä=(vZ sc-2)/2):0<=ä/\2<=(2:Int)^ä.toNat/\2*((2:Int)^ä.toNat*2^ä.toNat)<=sc/\sc<8*((2:Int)^ä.toNat*2^ä.toNat):=by
 have b6:6<vZ sc:=by
  rcases ū 6 (vZ sc) with c | c
  .exact c
  .have:=BL O (show (0:Int)<=6 by decide) c;have e6:(2:Int)^(6:Int).toNat=64:=L;lia
 have lo:=Fz (x:=sc) (m:=vZ sc-1) O O O;have hi:=BL (x:=sc) (m:=vZ sc) O O (eL _);have p1:(2:Int)^ä.toNat*2^ä.toNat=2^(ä.toNat+ä.toNat):=by rw[fe]
 have b2:ä.toNat=(ä.toNat-1)+1:=O;refine⟨O,?_,?_,?_⟩
 .rw[b2,bj];have:(1:Int)<=2^(ä.toNat-1):=gP L;lia
 .rw[p1];have a:(2:Int)^(ä.toNat+ä.toNat+1)<=2^(vZ sc-1).toNat:=by
   have n1:=qy (ä.toNat+ä.toNat+1);have n2:=qy (vZ sc-1).toNat;have:=bR (n:=2) L (show ä.toNat+ä.toNat+1<=(vZ sc-1).toNat by lia);lia
  rw[bj] at a;lia
 .rw[p1];have a:(2:Int)^(vZ sc).toNat<=2^(ä.toNat+ä.toNat+3):=by
   have n1:=qy (ä.toNat+ä.toNat+3);have n2:=qy (vZ sc).toNat;have:=bR (n:=2) L (show (vZ sc).toNat<=ä.toNat+ä.toNat+3 by lia);lia
  rw[show ä.toNat+ä.toNat+3=ä.toNat+ä.toNat+1+1+1 from Z,bj,bj,bj] at a;lia
inductive XY (vs:ň)(H:Hp)(Q:VK)(_:XK):Prop
 | mk (x sc ä:Int)(N:Nat)(_:vs=[.int x,.int sc,.int ä])(_:0<=x)(_:x<sc)(_:0<=ä)(_:2^ä.toNat<=sc)(_:1<=N)(_:N<=9000)(_:sc<2^N)(_:∀H' r0 r1 c0 c1,lO H H'->zfo sc x r0 r1 c0 c1->2^ä.toNat<=r0->r1<2^ä.toNat->(c1.natAbs:Int)<=sc->Q (.int c1.natAbs) H')
def xu:Df P w K mg base 4 "least_bottom" ["number","scale","bits"] XY:=by
 refine mX T.zhj xn fun f cdv A outer s H vs Q E hr nd h=>?_;obtain⟨x,sc,ä,N,rfl,x0,x1,b0,bs,N1,N2,fN,q⟩:=h;refine⟨_,(lL (ma (mZ qM lD T.zjr zew (mT (mF mv (mD (wF T) hr (lG (pv 1) (lG (pv 0) (lG (pv 2) mB)))) lJ))))),_,Z,_,Z,_,Z,sc,x,ä,N,Z,O,x0,b0,N1,N2,fN,O,fun t H1 r0 c0 r1 c1 sm h1 S p0 bz big _=>?_⟩;have i3:oi [zad r0,zad c0,zad r1,zad c1] 3=some (.int c1):=Z;refine⟨t,_,_,_,Z,Z,mW.of h1,i3,_,Z,?_⟩;have e:(if c1<0 then -c1 else c1)=(c1.natAbs:Int):=by split<;>lia
 rw[e];exact q H1 r0 r1 c0 c1 sm S (by rcases big with z | z<;>lia) (BL S.p1 b0 bz) (S.c1 O p0)
inductive Ql (K:zfq)(vs:ň)(H:Hp)(Q:VK)(_:XK):Prop
 | mk (r:Addr)(l:ń)(sc:Int)(N:Nat)(_:vs=[.ref r,.int sc])(_:H r=some (.lst (l.map zad)))(_:l.length<=20000)(_:Rx.In sc l)(_:64<=sc)(_:1<=N)(_:N<=9000)(_:sc<2^N)(_:∀Hh:Int,2<=Hh->2*(Hh*Hh)<=sc->sc<8*(Hh*Hh)->(∀H' l1 l2 b,lO H H'->l=l1++l2->Rx.Ch sc Hh l1 b->Hh<=b->Q .non H')/\∀t tt H' b,lO H H'->H' t=some (.tup [.ref tt,.int b])->H' tt=some (.lst ((l.map fun x=>zdw (x*b) sc).map zad))->Rx.Ch sc Hh l b->b<Hh->Q (.ref t) H')
def Bz:Df P w K mg base 5 "fractions" ["rests","scale"] (Ql K):=by
 refine mX T.zhi BX fun f cdv A outer s H vs Q E hr nd h=>?_;obtain⟨r,l,sc,N,rfl,h1,lz,li,s6,N1,N2,fN,q⟩:=h;have eN:=qy N;refine⟨_,(lE (mE 2 nd (lY mS (lY oU (yK fS eY eZ vL (pv 1)) lJ) lJ)) (lE (mE 3 nd lJ) (lE (nh aO Z (mQ (pv 0)) (nW 4 nd) (lE (mE 3 nd (lY mH (pv 3) (mD (xu T) hr (lG (lY m3 (lY mH (pv 4) (pv 3)) (pv 1)) (lG (pv 1) (lG (pv 2) mB)))))) (lL (nw (nQ uO (yK fS eY eZ vL (pv 3)) (pv 2)) (lL (ma t5)) mR)))) (lL (ma (nE (mJ (oX [("scale",1),("bottom",3)] ["number"] (mQ (pv 0)) (fun C s H fp=>⟨(qo 2),mL,(mD (y6 T) hr (mJ (lY mH (pv 2) (pv 1)) (pv 0)))⟩)) (pv 3)))))))),II ?_⟩;intros;refine⟨_,Z,Z,_,Z,Z,_,_,Z,Z,_,_,Z,Z,m8 L L,?_⟩;obtain⟨ä,hb⟩:∃ä:Int,ä=(vZ sc-2)/2:=⟨_,Z⟩;dsimp only;rw[<-hb];have hf:=Hn s6 hb;have qq:=q _ hf.2.1 hf.2.2.1 hf.2.2.2;obtain⟨Hh,Vw⟩:∃Hh:Int,Hh=2^ä.toNat:=⟨_,Z⟩;rw[<-Vw] at hf qq;have WL:Hh<=Hh*Hh:=by have:=ar (show 1<=Hh by lia) (show 0<=Hh by lia);lia
 have HN:Hh<2^N:=O;refine⟨_,Z,r,Z,⟨_,mj.of h1⟩,om (K:=K) (xs:=l.map zad) (fun i σ H2=>lO H H2/\∃(b:Int)(o:œ),σ=[some (.ref r),some (.int sc),some (.int ä),some (.int b),o]/\Rx.Ch sc Hh (l.take i) b/\b<Hh) ⟨lO.refl _,1,none,Z,.nil,O⟩ (fun i σ H2 _ z=>z.1.seq (mj.of h1)) ?_ ?_⟩
 .rintro i x σ H2 hx ⟨sm,b,o,rfl,fr,bH⟩;refine zo ?_;intros;obtain⟨u,rfl,hu⟩:=int_at hx;have um:=li u (ao hu);have b0:=fr.pos O;have m0:=aH (u*b) (show sc≠0 by lia);have m1:=aF (u*b) (show 0<sc by lia);refine⟨_,Z,_,Z,_,Z,_,_,Z,Z,uA (N:=N) (M:=N) O O O O,_,Z,_,_,Z,Z,(show 0<sc by lia),_,Z,_,Z,_,sc,ä,N,Z,m0,m1,hf.1,by rw[<-Vw];lia,N1,N2,fN,fun H3 r0 r1 c0 c1 nJ S h0 Vx cb=>?_⟩;rw[<-Vw] at h0 Vx;refine⟨_,_,Z,Z,uA (N:=N) (M:=N) O O O O,?_⟩;have fr2:Rx.Ch sc Hh (l.take (i+1)) (b*c1.natAbs):=by
   rw[dS,hu];exact fr.snoc S h0 Vx
  have b20:=fr2.pos O;refine⟨_,Z,Z,_,Z,Z,_,Z,_,_,Z,Z,_,Z,oS (fun c=>?_) (fun c=>?_)⟩
  .have gt:=dec c;have:=Fz O hf.1 gt;rw[<-Vw] at this;exact qq.1 H3 (l.take (i+1)) (l.drop (i+1)) _ (sm.trans nJ) (List.take_append_drop ..).symm fr2 this
  .have le:=xy c;have:=BL (x:=b*c1.natAbs) O hf.1 O;rw[<-Vw] at this;exact⟨sm.trans nJ,_,_,Z,fr2,this⟩
 .rintro σ H2 ⟨sm,b,o,rfl,fr,bH⟩;rw[aa,b5] at fr;have b0:=fr.pos O;refine⟨_,Z,r,Z,⟨_,mj.of (sm _ _ h1)⟩,?_⟩;refine nT (K:=K) (xs:=l.map zad) (l.map fun x=>zdw (x*b) sc) zom (by rw[aa];exact lz) (mj.of (sm _ _ h1)) ?_ ?_
  .intro i x H3 hx nJ R k;obtain⟨u,rfl,hu⟩:=int_at hx;have um:=li u (ao hu);exact⟨_,Z,_,Z,_,_,Z,Z,uA (N:=N) (M:=N) O O O O,_,Z,_,sc,Z,O,k _ _ (lO.refl _) (by rw[af,hu];rfl)⟩
  .intro D H3 nJ _ hD;refine⟨_,Z,lR,fun t ht=>?_⟩;exact qq.2 t D _ b (lQ (sm.trans nJ) ht) lH (lQ (lO.refl _) ht _ _ hD) fr bH
def JV (H:Hp)(è:ĸ)(ê:ń)(k:Nat)(tv:V)(Q:VK):Prop :=
 ((tv=.non/\∀H',lO H H'->Q (.bl false) H')\/∃(t tt:Addr)(à:ń)(b:Int),tv=.ref t/\H t=some (.tup [.ref tt,.int b])/\H tt=some (.lst (à.map zad))/\à.length=k/\Bd 20000 à/\b.natAbs<2^20000 /\
  (∀H',lO H H'->(∀i,i<k->zbr (è.getD i []) à=b*zbh ê i)->Q (.bl true) H')/\∀H',lO H H'->¬(∀i,i<k->zbr (è.getD i []) à=b*zbh ê i)->Q (.bl false) H')
inductive X0 (K:zfq)(vs:ň)(H:Hp)(Q:VK)(_:XK):Prop
 | mk (r s:Addr)(è:ĸ)(ê:ń)(k:Nat)(tv:V)(_:vs=[.ref r,.ref s,tv])(_:nM H r è)(_:H s=some (.lst (ê.map zad)))(_:è.length=k)(_:∀row∈è,row.length=k/\Bd 20000 row)(_:ê.length=k)(_:Bd 20000 ê)(_:k<=20000)(_:JV H è ê k tv Q)
def yx:Df P w K mg base 3 "is_solution" ["rows","goal","told"] (X0 K):=by
 refine mX T.zhh y4 fun f cdv A outer s H vs Q E hr nd h=>?_;obtain⟨r,s',è,ê,k,tv,rfl,⟨as,h1,pa⟩,h2,lr,lw,lg,bg,kz,tl⟩:=h;have la:=mw pa;refine⟨_,(lE (nw (nQ BI (pv 2) t5) (lL (ma uV)) mR) (lL (ma (mZ (Am Z) lD T.zjt L2.K3 (mT (oX [("told",2)] ["row","number"] (qP lD T.zjs (mJ (pv 0) (pv 1))) (fun C s H fp=>⟨(tQ 1 2),mL,(oP pX (mD (rn T) hr (mJ (pv 1) (mF (vQ (K:=K) Z) (pv 0) lJ))) (lY mH (mF (vQ (K:=K) Z) (pv 0) lJ) (pv 2)) (pQ _))⟩))))))),zo ?_⟩;intros;refine⟨_,Z,Z,_,Z,?_⟩;rcases tl with ⟨rfl,q⟩ | ⟨t,tt,à,b,rfl,ht,uf,lt,bt,bb,qt,qf⟩
 .exact rp lB (q H (lO.refl _))
 refine oQ lB ?_;have i0:oi [zbb tt,zad b] 0=some (.ref tt):=Z;have i1:oi [zbb tt,zad b] 1=some (.int b):=Z;refine⟨_,Z,_,Z,r,s',Z,⟨_,mj.of h1⟩,⟨_,mj.of h2⟩,?_⟩;obtain⟨zs,WW⟩:∃zs:List Bool,zs=(ŭ k).map fun i=>decide (zbr (è.getD i []) à=b*zbh ê i):=⟨_,Z⟩;have lzs:zs.length=k:=by rw[WW,aa,fZ]
 refine Hl (K:=K) (xs:=as.map zbb) (ys:=ê.map zad) zs (by rw[aa,aa,la,lr,lg]) (by rw[lzs,aa,la,lr]) zoh (mj.of h1) (mj.of h2) ?_ ?_
 .intro i x y H2 p hx hy sm hp R kk;obtain⟨a,row,rfl,ha,nA,hh⟩:=oM pa hx;obtain⟨v,rfl,hv⟩:=int_at hy;have il:i<k:=by rw[<-lr];exact(aJ.mp nA).1
  have rl:=lw row (ao nA);have sQ:=lQ (o:=.tup [.ref a,.int v]) (lO.refl H2) hp;have Me:=sm.trans sQ;refine⟨p,_,Z,mW.of lH,Z,_,_,Z,_,_,Z,Z,_,Z,_,Z,t,_,_,_,Z,Z,mW.of (Me _ _ ht),i0,a,tt,row,à,20000,20000,Z,mj.of (Me _ _ hh),mj.of (Me _ _ uf),by rw[rl.1,lt],O,rl.2,bt,L,L,fun H3 nJ=>?_⟩;refine⟨_,Z,t,_,_,_,Z,Z,mW.of (nJ _ _ (Me _ _ ht)),i1,_,Z,_,_,Z,Z,uA (N:=20000) (M:=20000) bb (bg v (ao hv)) L L,Z,?_⟩;refine kk _ _ (sQ.trans nJ) ?_;rw[WW,af,dj il];show some _=_
  dsimp only;rw[zeg nA,zdo hv];congr 1;exact decide_eq_decide.mpr ⟨fun e=>by rw[e],fun e=>by injection e⟩
 .intro D H2 sm _ hD;refine⟨D,zs,Z,mj.of hD,?_⟩
  by_cases al:∀i,i<k->zbr (è.getD i []) à=b*zbh ê i
  .have:zs.all id=true:=by
    rw[fi];intro z hz;rw[WW] at hz;obtain⟨i,hi,rfl⟩:=ţ.mp hz;exact cB (al i (fj.mp hi))
   rw[this];exact qt H2 sm al
  .have:zs.all id=false:=by
    rcases e:zs.all id with _ | _
    .rfl
    .exfalso;rw[fi] at e;refine al fun i hi=>?_;have:=e (decide (zbr (è.getD i []) à=b*zbh ê i)) (by rw[WW];exact dU.mpr ⟨i,fj.mpr hi,Z⟩);exact fY this
   rw[this];exact qf H2 sm al
def pP {N M:Nat}(h:Bd N l)(le:N<=M):Bd M l:=fun x hx=>bK (h x hx) (bR L le)
inductive To (K:zfq)(vs:ň)(H:Hp)(Q:VK)(_:XK):Prop
 | mk (r u s:Addr)(è us:ĸ)(ê:ń)(k E N D B:Nat)(p:Int)(_:vs=[.ref r,.ref u,.int (p^E),.ref s])(_:nM H r è)(_:nM H u us)(_:H s=some (.lst (ê.map zad)))(_:è.length=k)(_:∀row∈è,row.length=k/\Bd N row)(_:us.length=k)(_:∀row∈us,row.length=k/\Bd N row)(_:ê.length=k)(_:Bd N ê)(_:k<=420)(_:1<=N)(_:N<=9000)(_:64<=p^E)(_:Rx.Sc p k (zcd è) (zbg ê) D B)(_:Mx.RI (p^E) k (zcd è) (zcd us))(_:1<=B)(_:128*((B:Int)*B)*(128*((B:Int)*B))*p^E<=2^N)(_:∀t tt H' à b,lO H H'->H' t=some (.tup [.ref tt,.int b])->H' tt=some (.lst (à.map zad))->à.length=k->1<=b->b∣(D:Int)->b<2^N->Bd N à->(∀i:Nat,i<k->(zag k fun t=>zcd è i t*zbg à t)=b*zbg ê i)->Q (.ref t) H')
def Ad:Df P w K mg base 6 "solved" ["rows","undoing","modulus","goal"] (To K):=by
 refine mX T.zhg Im fun f cdv A outer s H vs Q E hr nd h=>?_;obtain⟨r,u,s',è,us,ê,k,E',N,D,B,p,rfl,hR,hU,hG,lr,lw,lu,lv,lg,bg,k4,N1,N2,m6,S,ri,B1,lim,q⟩:=h;obtain⟨as,h1,pa⟩:=id hR;obtain⟨bs,h2,pb⟩:=id hU;have la:=mw pa;have lb:=mw pb;have eN:=qy N;have p2:=S.hp.1;obtain⟨m,hm⟩:∃m:Int,m=p^E':=⟨_,Z⟩;rw[<-hm] at m6 ri lim ⊢;obtain⟨Lm,hLm⟩:∃Lm:Int,Lm=128*((B:Int)*B):=⟨_,Z⟩;rw[<-hLm] at lim;have Lm1:1<Lm:=by
  have:(1:Int)*1<=(B:Int)*B:=df O O O O;lia
 have mN:m<2^N:=by
  have a:(2:Int)*2<=Lm*Lm:=df O O O O;have:=ar a (show 0<=m by lia);lia
 have pw:∀d:Nat,m^d=p^(E'*d):=fun d=>by rw[hm,Int.pow_mul]
 have mp:∀d:Nat,1<=m^d:=fun d=>gP O;have rb:∀i t:Nat,i<k->t<k->(zcd è i t).natAbs<=2^N:=fun i t hi ht=>by
  rw[Rx.wJ];have l:=lw _ (zdr (è:=è) (i:=i) O);exact cK (l.2 _ (zcy O))
 have gb:∀i:Nat,i<k->(zbg ê i).natAbs<=2^N:=fun i hi=>by
  unfold zbg;rw[ae];exact cK (bg _ (zcy O))
 have lfb:∀(d:Nat)(ã left:ń),left.length=k->Mx.Bn k (zcd è) (zbg ê) (m^d) (zbg ã) (zbg left)->Bd (N+10) left:=fun d ã left ll lif x hx=>by
  obtain⟨i,hi,e⟩:=zer hx;have:=Rx.NN (mp d) lif rb gb i O;unfold zbg at this;rw[ae,e] at this;have e10:2^(N+10)=2^N*1024:=by rw[fO]
  have:k*2^N<=420*2^N:=b9 _ k4;have:=gk (n:=N) (show 0<2 by decide);lia
 have rsi:∀(d:Nat)(ã left:ń),ã.length=k->Mx.Bn k (zcd è) (zbg ê) (m^d) (zbg ã) (zbg left)->Rx.In (m^d) ã:=fun d ã left ll lif x hx=>by
  obtain⟨i,hi,e⟩:=zer hx;have:=lif.rg i O;unfold zbg at this;rwa [ae,e] at this
 have RH:∀d j:Nat,m^d<Lm->j<=d+1->m^(d+j)<2^N/\d<N:=fun d j lt le=>by
  have a:m^(d+j)<=m^(d+(d+1)):=by
   rw[show d+(d+1)=d+j+(d+1-j) by lia,fe m (d+j)];have:=aB (mp (d+1-j)) (show 0<=m^(d+j) by have:=mp (d+j);lia);lia
  have b:m^(d+(d+1))=m^d*m^d*m:=by rw[fe,bj,aE]
  have c:m^d*m^d<=(Lm-1)*(Lm-1):=df O O (by have:=mp d;lia) O;have c2:(Lm-1)*(Lm-1)=Lm*Lm-2*Lm+1:=by grind
  have c3:=ar (show m^d*m^d<=Lm*Lm-1 by lia) (show 0<=m by lia);rw[cZ] at c3;refine⟨O,?_⟩;have e1:m^d<=m^(d+(d+1)):=by
   rw[fe];have:=aB (mp (d+1)) (show 0<=m^d by have:=mp d;lia);lia
  have e2:(2:Int)^d<=m^d:=by
   have:=iO (show 2<=m.toNat by lia) d;have e3:((m.toNat^d:Nat):Int)=m^d:=by rw[eO,show ((m.toNat:Nat):Int)=m by lia]
   have e4:=qy d;lia
  have e4:=qy d;exact(Nat.pow_lt_pow_iff_right (a:=2) L).mp O
 refine⟨_,(lE (mE 4 nd (lY re (nY (mT lJ)) (pM T.zji (pv 3)))) (lE (mE 5 nd (nE (mJ (pv 4) lJ))) (lE (mE 6 nd (pv 3)) (lE (mE 7 nd lJ) (lE (mE 8 nd lJ) (lE (oV aO (qD (pJ (mD (yx T) hr (lG (pv 0) (lG (pv 3) (lG (pv 5) mB)))))) (lE (nh aO Z (nK lD T.zjo (mT (pv 8))) (nW 9 nd) (lE (mE 10 nd (oX [("modulus",2),("left",6)] ["row"] (mQ (pv 1)) (fun C s H fp=>⟨(qo 2),mL,(lY m3 (mD (rn T) hr (mJ (pv 2) (pv 1))) (pv 0))⟩))) (lE (mE 6 nd (oX [("modulus",2),("more",10)] ["row","number"] (qP lD T.zjs (mJ (pv 0) (pv 6))) (fun C s H fp=>⟨(tQ 2 3),mL,(lY mS (lY oU (pv 3) (mD (rn T) hr (mJ (pv 2) (pv 1)))) (pv 0))⟩))) (lE (xm 4 [("scale",7)] ["number","beyond"] nd (qP lD T.zjs (mJ (pv 4) (pv 10))) (fun C s H fp=>⟨(tQ 1 2),mL,(lY mY (pv 1) (lY mH (pv 0) (pv 2)))⟩)) (lL (mE 7 nd (lY mH (pv 7) (pv 2)))))))) (lE (mE 5 nd (mD (Bz T) hr (mJ (pv 4) (pv 7)))) (lL (mE 8 nd (lY mY (lY mY (pv 8) (lY mS (pv 8) lJ)) lJ)))))) (lL (ma (pv 5))))))))),Wx ?_⟩;intros;refine⟨lI,fun lo zX=>⟨_,Z,s',_,Z,.inl (mj.of (lQ (lO.refl _) zX _ _ hG)),?_⟩⟩;rw[aa,lg];refine⟨lo,_,_,Z,Z,lH,O,O,zoj,fun tr WX=>?_⟩;rw[rep0];refine⟨_,Z,lR,fun t0 Oq=>?_⟩;have Su:=lQ (o:=.lst [zad 0]) (lO.refl H) zX;have smR:=lQ (o:=.lst ((ş k (0:Int)).map zad)) Su WX;have rE:=lQ (o:=.tup [zbb tr,zad 1]) smR Oq;have zY:=lQ (o:=.tup [zbb tr,zad 1]) (lO.refl _) Oq _ _ (lH (H:=upd H lo (.lst [zad 0])) (a:=tr) (o:=.lst ((ş k (0:Int)).map zad)));have hT0:upd (upd (upd H lo (.lst [zad 0])) tr (.lst ((ş k (0:Int)).map zad))) t0 (.tup [zbb tr,zad 1]) t0=some (.tup [zbb tr,zad 1]):=lH;generalize upd (upd (upd H lo (.lst [zad 0])) tr (.lst ((ş k (0:Int)).map zad))) t0 (.tup [zbb tr,zad 1])=H0 at rE zY hT0 ⊢;refine⟨_,Z,?_⟩;have zbQ:Mx.Bn k (zcd è) (zbg ê) (m^0) (zbg (ş k (0:Int))) (zbg ê):=by
  have z:zbg (ş k (0:Int))=fun _=>0:=by
   funext c;unfold zbg;rcases ů c.toNat k with y | y
   .exact Rx.DL y
   .exact Rx.Cw (by rw[bq];exact y)
  rw[z,eU];exact Mx.Bn.start ..
 refine⟨fun mm σ H'=>lO H H'/\∃(d ë:Nat)(tr tl:Addr)(ã left:ń)(tv:V)(o1 o2:œ),σ=[some (.ref r),some (.ref u),some (.int m),some (.ref s'),some (.ref tr),some tv,some (.ref tl),some (.int (m^d)),some (.int ë),o1,o2]/\H' tr=some (.lst (ã.map zad))/\H' tl=some (.lst (left.map zad))/\ã.length=k/\left.length=k/\Mx.Bn k (zcd è) (zbg ê) (m^d) (zbg ã) (zbg left)/\1<=ë/\ë<=d+1/\mm=(Lm-m^d).toNat /\
   ((tv=.non/\m^d<Lm)\/∃(t tt:Addr)(à:ń)(b:Int),tv=.ref t/\H' t=some (.tup [.ref tt,.int b])/\H' tt=some (.lst (à.map zad))/\à.length=k/\Bd N à/\1<=b/\b<2^N /\
    ((∀i:Nat,i<k->(zag k fun t=>zcd è i t*zbg à t)=b*zbg ê i)->b∣(D:Int))/\(¬(∀i:Nat,i<k->(zag k fun t=>zcd è i t*zbg à t)=b*zbg ê i)->m^d<Lm)),
  ⟨_,rE,0,1,tr,s',ş k 0,ê,.ref t0,none,none,by rw[eU];rfl,zY,rE _ _ hG,bq,lg,zbQ,aG 1,aG 1,Z,.inr ⟨t0,tr,ş k 0,1,Z,hT0,zY,bq,fun x hx=>by rw[(gJ.mp hx).2];exact gk L,eL 1,O,fun _=>g7 _,fun _=>by rw[eU];exact Lm1⟩⟩,?_⟩
 rintro mm σ H' ⟨sm,d,ë,tr,tl,ã,left,tv,o1,o2,rfl,Ms,hl',Fg,ll,lif,mn1,mn2,rfl,tok⟩;have eqs:∀(à:ń)(b:Int),à.length=k->((∀i,i<k->zbr (è.getD i []) à=b*zbh ê i)↔∀i:Nat,i<k->(zag k fun t=>zcd è i t*zbg à t)=b*zbg ê i):=fun à b lt=>by
  have e:∀i,i<k->(zbr (è.getD i []) à=b*zbh ê i↔(zag k fun t=>zcd è i t*zbg à t)=b*zbg ê i):=fun i hi=>by
   rw[Rx.Em lr (fun row h=>(lw row h).1) hi lt];unfold zbg;rw[ae]
  exact⟨fun h i hi=>(e i hi).mp (h i hi),fun h i hi=>(e i hi).mpr (h i hi)⟩
 have RJ:∀row∈è,row.length=k/\Bd 20000 row:=fun row h=>⟨(lw row h).1,pP (lw row h).2 O⟩;have RK:Bd 20000 ê:=pP bg O;have Fh:∀Qq:VK,(∀H1,lO H' H1->m^d<Lm->Qq (.bl false) H1)->(∀H1 t tt à b,lO H' H1->tv=.ref t->H' t=some (.tup [.ref tt,.int b])->H' tt=some (.lst (à.map zad))->à.length=k->Bd N à->1<=b->b<2^N->b∣(D:Int)->(∀i:Nat,i<k->(zag k fun t=>zcd è i t*zbg à t)=b*zbg ê i)->Qq (.bl true) H1) ->
   JV H' è ê k tv Qq:=fun Qq F Y=>by
  rcases tok with ⟨e,lt⟩ | ⟨t,tt,à,b,e,ht,uf,lt,bt,b1,b2,y,n⟩
  .exact .inl ⟨e,fun H1 s1=>F H1 s1 lt⟩
  .exact .inr ⟨t,tt,à,b,e,ht,uf,lt,pP bt O,bK (show b.natAbs<2^N by lia) (bR L O),fun H1 s1 al=>Y H1 t tt à b s1 e ht uf lt bt b1 b2 (y ((eqs à b lt).mp al)) ((eqs à b lt).mp al),fun H1 s1 al=>F H1 s1 (n fun z=>al ((eqs à b lt).mpr z))⟩
 clear tok;refine⟨_,Z,_,Z,_,Z,r,s',è,ê,k,tv,Z,hR.same sm,sm _ _ hG,lr,RJ,lg,RK,O,Fh _ (fun H1 nS lt=>?_) (fun H1 t tt à b nS e ht uf lt bt b1 b2 bD sol=>?_)⟩
 rotate_left
 .refine⟨_,Z,oQ L ?_⟩;subst e;exact⟨_,Z,q t tt H1 à b (sm.trans nS) (nS _ _ ht) (nS _ _ uf) lt b1 bD b2 bt sol⟩
 refine⟨_,Z,rp L ⟨_,fun _ _ h=>h,?_⟩⟩;refine xi ?_;intros;have WY:=sm.trans nS;have dN:=(RH d 0 lt O).2;refine⟨_,Z,ë,Z,O,O,oy (n:=ë) (fun j σ H2=>lO H H2/\∃(tr tl:Addr)(ã left:ń)(o1 o2:œ),σ=[some (.ref r),some (.ref u),some (.int m),some (.ref s'),some (.ref tr),some tv,some (.ref tl),some (.int (m^(d+j))),some (.int ë),o1,o2]/\H2 tr=some (.lst (ã.map zad))/\H2 tl=some (.lst (left.map zad))/\ã.length=k/\left.length=k/\Mx.Bn k (zcd è) (zbg ê) (m^(d+j)) (zbg ã) (zbg left)) ⟨WY,tr,tl,ã,left,o1,o2,Z,nS _ _ Ms,nS _ _ hl',Fg,ll,lif⟩ ?_ ?_⟩
 .rintro j σ H2 hj ⟨nZ,tr,tl,ã,left,o1,o2,rfl,Ms,hl',Fg,ll,lif⟩;refine II ?_;intros;have WZ:=lfb (d+j) ã left ll lif;have rin:=rsi (d+j) ã left Fg lif;have bg1:=RH d j lt O;have h2':=nZ _ _ h2;refine⟨_,Z,u,Z,⟨_,mj.of h2'⟩,?_⟩;obtain⟨more,GX⟩:∃more:ń,more=us.map fun u=>zbr u left%m:=⟨_,Z⟩;have lm:more.length=k:=by rw[GX,aa,lu]
  have zbR:Rx.In m more:=by rw[GX];intro x hx;obtain⟨y,_,rfl⟩:=ţ.mp hx;exact⟨Int.emod_nonneg _ O,Int.emod_lt_of_pos _ O⟩
  refine nT (K:=K) (xs:=bs.map zbb) more (by rw[lm,aa,lb,lu]) zoh (mj.of h2') ?_ ?_
  .intro i x H3 hx nJ R kk;obtain⟨a,row,rfl,ha,nA,hh⟩:=oM pb hx;have rl:=lv row (ao nA);exact⟨_,Z,_,Z,a,tl,row,left,N,N+10,Z,mj.of (nJ _ _ (nZ _ _ hh)),mj.of (nJ _ _ hl'),by rw[rl.1,ll],O,rl.2,WZ,O,O,fun H4 sm4=>⟨_,Z,_,_,Z,Z,(show 0<m by lia),kk _ _ sm4 (by rw[GX,af,nA];rfl)⟩⟩
  intro tm H3 nJ _ hm3;have Vx:=nJ _ _ (nZ _ _ h1);have RL:=nJ _ _ hl';have mb:Bd N more:=fun x hx=>by have:=zbR x hx;lia
  refine⟨_,Z,_,Z,r,tl,Z,⟨_,mj.of Vx⟩,⟨_,mj.of RL⟩,?_⟩;obtain⟨qA,Mg⟩:∃qA:ń,qA=ž (fun row x=>(x-zbr row more)/m) è left:=⟨_,Z⟩;have ll':qA.length=k:=by rw[Mg,eQ,lr,ll,gT]
  refine qY (K:=K) (xs:=as.map zbb) (ys:=left.map zad) qA (by rw[aa,aa,la,lr,ll]) (by rw[ll',aa,la,lr]) zoh (mj.of Vx) (mj.of RL) ?_ ?_
  .intro i x y H4 pp hx hy sm4 Cd R kk;obtain⟨a,row,rfl,ha,nA,hh⟩:=oM pa hx;obtain⟨v,rfl,hv⟩:=int_at hy;have rl:=lw row (ao nA);have sQ:=lQ (o:=.tup [.ref a,.int v]) (lO.refl H4) Cd;refine⟨pp,_,Z,mW.of lH,Z,_,_,Z,_,_,Z,Z,_,Z,_,Z,_,Z,a,tm,row,more,N,N,Z,mj.of (sQ _ _ (sm4 _ _ (nJ _ _ (nZ _ _ hh)))),mj.of (sQ _ _ (sm4 _ _ hm3)),by rw[rl.1,lm],O,rl.2,mb,O,O,fun H5 pH=>⟨_,_,Z,Z,_,Z,_,_,Z,Z,va O (show m.natAbs<2^N by lia) N2,kk _ _ (sQ.trans pH) (by rw[Mg,cy,nA,hv])⟩⟩
  intro tl2 H4 sm4 _ WT;have hr4:=sm4 _ _ (nJ _ _ Ms);have W1:=sm4 _ _ hm3;refine⟨_,Z,_,Z,tr,tm,Z,⟨_,mj.of hr4⟩,⟨_,mj.of W1⟩,?_⟩;obtain⟨zx,Fi⟩:∃zx:ń,zx=ž (fun r y=>r+m^(d+j)*y) ã more:=⟨_,Z⟩;have Vy:zx.length=k:=by rw[Fi,eQ,Fg,lm,gT]
  refine qY (K:=K) (xs:=ã.map zad) (ys:=more.map zad) zx (by rw[aa,aa,Fg,lm]) (by rw[Vy,aa,Fg]) zoh (mj.of hr4) (mj.of W1) ?_ ?_
  .intro i x y H5 pp hx hy pH Cd R kk;obtain⟨v1,rfl,hv1⟩:=int_at hx;obtain⟨v2,rfl,hv2⟩:=int_at hy;refine⟨pp,_,Z,mW.of lH,Z,_,_,Z,_,_,Z,Z,?_⟩;have:=mp (d+j);exact⟨_,Z,_,Z,_,Z,_,_,Z,Z,uA (N:=N+1) (M:=N) (by rw[dX];lia) (mb v2 (ao hv2)) O O,_,_,Z,Z,kk _ _ (lQ (lO.refl _) Cd) (by rw[Fi,cy,hv1,hv2])⟩
  intro tr2 H5 pH _ Sr;have:=mp (d+j);refine⟨_,Z,_,Z,_,_,Z,Z,uA (N:=N+1) (M:=N+1) (by rw[dX];lia) (by rw[dX];lia) O O,((nZ.trans nJ).trans sm4).trans pH,tr2,tl2,zx,qA,some (zad j),some (zbb tm),?_,Sr,pH _ _ WT,Vy,ll',?_⟩
  .rw[show d+(j+1)=d+j+1 from Z,bj];rfl
  .rw[show d+(j+1)=d+j+1 from Z,bj,Mg,Fi];exact Rx.Kb O (mp (d+j)) lr (fun row h=>(lw row h).1) lu (fun row h=>(lv row h).1) Fg ll ri lif GX
 .rintro σ H2 ⟨nZ,tr,tl,ã,left,o1,o2,rfl,Ms,hl',Fg,ll,lif⟩;have bg1:=RH d ë lt mn2;have rin:=rsi (d+ë) ã left Fg lif;have Wq:64<=m^(d+ë):=by
   rw[show d+ë=d+ë-1+1 by lia,bj];have:=ar (mp (d+ë-1)) (show 0<=m by lia);lia
  have grow:m^d<m^(d+ë):=by
   rw[fe];have a:m<=m^ë:=by
    rw[show ë=ë-1+1 by lia,bj];have:=ar (mp (ë-1)) (show 0<=m by lia);lia
   have:=aB (show 2<=m^ë by lia) (show 0<=m^d by have:=mp d;lia);have:=mp d;lia
  have ew:=pw (d+ë);have Ow:=lif;rw[ew] at Ow;have em:(ë:Int)+(ë:Int)/2+1=((ë+ë/2+1:Nat):Int):=O;have hm2:ë+ë/2+1<=d+ë+1:=O;have fnm:∀(b:Int),zbg (ã.map fun x=>zdw (x*b) (m^(d+ë)))=fun t=>if t.toNat<k then zdw (zbg ã t*b) (m^(d+ë)) else 0:=fun b=>by
   funext t;unfold zbg
   by_cases c:t.toNat<k
   .rw[aA c,Rx.tE O]
   .rw[ah c,Rx.Cw zoh]
  refine⟨_,Z,_,Z,tr,ã,m^(d+ë),N,Z,Ms,O,rin,Wq,N1,N2,bg1.1,fun Hh h2h HH H8=>⟨fun H3 l1 l2 b nJ el fr Hb=>?_,fun t tt H3 b nJ ht uf fr bH=>?_⟩⟩
  .have lt':m^(d+ë)<Lm:=by
    rw[hLm,ew];rw[ew] at fr HH H8;exact S.none Ow Fg el fr Hb O HH H8
   refine⟨_,Z,_,Z,_,_,Z,Z,m8 L L,_,_,Z,Z,_,_,Z,Z,(Lm-m^(d+ë)).toNat,O,nZ.trans nJ,d+ë,ë+ë/2+1,tr,tl,ã,left,.non,o1,o2,(by rw[<-em];rfl),nJ _ _ Ms,nJ _ _ hl',Fg,ll,lif,O,hm2,Z,.inl ⟨Z,lt'⟩⟩
  .have WL:Hh<=Hh*Hh:=by have:=ar (show 1<=Hh by lia) (show 0<=Hh by lia);lia
   have b0:=fr.pos O;have sc0:0<m^(d+ë):=O;have key:(∀i:Nat,i<k->(zag k fun t=>zcd è i t*zbg (ã.map fun x=>zdw (x*b) (m^(d+ë))) t)=b*zbg ê i)↔∀i:Nat,i<k->(zag k fun t=>zcd è i t*zdw (zbg ã t*b) (p^(E'*(d+ë))))=b*zbg ê i:=by
    have e:∀i:Nat,(zag k fun t=>zcd è i t*zbg (ã.map fun x=>zdw (x*b) (m^(d+ë))) t)=zag k fun t=>zcd è i t*zdw (zbg ã t*b) (p^(E'*(d+ë))):=fun i=>zbc fun t ht=>by
     rw[fnm,<-ew];dsimp only;rw[aA O]
    exact⟨fun h i hi=>by rw[<-e];exact h i hi,fun h i hi=>by rw[e];exact h i hi⟩
   refine⟨_,Z,_,Z,_,_,Z,Z,m8 L L,_,_,Z,Z,_,_,Z,Z,(Lm-m^(d+ë)).toNat,O,nZ.trans nJ,d+ë,ë+ë/2+1,tr,tl,ã,left,.ref t,o1,o2,(by rw[<-em];rfl),nJ _ _ Ms,nJ _ _ hl',Fg,ll,lif,O,hm2,Z,.inr ⟨t,tt,_,b,Z,ht,uf,by rw[aa,Fg],fun x hx=>?_,O,O,fun sol=>?_,fun nsol=>?_⟩⟩
   .obtain⟨y,_,rfl⟩:=ţ.mp hx;have r0:=aH (y*b) (show m^(d+ë)≠0 by lia);have r1:=aF (y*b) sc0;unfold zdw;split<;>lia
   .have zbS:=key.mp sol;rw[ew] at fr HH;exact S.bot Ow Fg fr bH O HH zbS
   .rw[hLm,ew];rw[ew] at fr HH H8;exact S.not Ow Fg fr O HH H8 fun z=>nsol (key.mpr z)
def NC {X:Cx}{K:zfq}{e:Expr}{f:Str}{pos:Pos}{ta:TE}(h:X.K=K)(he:PE X e ta)(hb:attributeBase e f X.env (eval e X.env)=eval e X.env):PE X (.Attribute e f pos) (TF K ta f):=by subst h;exact oA he hb
def qL (f:Str)(v:V):∀{fs:List (Str×V)}{n:Nat},fs.length<=n->(pI f v fs).length<=n+1
 | [],n,_=>by show 1<=n+1;lia
 | (g,x)::r,n,h=>by
  show (if g=f then (g,v)::r else (g,x)::pI f v r).length<=n+1
  rw[bJ] at h;split
  .rw[bJ];lia
  .rw[bJ];have:=qL f v (fs:=r) (n:=n-1) O;lia
def F1 (w:Int):List (Str×V):=pI "size" (.int w) []
def Lo (w:Int):(F1 w).length<=1:=by
 unfold F1;exact qL _ _ (aG 0)
def F2 (w:Int)(p:Int):List (Str×V):=pI "prime" (.int p) (F1 w)
def Jx (w:Int)(p:Int):(F2 w p).length<=2:=by
 unfold F2;exact qL _ _ (Lo w)
def F3 (w:Int)(p:Int)(fo:Addr):List (Str×V):=pI "found" (.ref fo) (F2 w p)
def Lp (w:Int)(p:Int)(fo:Addr):(F3 w p fo).length<=3:=by
 unfold F3;exact qL _ _ (Jx w p)
def F4 (w:Int)(p:Int)(fo:Addr)(ch:Addr):List (Str×V):=pI "chosen" (.ref ch) (F3 w p fo)
def LC (w:Int)(p:Int)(fo:Addr)(ch:Addr):(F4 w p fo ch).length<=4:=by
 unfold F4;exact qL _ _ (Lp w p fo)
def F5 (w:Int)(p:Int)(fo:Addr)(ch:Addr)(co:Addr):List (Str×V):=pI "columns" (.ref co) (F4 w p fo ch)
def Ji (w:Int)(p:Int)(fo:Addr)(ch:Addr)(co:Addr):(F5 w p fo ch co).length<=5:=by
 unfold F5;exact qL _ _ (LC w p fo ch)
def F6 (w:Int)(p:Int)(fo:Addr)(ch:Addr)(co:Addr)(ro:Addr):List (Str×V):=pI "rows" (.ref ro) (F5 w p fo ch co)
def Ki (w:Int)(p:Int)(fo:Addr)(ch:Addr)(co:Addr)(ro:Addr):(F6 w p fo ch co ro).length<=6:=by
 unfold F6;exact qL _ _ (Ji w p fo ch co)
def F7 (w:Int)(p:Int)(fo:Addr)(ch:Addr)(co:Addr)(ro:Addr)(md:Int):List (Str×V):=pI "modulus" (.int md) (F6 w p fo ch co ro)
def Qj (w:Int)(p:Int)(fo:Addr)(ch:Addr)(co:Addr)(ro:Addr)(md:Int):(F7 w p fo ch co ro md).length<=7:=by
 unfold F7;exact qL _ _ (Ki w p fo ch co ro)
def F8 (w:Int)(p:Int)(fo:Addr)(ch:Addr)(co:Addr)(ro:Addr)(md:Int)(un:Addr):List (Str×V):=pI "undoing" (.ref un) (F7 w p fo ch co ro md)
def Jj (w:Int)(p:Int)(fo:Addr):(F3 w p fo).lookup ("found":Str)=some (.ref fo):=by
 unfold F3;rw[lX,aA Z]
def KW (w:Int)(p:Int)(fo:Addr)(ch:Addr):(F4 w p fo ch).lookup ("found":Str)=some (.ref fo):=by
 unfold F4;rw[lX,ah lh];unfold F3;rw[lX,aA Z]
def Il (w:Int)(p:Int)(fo:Addr)(ch:Addr)(co:Addr):(F5 w p fo ch co).lookup ("chosen":Str)=some (.ref ch):=by
 unfold F5;rw[lX,ah lh];unfold F4;rw[lX,aA Z]
def Ef (w:Int)(p:Int)(fo:Addr)(ch:Addr)(co:Addr):(F5 w p fo ch co).lookup ("columns":Str)=some (.ref co):=by
 unfold F5;rw[lX,aA Z]
def Nf (w:Int)(p:Int)(fo:Addr)(ch:Addr)(co:Addr)(ro:Addr)(md:Int):(F7 w p fo ch co ro md).lookup ("rows":Str)=some (.ref ro):=by
 unfold F7;rw[lX,ah lh];unfold F6;rw[lX,aA Z]
def EC (w:Int)(p:Int)(fo:Addr)(ch:Addr)(co:Addr)(ro:Addr)(md:Int):(F7 w p fo ch co ro md).lookup ("modulus":Str)=some (.int md):=by
 unfold F7;rw[lX,aA Z]
def Ny (w:Int)(p:Int)(fo:Addr)(ch:Addr)(co:Addr)(ro:Addr)(md:Int)(un:Addr):(F8 w p fo ch co ro md un).lookup ("size":Str)=some (.int w):=by
 unfold F8;rw[lX,ah lh];unfold F7;rw[lX,ah lh];unfold F6;rw[lX,ah lh];unfold F5;rw[lX,ah lh];unfold F4;rw[lX,ah lh];unfold F3;rw[lX,ah lh];unfold F2;rw[lX,ah lh];unfold F1;rw[lX,aA Z]
def Jo (w:Int)(p:Int)(fo:Addr)(ch:Addr)(co:Addr)(ro:Addr)(md:Int)(un:Addr):(F8 w p fo ch co ro md un).lookup ("prime":Str)=some (.int p):=by
 unfold F8;rw[lX,ah lh];unfold F7;rw[lX,ah lh];unfold F6;rw[lX,ah lh];unfold F5;rw[lX,ah lh];unfold F4;rw[lX,ah lh];unfold F3;rw[lX,ah lh];unfold F2;rw[lX,aA Z]
def Lx (w:Int)(p:Int)(fo:Addr)(ch:Addr)(co:Addr)(ro:Addr)(md:Int)(un:Addr):(F8 w p fo ch co ro md un).lookup ("found":Str)=some (.ref fo):=by
 unfold F8;rw[lX,ah lh];unfold F7;rw[lX,ah lh];unfold F6;rw[lX,ah lh];unfold F5;rw[lX,ah lh];unfold F4;rw[lX,ah lh];unfold F3;rw[lX,aA Z]
def Al (w:Int)(p:Int)(fo:Addr)(ch:Addr)(co:Addr)(ro:Addr)(md:Int)(un:Addr):(F8 w p fo ch co ro md un).lookup ("chosen":Str)=some (.ref ch):=by
 unfold F8;rw[lX,ah lh];unfold F7;rw[lX,ah lh];unfold F6;rw[lX,ah lh];unfold F5;rw[lX,ah lh];unfold F4;rw[lX,aA Z]
def yl (w:Int)(p:Int)(fo:Addr)(ch:Addr)(co:Addr)(ro:Addr)(md:Int)(un:Addr):(F8 w p fo ch co ro md un).lookup ("columns":Str)=some (.ref co):=by
 unfold F8;rw[lX,ah lh];unfold F7;rw[lX,ah lh];unfold F6;rw[lX,ah lh];unfold F5;rw[lX,aA Z]
def GL (w:Int)(p:Int)(fo:Addr)(ch:Addr)(co:Addr)(ro:Addr)(md:Int)(un:Addr):(F8 w p fo ch co ro md un).lookup ("rows":Str)=some (.ref ro):=by
 unfold F8;rw[lX,ah lh];unfold F7;rw[lX,ah lh];unfold F6;rw[lX,aA Z]
def y8 (w:Int)(p:Int)(fo:Addr)(ch:Addr)(co:Addr)(ro:Addr)(md:Int)(un:Addr):(F8 w p fo ch co ro md un).lookup ("modulus":Str)=some (.int md):=by
 unfold F8;rw[lX,ah lh];unfold F7;rw[lX,aA Z]
def yQ (w:Int)(p:Int)(fo:Addr)(ch:Addr)(co:Addr)(ro:Addr)(md:Int)(un:Addr):(F8 w p fo ch co ro md un).lookup ("undoing":Str)=some (.ref un):=by
 unfold F8;rw[lX,aA Z]
def HP (w:Int)(p:Int)(fo:Addr)(ch:Addr)(co:Addr)(ro:Addr)(md:Int)(un:Addr):(F8 w p fo ch co ro md un).lookup ("missed":Str)=none:=by
 unfold F8;rw[lX,ah lh];unfold F7;rw[lX,ah lh];unfold F6;rw[lX,ah lh];unfold F5;rw[lX,ah lh];unfold F4;rw[lX,ah lh];unfold F3;rw[lX,ah lh];unfold F2;rw[lX,ah lh];unfold F1;rw[lX,ah lh];rfl
def AA (w:Int)(p:Int)(fo:Addr)(ch:Addr)(co:Addr)(ro:Addr)(md:Int)(un:Addr):(F8 w p fo ch co ro md un).lookup ("counts":Str)=none:=by
 unfold F8;rw[lX,ah lh];unfold F7;rw[lX,ah lh];unfold F6;rw[lX,ah lh];unfold F5;rw[lX,ah lh];unfold F4;rw[lX,ah lh];unfold F3;rw[lX,ah lh];unfold F2;rw[lX,ah lh];unfold F1;rw[lX,ah lh];rfl
def yN (w:Int)(p:Int)(fo:Addr)(ch:Addr)(co:Addr)(ro:Addr)(md:Int)(un:Addr):(F8 w p fo ch co ro md un).lookup ("weights":Str)=none:=by
 unfold F8;rw[lX,ah lh];unfold F7;rw[lX,ah lh];unfold F6;rw[lX,ah lh];unfold F5;rw[lX,ah lh];unfold F4;rw[lX,ah lh];unfold F3;rw[lX,ah lh];unfold F2;rw[lX,ah lh];unfold F1;rw[lX,ah lh];rfl
structure yq (C:Addr)(H:Hp)(x:Addr)(p:Int)(w:Nat)(é:ĸ)(fs:List zcf)(us:ĸ):Prop where
 ex:∃dx fo ch co ro un,H x=some (.ins C dx (F8 w p fo ch co ro (p^16) un))/\tI H fo fs/\H ch=some (.lst ((ni (zbi fs)).map zad))/\H co=some (.lst ((ni (zbu fs)).map zad))/\nM H ro (zby é fs)/\nM H un us
def yq.same {C:Addr}{H H':Hp}(sm:lO H H'){x:Addr}{p:Int}{w:Nat}{é:ĸ}{fs:List zcf}{us:ĸ}(h:yq C H x p w é fs us):yq C H' x p w é fs us:=by
 obtain⟨dx,fo,ch,co,ro,un,a,b,c,d,e,f⟩:=h.ex;exact⟨dx,fo,ch,co,ro,un,sm _ _ a,b.same sm,sm _ _ c,sm _ _ d,e.same sm,f.same sm⟩
def pA {H:Hp}{x b C dx:Addr}{fs:List (Str×V)}{l:ň}{o:HO}(hx:H x=some (.ins C dx fs))(hb:H b=some (.lst l)):upd H x o b=some (.lst l):=(mi (p7 hb hx (by intro z;cases z))).trans hb
def sM {H:Hp}{x C dx:Addr}{fs:List (Str×V)}{o:HO}(hx:H x=some (.ins C dx fs))(h:nM H r è):nM (upd H x o) r è :=
 let ⟨as,h1,h2⟩:=h;⟨as,pA hx h1,pR h2 fun _ _ z=>pA hx z⟩
def tI.R3 {H:Hp}{x C dx:Addr}{fl:List (Str×V)}{o:HO}(hx:H x=some (.ins C dx fl)){fs:List zcf}(h:tI H r fs):tI (upd H x o) r fs :=
 let ⟨as,h1,h2⟩:=h;⟨as,pA hx h1,pR h2 fun _ _ ⟨b,u,v⟩=>⟨b,(mi (p7 u hx (by intro z;cases z))).trans u,pA hx v⟩⟩
def Kx (x:Addr)(H H':Hp):Prop:=∀b o,H b=some o->b≠x->H' b=some o
def Kx.upd {x:Addr}{H H':Hp}(h:Kx x H H')(o:HO):Kx x H (upd H' x o):=fun b u e ne=>by rw[mi ne];exact h b u e ne
def Kx.same {x:Addr}{H H' H'':Hp}(h:Kx x H H')(sm:lO H' H''):Kx x H H'':=fun b u e ne=>sm _ _ (h b u e ne)
structure OX (p:Int)(w N:Nat)(é:ĸ)(fs:List zcf)(us:ĸ):Prop where
 crn:Rx.sK p w é é.length fs
 ul:us.length=fs.length
 uw:∀u∈us,u.length=fs.length/\Bd N u
 li:Mx.LI (p^16) fs.length (zcd us) (zcd (zby é fs))
def A6 {p:Int}{w N:Nat}{é:ĸ}{fs:List zcf}(h:Rx.sK p w é é.length fs)(lw:∀x∈é,x.length=w/\Bd N x):∀row∈zby é fs,row.length=fs.length/\Bd N row:=fun row nA=>by
 refine⟨zej.2 row nA,fun y hy=>?_⟩;unfold zby at nA;obtain⟨f,hf,rfl⟩:=ţ.mp nA;obtain⟨c,hc,rfl⟩:=ţ.mp hy;have l:=lw _ (zdr (è:=é) (h.lt f hf));exact l.2 _ (zcy (by rw[l.1];exact zfb h c hc))
inductive Qz (C:Addr)(vs:ň)(H:Hp)(Q:VK)(_:XK):Prop
 | mk (x s dx:Addr)(é:ĸ)(p:Int)(w N:Nat)(_:vs=[.ref x,.ref s,.int w,.int p])(_:H x=some (.ins C dx []))(_:nM H s é)(_:∀y∈é,y.length=w/\Bd N y)(_:w<=420)(_:é.length<=20000)(_:zbn p)(_:p<2^30)(_:480<=N)(_:N<=9000)(_:∀H' fs us,Kx x H H'->yq C H' x p w é fs us->OX p w N é fs us->Q .non H')
def zK:Kf P w K mg base 6 CF "Frame" ["self","steps","size","prime"] (Qz CF):=by
 refine T.zje.ok uU (fun vs H Q E h=>?_) (fun f cdv A outer s H vs Q E hr h=>?_)
 .obtain⟨_,_,_,_,_,_,_,rfl,_⟩:=h;rfl
 obtain⟨x,s',dx,é,p,w',N,rfl,hx,hS,lw,w4,ls,hp,Mu,N4,N9,q⟩:=h;have p2:=hp.1;have nd:=uU.nd;have p16:p^16<2^N:=by
  have a:=j7 (show p.toNat<2^30 by lia) (show 16≠0 by decide);have b:=bR (n:=2) L N4;have c:((p.toNat^16:Nat):Int)=p^16:=by rw[eO,show ((p.toNat:Nat):Int)=p by lia]
  have d:(2^30)^16=2^480:=by rw[<-Nat.pow_mul]
  rw[d] at a;have e:=qy N;have:=bK a b;lia
 refine⟨_,(lE (t6 (pv 0) (pv 2) Z) (lE (t6 (pv 0) (pv 3) Z) (lE (t6 (pv 0) (mD (Et T) hr (mJ (pv 1) (pv 3))) Z) (lE (t6 (pv 0) (oX [] ["number","column","row"] (mQ (oA (pv 0) Z)) (fun C s H fp=>⟨(oY Z (mI (qH (i:=0) (show (["number","column","row"]:ō).Nodup by decide +kernel) Z (ć Z) (ċ Z)) (mI (qH (i:=1) (show (["number","column","row"]:ō).Nodup by decide +kernel) Z (ć Z) (ċ Z)) (mI (qH (i:=2) (show (["number","column","row"]:ō).Nodup by decide +kernel) Z (ć Z) (ċ Z)) oe)))),mL,(pv 0)⟩) (hl:=(rF L L L))) Z) (lE (t6 (pv 0) (oX [] ["number","column","row"] (mQ (oA (pv 0) Z)) (fun C s H fp=>⟨(oY Z (mI (qH (i:=0) (show (["number","column","row"]:ō).Nodup by decide +kernel) Z (ć Z) (ċ Z)) (mI (qH (i:=1) (show (["number","column","row"]:ō).Nodup by decide +kernel) Z (ć Z) (ċ Z)) (mI (qH (i:=2) (show (["number","column","row"]:ō).Nodup by decide +kernel) Z (ć Z) (ċ Z)) oe)))),mL,(pv 1)⟩) (hl:=(rF L L L))) Z) (lE (t6 (pv 0) (oX [("steps",1),("self",0)] ["number"] (mQ (oA (pv 0) Z)) (fun C s H fp=>⟨(qo 2),mL,(mD (wM T) hr (mJ (mF (qI (K:=K) Z) (pv 0) (pv 2)) (NC (K:=K) Z (pv 1) Z)))⟩)) Z) (lE (t6 (pv 0) (lY Ba (pv 3) lJ) Z) (lL (t6 (pv 0) (mD (yU T) hr (mJ (oA (pv 0) Z) (oA (pv 0) Z))) Z))))))))),sq7 ?_⟩;intros
 -- size,prime
 refine⟨_,Z,_,Z,x,CF,dx,[],Z,hx,T.ziv,T.ziw,(by show 0<1000;decide),?_⟩;have k1:Kx x H (upd H x (.ins CF dx (F1 w'))):=Kx.upd (fun b o e _=>e) _;have x1:upd H x (.ins CF dx (F1 w')) x=some (.ins CF dx (F1 w')):=lH;have S1:nM (upd H x (.ins CF dx (F1 w'))) s' é:=sM hx hS;show _
 have e1:upd H x (.ins CF dx (pI "size" (.int w') []))=upd H x (.ins CF dx (F1 w')):=Z;rw[e1];generalize upd H x (.ins CF dx (F1 w'))=H1 at k1 x1 S1 ⊢;refine⟨_,Z,_,Z,x,CF,dx,_,Z,x1,T.ziv,T.zix,bL (Lo _) L,?_⟩;have k2:Kx x H (upd H1 x (.ins CF dx (F2 w' p))):=k1.upd _;have x2:upd H1 x (.ins CF dx (F2 w' p)) x=some (.ins CF dx (F2 w' p)):=lH;have S2:nM (upd H1 x (.ins CF dx (F2 w' p))) s' é:=sM x1 S1;have e2:upd H1 x (.ins CF dx (pI "prime" (.int p) (F1 w')))=upd H1 x (.ins CF dx (F2 w' p)):=Z;rw[e2];generalize upd H1 x (.ins CF dx (F2 w' p))=H2 at k2 x2 S2 ⊢
 -- found
 refine⟨_,Z,_,Z,s',é,p,w',N,Z,S2,fun y hy=>(lw y hy).1,O,ls,hp,by have e:=qy N;have:=bR (n:=2) L (show 30<=N by lia);lia,O,N9,fun fo H3 fs nJ nfo hfo crn=>?_⟩;have kl:=crn.fr.HF hp;have x3:=nJ _ _ x2;refine⟨_,Z,x,CF,dx,_,Z,x3,T.ziv,T.ziy,bL (Jx _ _) L,?_⟩;have k4:Kx x H (upd H3 x (.ins CF dx (F3 w' p fo))):=(k2.same nJ).upd _;have x4:upd H3 x (.ins CF dx (F3 w' p fo)) x=some (.ins CF dx (F3 w' p fo)):=lH;have S4:nM (upd H3 x (.ins CF dx (F3 w' p fo))) s' é:=sM x3 (S2.same nJ);have f4:tI (upd H3 x (.ins CF dx (F3 w' p fo))) fo fs:=hfo.R3 x3;have e3:upd H3 x (.ins CF dx (pI "found" (.ref fo) (F2 w' p)))=upd H3 x (.ins CF dx (F3 w' p fo)):=Z;rw[e3];generalize upd H3 x (.ins CF dx (F3 w' p fo))=H4 at k4 x4 S4 f4 ⊢
 -- chosen
 obtain⟨as,fa,fp⟩:=id f4;have la:=mw fp;refine⟨_,Z,x,CF,dx,_,_,Z,x4,T.ziv,T.ziy,Jj _ _ _,fo,Z,⟨_,mj.of fa⟩,?_⟩;refine nT (K:=K) (xs:=as.map zbb) (ni (zbi fs)) (by rw[aa,aa];unfold zbi;rw[š,la]) (by rw[š];lia) (mj.of fa) ?_ ?_
 .intro i y H5 hy pH R kk;obtain⟨a,rfl,ha⟩:=rh hy;obtain⟨f,hf,b,ht,hb⟩:=m9 fp ha;exact⟨a,_,Z,mW.of (pH _ _ ht),Z,_,_,Z,_,_,Z,_,_,Z,Z,_,Z,kk _ _ (lO.refl _) (by unfold zbi;rw[List.getElem?_map,List.getElem?_map,hf];rfl)⟩
 intro ch H5 pH _ Ci;have x5:=pH _ _ x4;refine⟨_,Z,x,CF,dx,_,Z,x5,T.ziv,T.ziz,bL (Lp _ _ _) L,?_⟩;have k6:Kx x H (upd H5 x (.ins CF dx (F4 w' p fo ch))):=(k4.same pH).upd _;have x6:upd H5 x (.ins CF dx (F4 w' p fo ch)) x=some (.ins CF dx (F4 w' p fo ch)):=lH;have S6:nM (upd H5 x (.ins CF dx (F4 w' p fo ch))) s' é:=sM x5 (S4.same pH);have f6:tI (upd H5 x (.ins CF dx (F4 w' p fo ch))) fo fs:=(f4.same pH).R3 x5;have c6:upd H5 x (.ins CF dx (F4 w' p fo ch)) ch=some (.lst ((ni (zbi fs)).map zad)):=pA x5 Ci;have e4:upd H5 x (.ins CF dx (pI "chosen" (.ref ch) (F3 w' p fo)))=upd H5 x (.ins CF dx (F4 w' p fo ch)):=Z;rw[e4];generalize upd H5 x (.ins CF dx (F4 w' p fo ch))=H6 at k6 x6 S6 f6 c6 ⊢
 -- columns
 obtain⟨as,fa,fp⟩:=id f6;have la:=mw fp;refine⟨_,Z,x,CF,dx,_,_,Z,x6,T.ziv,T.ziy,KW _ _ _ _,fo,Z,⟨_,mj.of fa⟩,?_⟩;refine nT (K:=K) (xs:=as.map zbb) (ni (zbu fs)) (by rw[aa,aa];unfold zbu;rw[š,la]) (by rw[š];lia) (mj.of fa) ?_ ?_
 .intro i y H7 hy sm7 R kk;obtain⟨a,rfl,ha⟩:=rh hy;obtain⟨f,hf,b,ht,hb⟩:=m9 fp ha;exact⟨a,_,Z,mW.of (sm7 _ _ ht),Z,_,_,Z,_,_,Z,_,_,Z,Z,_,Z,kk _ _ (lO.refl _) (by unfold zbu;rw[List.getElem?_map,List.getElem?_map,hf];rfl)⟩
 intro co H7 sm7 _ Vz;have x7:=sm7 _ _ x6;refine⟨_,Z,x,CF,dx,_,Z,x7,T.ziv,T.zja,bL (LC _ _ _ _) L,?_⟩;have k8:Kx x H (upd H7 x (.ins CF dx (F5 w' p fo ch co))):=(k6.same sm7).upd _;have x8:upd H7 x (.ins CF dx (F5 w' p fo ch co)) x=some (.ins CF dx (F5 w' p fo ch co)):=lH;have S8:nM (upd H7 x (.ins CF dx (F5 w' p fo ch co))) s' é:=sM x7 (S6.same sm7);have f8:tI (upd H7 x (.ins CF dx (F5 w' p fo ch co))) fo fs:=(f6.same sm7).R3 x7;have c8:upd H7 x (.ins CF dx (F5 w' p fo ch co)) ch=some (.lst ((ni (zbi fs)).map zad)):=pA x7 (sm7 _ _ c6);have o8:upd H7 x (.ins CF dx (F5 w' p fo ch co)) co=some (.lst ((ni (zbu fs)).map zad)):=pA x7 Vz;have e5:upd H7 x (.ins CF dx (pI "columns" (.ref co) (F4 w' p fo ch)))=upd H7 x (.ins CF dx (F5 w' p fo ch co)):=Z;rw[e5];generalize upd H7 x (.ins CF dx (F5 w' p fo ch co))=H8 at k8 x8 S8 f8 c8 o8 ⊢
 -- è
 obtain⟨ss,sa,sp⟩:=id S8;have lss:=mw sp;have Ox:(zbi fs).length=fs.length:=by unfold zbi;rw[š]
 refine⟨_,Z,x,CF,dx,_,_,Z,x8,T.ziv,T.ziz,Il _ _ _ _ _,ch,Z,⟨_,mj.of c8⟩,?_⟩;refine rA (K:=K) (xs:=(ni (zbi fs)).map zad) (zby é fs) (by rw[zej.1,aa,aa,Ox]) (by rw[aa,aa,Ox];lia) (mj.of c8) ?_ ?_
 .intro i y H9 hy vj R kk;obtain⟨n,rfl,hn⟩:=LG hy;have il:i<fs.length:=by rw[<-Ox];exact(aJ.mp hn).1
  obtain⟨f,hf⟩:∃f,fs[i]?=some f:=⟨_,List.getElem?_eq_getElem il⟩;have en:n=f.1:=by
   unfold zbi at hn;rw[af,hf] at hn;exact(bO hn).symm
  subst en;have fl:=crn.lt f (ao hf);obtain⟨a,Ov,ha⟩:=zc sp (zdx fl);have ll:=lw _ (zdr (è:=é) fl);refine⟨_,Z,_,Z,s',_,_,_,Z,Z,mj.of (vj _ _ sa),Ov,_,Z,x,CF,dx,_,_,Z,vj _ _ x8,T.ziv,T.zja,Ef _ _ _ _ _,a,co,_,zbu fs,Z,mj.of (vj _ _ ha),vj _ _ o8,fun c hc=>by rw[aa,ll.1];exact zfb crn c hc,by unfold zbu;rw[š];lia,fun t xD wR _ h10=>?_⟩;rw[KO _ _ fun c hc=>by rw[ll.1];exact zfb crn c hc] at h10;exact kk xD t _ wR (by unfold zby;rw[List.getElem?_map,hf];rfl) h10
 intro ro H9 vj _ IQ;have x9:=vj _ _ x8;refine⟨_,Z,x,CF,dx,_,Z,x9,T.ziv,T.zjb,bL (Ji _ _ _ _ _) L,?_⟩;have k10:Kx x H (upd H9 x (.ins CF dx (F6 w' p fo ch co ro))):=(k8.same vj).upd _;have Sv:upd H9 x (.ins CF dx (F6 w' p fo ch co ro)) x=some (.ins CF dx (F6 w' p fo ch co ro)):=lH;have f10:tI (upd H9 x (.ins CF dx (F6 w' p fo ch co ro))) fo fs:=(f8.same vj).R3 x9;have c10:upd H9 x (.ins CF dx (F6 w' p fo ch co ro)) ch=some (.lst ((ni (zbi fs)).map zad)):=pA x9 (vj _ _ c8);have Mv:upd H9 x (.ins CF dx (F6 w' p fo ch co ro)) co=some (.lst ((ni (zbu fs)).map zad)):=pA x9 (vj _ _ o8);have WM:nM (upd H9 x (.ins CF dx (F6 w' p fo ch co ro))) ro (zby é fs):=sM x9 IQ;have e6:upd H9 x (.ins CF dx (pI "rows" (.ref ro) (F5 w' p fo ch co)))=upd H9 x (.ins CF dx (F6 w' p fo ch co ro)):=Z;rw[e6];generalize upd H9 x (.ins CF dx (F6 w' p fo ch co ro))=xD at k10 Sv f10 c10 Mv WM ⊢
 -- modulus
 refine⟨_,Z,_,_,Z,Z,⟨L,L,O⟩,_,Z,x,CF,dx,_,Z,Sv,T.ziv,T.zjc,bL (Ki _ _ _ _ _ _) L,?_⟩;have k11:Kx x H (upd xD x (.ins CF dx (F7 w' p fo ch co ro (p^16)))):=k10.upd _;have W3:upd xD x (.ins CF dx (F7 w' p fo ch co ro (p^16))) x=some (.ins CF dx (F7 w' p fo ch co ro (p^16))):=lH;have f11:tI (upd xD x (.ins CF dx (F7 w' p fo ch co ro (p^16)))) fo fs:=f10.R3 Sv;have c11:upd xD x (.ins CF dx (F7 w' p fo ch co ro (p^16))) ch=some (.lst ((ni (zbi fs)).map zad)):=pA Sv c10;have GY:upd xD x (.ins CF dx (F7 w' p fo ch co ro (p^16))) co=some (.lst ((ni (zbu fs)).map zad)):=pA Sv Mv;have r11:nM (upd xD x (.ins CF dx (F7 w' p fo ch co ro (p^16)))) ro (zby é fs):=sM Sv WM;have e7:upd xD x (.ins CF dx (pI "modulus" ((fun (i j:Int)=>zad (i^j.toNat)) p 16) (F6 w' p fo ch co ro)))=upd xD x (.ins CF dx (F7 w' p fo ch co ro (p^16))):=Z;rw[e7];generalize upd xD x (.ins CF dx (F7 w' p fo ch co ro (p^16)))=IR at k11 W3 f11 c11 GY r11 ⊢
 -- undoing
 refine⟨_,Z,x,CF,dx,_,_,Z,W3,T.ziv,T.zjb,Nf _ _ _ _ _ _ _,_,Z,x,CF,dx,_,_,Z,W3,T.ziv,T.zjc,EC _ _ _ _ _ _ _,ro,zby é fs,fs.length,16,N,p,Z,r11,zej.1,A6 crn lw,O,L,hp,p16,O,N9,fun c hc=>crn.ind c hc,fun un Mw us oG _ vA ul uw li=>?_⟩;have Sw:=oG _ _ W3;refine⟨_,Z,x,CF,dx,_,Z,Sw,T.ziv,T.zjd,bL (Qj _ _ _ _ _ _ _) L,?_⟩;refine q _ fs us ((k11.same oG).upd _) ⟨dx,fo,ch,co,ro,un,lH,(f11.same oG).R3 Sw,pA Sw (oG _ _ c11),pA Sw (oG _ _ GY),sM Sw (r11.same oG),sM Sw vA⟩ ⟨crn,ul,uw,li⟩
structure Nb (p:Int)(k D C G B N:Nat):Prop where
 DB:D<=B
 big:k*(D*(zcp k C*G))<=B
 B1:1<=B
 lim:128*((B:Int)*B)*(128*((B:Int)*B))*p^16<=2^N
 GN:G<2^N
 N1:480<=N
 N2:N<=9000
def LR {N k:Nat}(lr:è.length=k)(lw:∀row∈è,row.length=k/\Bd N row):∀row∈zeq k è,row.length=k/\Bd N row:=fun row h=>by
 refine⟨(Rx.B9 lr).2 row h,fun x hx=>?_⟩;unfold zeq at h;obtain⟨c,hc,rfl⟩:=ţ.mp h;obtain⟨y,hy,rfl⟩:=ţ.mp hx;exact(lw y hy).2 _ (zcy (by rw[(lw y hy).1];exact fj.mp hc))
inductive QP (C:Addr)(vs:ň)(H:Hp)(Q:VK)(_:XK):Prop
 | mk (x s:Addr)(é:ĸ)(fs:List zcf)(us:ĸ)(ê:ń)(p:Int)(w N:Nat)(_:vs=[.ref x,.ref s])(_:yq C H x p w é fs us)(_:OX p w N é fs us)(_:zbn p)(_:p<2^30)(_:480<=N)(_:N<=9000)(_:w<=420)(_:H s=some (.lst (ê.map zad)))(_:ê.length=w)(_:∀(c:Nat) H',lO H H'->c<w->zbh (zdl p fs ê) c≠0->Q (.int c) H')(_:∀H',lO H H'->(∀c,c<w->zbh (zdl p fs ê) c=0)->Q .non H')
def xp:Mf P w K mg base 3 CF "missed" ["self","goal"] (QP CF):=by
 refine T.zjf.ok tf (fun vs H Q E h=>?_) (fun f cdv A outer s H vs Q E hr h=>?_)
 .obtain⟨_,_,_,_,_,_,_,_,_,rfl,_⟩:=h;rfl
 obtain⟨x,s',é,fs,us,ê,p,w',N,rfl,fa,fo,hp,Mu,N4,N9,w4,hg,lg,q1,q2⟩:=h;obtain⟨dx,ff,ch,co,ro,un,hx,hf,_⟩:=fa.ex;have p2:=hp.1;have nd:=tf.nd;refine⟨_,(lL (ma (mD (s9 T) hr (mT (mD (yu T) hr (lG (pv 1) (lG (oA (pv 0) Z) (lG (oA (pv 0) Z) mB)))))))),_,Z,_,Z,x,CF,dx,_,_,Z,hx,T.ziv,T.ziy,Lx _ _ _ _ _ _ _ _,_,Z,x,CF,dx,_,_,Z,hx,T.ziv,T.zix,Jo _ _ _ _ _ _ _ _,s',ff,ê,fs,p,w',30,Z,hg,hf,fo.crn.rok,lg,O,O,Mu,L,fun t H1 nS h1=>?_⟩;have ok:=Rx.vh (show 0<p by lia) lg Z fo.crn.rok;refine⟨t,_,Z,h1,O,fun c H2 nZ hc nz=>q1 c H2 (nS.trans nZ) O nz,fun H2 nZ z=>q2 H2 (nS.trans nZ) fun c hc=>z c O⟩
inductive SZ (C:Addr)(vs:ň)(H:Hp)(Q:VK)(_:XK):Prop
 | mk (x s:Addr)(é:ĸ)(fs:List zcf)(us:ĸ)(ê:ń)(p:Int)(w N D Cc G B:Nat)(_:vs=[.ref x,.ref s])(_:yq C H x p w é fs us)(_:OX p w N é fs us)(_:zfi p w é fs us D Cc)(_:Nb p fs.length D Cc G B N)(_:∀y∈é,y.length=w/\Bd N y)(_:w<=420)(_:1000<=p)(_:H s=some (.lst (ê.map zad)))(_:ê.length=w)(_:∀c,c<w->(zbh ê c).natAbs<=G)(_:∀t tt H' à b,lO H H'->H' t=some (.tup [.ref tt,.int b])->H' tt=some (.lst (à.map zad))->à.length=fs.length->1<=b->b∣(D:Int)->b<2^N->Bd N à->(∀i:Nat,i<fs.length->(zag fs.length fun t=>zbq é (zcq fs t.toNat) (zbv fs i)*zbg à t)=b*zbh ê (zbv fs i))->Q (.ref t) H')
def Wq {p:Int}(p2:1000<=p):64<=p^16:=by
 rw[bj];have:1<=p^15:=gP O;have:=ar this (show 0<=p by lia);lia
def sW:Mf P w K mg base 7 CF "counts" ["self","goal"] (SZ CF):=by
 refine T.zjg.ok sY (fun vs H Q E h=>?_) (fun f cdv A outer s H vs Q E hr h=>?_)
 .obtain⟨_,_,_,_,_,_,_,_,_,_,_,_,_,rfl,_⟩:=h;rfl
 obtain⟨x,s',é,fs,us,ê,p,w',N,D,Cc,G,B,rfl,fa,fo,fm,nb,lw,w4,zy,hg,lg,gb,q⟩:=h;obtain⟨dx,ff,ch,co,ro,un,hx,hf,Ci,Vz,IQ,vA⟩:=fa.ex;have nd:=sY.nd;have kl:=fo.crn.fr.HF fm.hp;have rb:=A6 fo.crn lw;have N1:=nb.N1;have N2:=nb.N2;refine⟨_,(lL (ma (mD (Ad T) hr (lG (mD (y9 T) hr (mT (oA (pv 0) Z))) (lG (mD (y9 T) hr (mT (oA (pv 0) Z))) (lG (oA (pv 0) Z) (lG (mD (wM T) hr (mJ (pv 1) (oA (pv 0) Z))) mB))))))),_,Z,x,CF,dx,_,_,Z,hx,T.ziv,T.zjb,GL _ _ _ _ _ _ _ _,ro,zby é fs,fs.length,Z,IQ,zej.1,zej.2,O,fun r1 H1 nS _ h1=>?_⟩;refine⟨_,Z,x,CF,dx,_,_,Z,nS _ _ hx,T.ziv,T.zjd,yQ _ _ _ _ _ _ _ _,un,us,fs.length,Z,vA.same nS,fo.ul,fun u hu=>(fo.uw u hu).1,O,fun u1 H2 nZ _ h2=>?_⟩;have oG:=nS.trans nZ;refine⟨_,Z,x,CF,dx,_,_,Z,oG _ _ hx,T.ziv,T.zjc,y8 _ _ _ _ _ _ _ _,_,Z,_,Z,x,CF,dx,_,_,Z,oG _ _ hx,T.ziv,T.zja,yl _ _ _ _ _ _ _ _,s',co,_,zbu fs,Z,mj.of (oG _ _ hg),oG _ _ Vz,fun c hc=>by rw[aa,lg];exact zfb fo.crn c hc,by unfold zbu;rw[š];lia,fun g1 H3 nJ _ h3=>?_⟩;rw[KO _ _ fun c hc=>by rw[lg];exact zfb fo.crn c hc] at h3;have lc:(zbu fs).length=fs.length:=by unfold zbu;rw[š]
 have gat:∀i:Nat,i<fs.length->zbg ((zbu fs).map fun c=>zbh ê c) i=zbh ê (zbv fs i):=fun i hi=>by
  unfold zbg;rw[ae];exact zdo (by rw[af,Rx.A1 hi];rfl)
 have gB:∀i:Nat,i<fs.length->(zbg ((zbu fs).map fun c=>zbh ê c) i).natAbs<=G:=fun i hi=>by
  rw[gat i hi];exact gb _ (fo.crn.cor.colw i hi)
 have fl:=Rx.B9 (k:=fs.length) (è:=zby é fs) zej.1;have fu:=Rx.B9 (k:=fs.length) (è:=us) fo.ul;refine⟨r1,u1,g1,zeq fs.length (zby é fs),zeq fs.length us,_,fs.length,16,N,D,B,p,Z,h1.same (nZ.trans nJ),h2.same nJ,h3,fl.1,LR zej.1 rb,fu.1,LR fo.ul fo.uw,by rw[aa,lc],fun y hy=>?_,O,O,N2,Wq zy,fm.sc1 gB nb.DB nb.big,fm.ri1,nb.B1,nb.lim,fun t tt H4 à b sm4 ht uf lt b1 bD bN bt sol=>?_⟩
 .obtain⟨c,hc,rfl⟩:=ţ.mp hy;have:=gb c (zfb fo.crn c hc);have:=nb.GN;lia
 .refine q t tt H4 à b ((oG.trans nJ).trans sm4) ht uf lt b1 bD bN bt fun i hi=>?_;rw[<-gat i hi,<-sol i hi];refine zbc fun j hj=>?_;rw[Rx.wA zej.1 hi hj,Rx.vR hj hi,ae]
inductive T3 (C:Addr)(vs:ň)(H:Hp)(Q:VK)(_:XK):Prop
 | mk (x s:Addr)(é:ĸ)(fs:List zcf)(us:ĸ)(am:ń)(p:Int)(w N D Cc G B:Nat)(_:vs=[.ref x,.ref s])(_:yq C H x p w é fs us)(_:OX p w N é fs us)(_:zfi p w é fs us D Cc)(_:Nb p fs.length D Cc G B N)(_:∀y∈é,y.length=w/\Bd N y)(_:w<=420)(_:1000<=p)(_:H s=some (.lst (am.map zad)))(_:am.length=fs.length)(_:∀c,c<fs.length->(zbh am c).natAbs<=G)(_:∀t tt H' à b,lO H H'->H' t=some (.tup [.ref tt,.int b])->H' tt=some (.lst ((zdn w (zbu fs) à).map zad))->H tt=none->à.length=fs.length->1<=b->b∣(D:Int)->b<2^N->Bd N à->(∀i:Nat,i<fs.length->(zag fs.length fun t=>zbq é (zcq fs i) (zbv fs t.toNat)*zbg à t)=b*zbh am i)->Q (.ref t) H')
def sj:Mf P w K mg base 7 CF "weights" ["self","amounts"] (T3 CF):=by
 refine T.zjh.ok si (fun vs H Q E h=>?_) (fun f cdv A outer s H vs Q E hr h=>?_)
 .obtain⟨_,_,_,_,_,_,_,_,_,_,_,_,_,rfl,_⟩:=h;rfl
 obtain⟨x,s',é,fs,us,am,p,w',N,D,Cc,G,B,rfl,fa,fo,fm,nb,lw,w4,zy,hg,lg,gb,q⟩:=h;obtain⟨dx,ff,ch,co,ro,un,hx,hf,Ci,Vz,IQ,vA⟩:=fa.ex;have nd:=si.nd;have kl:=fo.crn.fr.HF fm.hp;have rb:=A6 fo.crn lw;have N1:=nb.N1;have N2:=nb.N2;have GN:=nb.GN;have lc:(zbu fs).length=fs.length:=by unfold zbu;rw[š]
 have gB:∀i:Nat,i<fs.length->(zbg am i).natAbs<=G:=fun i hi=>by
  unfold zbg;rw[ae];exact gb i hi
 refine⟨_,(lE (mE 2 nd (mD (Ad T) hr (lG (oA (pv 0) Z) (lG (oA (pv 0) Z) (lG (oA (pv 0) Z) (lG (pv 1) mB)))))) (lL (ma (nE (mJ (mD (Ay T) hr (lG (oA (pv 0) Z) (lG (oA (pv 0) Z) (lG (mF mv (pv 2) lJ) mB)))) (mF mv (pv 2) lJ)))))),zo ?_⟩;intros;refine⟨_,Z,x,CF,dx,_,_,Z,hx,T.ziv,T.zjb,GL _ _ _ _ _ _ _ _,_,Z,x,CF,dx,_,_,Z,hx,T.ziv,T.zjd,yQ _ _ _ _ _ _ _ _,_,Z,x,CF,dx,_,_,Z,hx,T.ziv,T.zjc,y8 _ _ _ _ _ _ _ _,_,Z,ro,un,s',zby é fs,us,am,fs.length,16,N,D,B,p,Z,IQ,vA,hg,zej.1,rb,fo.ul,fo.uw,lg,fun y hy=>?_,O,O,N2,Wq zy,fm.sc2 gB nb.DB nb.big,fm.ri2,nb.B1,nb.lim,fun t tt H1 à b nS ht uf lt b1 bD bN bt sol=>?_⟩
 .obtain⟨c,hc,rfl⟩:=zer hy;have:=gb c O;lia
 have i0:oi [zbb tt,zad b] 0=some (.ref tt):=Z;have i1:oi [zbb tt,zad b] 1=some (.int b):=Z;refine⟨_,Z,x,CF,dx,_,_,Z,nS _ _ hx,T.ziv,T.ziw,Ny _ _ _ _ _ _ _ _,_,Z,x,CF,dx,_,_,Z,nS _ _ hx,T.ziv,T.zja,yl _ _ _ _ _ _ _ _,_,Z,t,_,_,_,Z,Z,mW.of ht,i0,w',co,tt,zbu fs,à,Z,nS _ _ Vz,uf,by rw[lc,lt],zfb fo.crn,O,fun sp H2 nZ nsp h2=>?_⟩;refine⟨_,Z,t,_,_,_,Z,Z,mW.of (nZ _ _ ht),i1,lR,fun rt hrt=>?_⟩;refine q rt sp _ à b (lQ (nS.trans nZ) hrt) lH (lQ (lO.refl _) hrt _ _ h2) (nS.free nsp) lt b1 bD bN bt fun i hi=>?_;have:=sol i hi;unfold zbg at this;rw[ae] at this;rw[<-this];refine zbc fun j hj=>?_;rw[Rx.vR hi hj,ae];rfl
inductive S3 (vs:ň)(H:Hp)(Q:VK)(_:XK):Prop
 | mk (a b:Int)(_:vs=[.int a,.int b])(_:Q (.int (zdk a b)) H)
def yS:Df P w K mg base 1 "divisor" ["one","other"] S3:=by
 refine mX T.zfv EK fun f cdv A outer s H vs Q E hr nd h=>?_;obtain⟨a,b,rfl,q⟩:=h;refine⟨_,(lE (mE 2 nd (mZ qM lD T.zjr zew (mT (pv 0)))) (lE (mE 3 nd (mZ qM lD T.zjr zew (mT (pv 1)))) (lE (oV aO (nQ qK (pv 3) lJ) (lE (mE 4 nd (lY m3 (pv 2) (pv 3))) (lE (mE 2 nd (pv 3)) (lL (mE 3 nd (pv 4)))))) (lL (ma (pv 2)))))),II ?_⟩;intros;refine⟨_,Z,_,Z,_,Z,_,Z,?_⟩;have st:=Eh.start a b;refine⟨fun m σ H'=>H'=H/\∃(g s:Int)(lv:œ),σ=[some (.int a),some (.int b),some (.int g),some (.int s),lv]/\0<=g/\0<=s/\zdk g s=zdk a b/\m=s.toNat,
  ⟨_,Z,zex a,zex b,none,Z,st.1,st.2.1,st.2.2,Z⟩,?_⟩
 rintro m σ H' ⟨rfl,g,s,lv,rfl,g0,s0,e,rfl⟩;refine⟨_,Z,Z,_,Z,?_⟩;refine oS (fun c=>?_) (fun c=>?_)
 .have ne:=OV c;have t:=Eh.Tr g0 s0 e ne;refine⟨_,fun _ _ h=>h,_,Z,_,Z,_,_,Z,Z,(show 0<s by omega),_,Z,_,Z,(g%s).toNat,t.2.2,Z,_,_,_,Z,s0,t.1,t.2.1,Z⟩
 .have z:=Hu c;refine⟨_,Z,?_⟩;rw[Eh.out g0 e z];exact q
inductive M0 (vs:ň)(H:Hp)(Q:VK)(_:XK):Prop
 | mk (a b:Int)(N:Nat)(_:vs=[.int a,.int b])(_:1<=a)(_:1<=b)(_:a<2^N)(_:b<2^N)(_:N<=9000)(_:∀j:Int,1<=j->a∣j->b∣j->(∀D:Int,a∣D->b∣D->j∣D)->Q (.int j) H)
def CZ:Df P w K mg base 2 "joint" ["one","other"] M0:=by
 refine mX T.zfw Kc fun f cdv A outer s H vs Q E hr nd h=>?_;obtain⟨a,b,N,rfl,a1,b1,aN,bN,N2,q⟩:=h;have eN:=qy N;obtain⟨G1,Ga,j1,d1,d2,al⟩:=Rx.QZ a1 b1 (G:=zdk a b) Z;have q0:=de (show 0<=a by lia) (show 0<=zdk a b by lia);have q1:=cx (zdk a b) (show 0<=a by lia);refine⟨_,(lL (ma (lY mH (lY mS (pv 0) (mD (yS T) hr (mJ (pv 0) (pv 1)))) (pv 1)))),_,Z,_,Z,_,Z,_,_,Z,_,_,Z,Z,va O (show (zdk a b).natAbs<2^N by lia) N2,_,Z,_,_,Z,Z,uA (N:=N) (M:=N) O O O O,?_⟩;exact q _ j1 d1 d2 al
inductive SW (vs:ň)(H:Hp)(Q:VK)(_:XK):Prop
 | mk (r s:Addr)(one other:ń)(a b m:Int)(N:Nat)(_:vs=[.ref r,.int a,.ref s,.int b,.int m])(_:H r=some (.lst (one.map zad)))(_:H s=some (.lst (other.map zad)))(_:one.length=other.length)(_:one.length<=20000)(_:0<m)(_:a.natAbs<2^N)(_:b.natAbs<2^N)(_:Bd N one)(_:Bd N other)(_:N<=1000000)(_:∀t H',lO H H'->H t=none->H' t=some (.lst ((zeo one a other b m).map zad))->Q (.ref t) H')
def CB:Df P w K mg base 1 "mixed" ["one","many","other","more","modulus"] SW:=by
 refine mX T.zhx Kj fun f cdv A outer s H vs Q E hr nd h=>?_;obtain⟨r,s',one,other,a,b,m,N,rfl,h1,h2,l,lz,m0,aN,bN,b1,b2,N1,q⟩:=h;refine⟨_,(lL (ma (oX [("modulus",4),("many",1),("more",3)] ["number","beyond"] (qP lD T.zjs (mJ (pv 0) (pv 2))) (fun C s H fp=>⟨(tQ 3 4),mL,(lY m3 (lY mY (lY mH (pv 3) (pv 1)) (lY mH (pv 4) (pv 2))) (pv 0))⟩)))),_,Z,_,Z,r,s',Z,⟨_,mj.of h1⟩,⟨_,mj.of h2⟩,?_⟩;refine qY (K:=K) (xs:=one.map zad) (ys:=other.map zad) (zeo one a other b m) (by rw[aa,aa,l]) (by rw[Lt.vN Z l.symm,aa]) (by rw[aa];exact lz) (mj.of h1) (mj.of h2) ?_ fun D H2 sm n hD=>q D H2 sm n hD;intro i x y H2 p hx hy sm hp R k;obtain⟨u,rfl,hu⟩:=int_at hx;obtain⟨v,rfl,hv⟩:=int_at hy;refine⟨p,_,Z,mW.of lH,Z,_,_,Z,_,_,Z,Z,_,Z,_,Z,_,_,Z,Z,uA (b1 u (ao hu)) aN N1 N1,_,Z,_,Z,_,_,Z,Z,uA (b2 v (ao hv)) bN N1 N1,_,_,Z,Z,_,Z,_,_,Z,Z,m0,?_⟩;exact k _ _ (lQ (lO.refl _) hp) (by unfold zeo;rw[List.getElem?_zipWith,hu,hv])
def F9 {H:Hp}{zof a:Addr}(hO:H zof=some (.lst (as.map zbb)))(pa:Paired (fun a (x:ń)=>H a=some (.lst (x.map zad))) as è)(ha:H a=some (.lst (l.map zad)))(nl:l≠[]):nM (upd H zof (.lst (as.map zbb++[.ref a]))) zof (è++[l]):=by
 have ne1:∀(b:Addr)(x:ń),H b=some (.lst (x.map zad))->(as≠[]\/x≠[])->b≠zof:=fun b x hb o=>p7 hb hO fun z=>by
  injection z with z;cases as with
  | nil=>cases x with
   | nil=>rcases o with o | o<;>exact o rfl
   | cons y ys=>cases z
  | cons a0 WI=>cases x with
   | nil=>cases z
   | cons y ys=>injection z with z1;cases z1
 have go:∀{uE:ŋ}{zw:ĸ}{o:HO},(uE≠[]->as≠[])->Paired (fun a (x:ń)=>H a=some (.lst (x.map zad))) uE zw->Paired (fun a (x:ń)=>upd H zof o a=some (.lst (x.map zad))) uE zw:=fun {uE zw o} im p=>by
  induction p with
  | nil=>exact .nil
  | cons h _ ih =>
   have nn:=im lB;exact .cons ((mi (ne1 _ _ h (.inl nn))).trans h) (ih fun _=>nn)
 exact⟨as++[a],by rw[lH,aQ];rfl,L2.Paired.ER (go id pa) (.cons ((mi (ne1 _ _ ha (.inr nl))).trans ha) .nil)⟩
def Dt {N:Nat}(mN:m<2^N)(h:Rx.Up m l):Bd N l:=fun x hx=>by
 have:=h x hx;have e:=qy N;lia
inductive Tl (vs:ň)(H:Hp)(Q:VK)(_:XK):Prop
 | mk (r s:Addr)(ls:ĸ)(row:ń)(m:Int)(K N:Nat)(_:vs=[.ref r,.ref s,.int m])(_:nM H r ls)(_:H s=some (.lst (row.map zad)))(_:Lt.Ev m K 0 ls)(_:row.length=K)(_:K<=20000)(_:ls.length<=K)(_:∀l∈ls,Rx.Up m l)(_:1<=m)(_:m<2^N)(_:1<=N)(_:N<=9000)(_:∀t H' ls',lO H H'->H t=none->nM H' t ls'->Lt.Ent m 0 ls (row.map fun x=>x%m) ls'->Q (.ref t) H')
def Eg:Df P w K mg base 4 "entered" ["leads","row","modulus"] Tl:=by
 refine mX T.zhw En fun f cdv A outer s H vs Q E hr nd h=>?_;obtain⟨r,s',ls,row,m,K',N,rfl,⟨as,h1,pa⟩,h2,E6,lr,Kz,lK,up,m1,mN,N1,N2,q⟩:=h;have la:=mw pa;have eN:=qy N;refine⟨_,(lE (mE 3 nd (nY mB)) (lE (xm 4 [("modulus",2)] ["number"] nd (mQ (pv 1)) (fun C s H fp=>⟨(qo 1),mL,(lY m3 (pv 1) (pv 0))⟩)) (lE (nh aO Z (qE lD T.zju (mT (pv 0))) (oY Z (mI (nW 5 nd) (mI (nW 6 nd) oe))) (lL (nw (nQ pX (mF mU (pv 4) (pv 5)) lJ) (lL (oO (vX cW cO cP o5 (pv 3) (mT (pv 6))))) (lE (mE 7 nd (mD (wF T) hr (lG (mF mU (pv 6) (pv 5)) (lG (mF mU (pv 4) (pv 5)) (lG lJ mB))))) (lE (mE 8 nd (lY mS (lY oU (mF mv (pv 7) lJ) (lY mH (mF mv (pv 7) lJ) (mF mU (pv 4) (pv 5)))) (mF mU (pv 6) (pv 5)))) (lE (oO (vX cW cO cP o5 (pv 3) (mT (mD (CB T) hr (lG (pv 6) (lG (pv 8) (lG (pv 4) (lG (mF mv (pv 7) lJ) (lG (pv 2) mB))))))))) (lL (mE 4 nd (mD (CB T) hr (lG (pv 4) (lG (lY mS (mF mU (pv 6) (pv 5)) (mF mv (pv 7) lJ)) (lG (pv 6) (lG (tD qO (lY mS (mF mU (pv 4) (pv 5)) (mF mv (pv 7) lJ))) (lG (pv 2) mB)))))))))))))) (lL (ma (pv 3)))))),II ?_⟩;intros;refine⟨pO L,fun zof hO=>?_⟩;have Oy:lO H (upd H zof (.lst [])):=lQ (lO.refl _) hO;refine⟨_,Z,s',Z,⟨_,mj.of (Oy _ _ h2)⟩,?_⟩;refine nT (K:=K) (xs:=row.map zad) (row.map fun x=>x%m) zom zoh (mj.of (Oy _ _ h2)) ?_ ?_
 .intro i x H2 hx sm R k;obtain⟨u,rfl,hu⟩:=int_at hx;exact⟨_,Z,_,Z,_,_,Z,Z,(show 0<m by lia),k _ _ (lO.refl _) (by rw[af,hu];rfl)⟩
 intro t0 H0 rE _ Oq;have VA:H0 zof=some (.lst (([]:ŋ).map zbb)):=rE _ _ lH;have WY:=Oy.trans rE;have lf0:Lt.Lf m K' 0 (row.map fun x=>x%m):=⟨by rw[aa,lr],fun i hi=>absurd hi (bS _),fun i=>(Rx.In.mod (show 0<m by lia) row fun x=>x).g O i⟩;refine⟨_,Z,r,Z,⟨_,mj.of (WY _ _ h1)⟩,rY (K:=K) (xs:=as.map zbb) (fun i σ H2=>lO H H2/\∃(tl:Addr)(left:ń)(bs:ŋ)(outs:ĸ)(o1 o2 o3 o4:œ),σ=[some (.ref r),some (.ref s'),some (.int m),some (.ref zof),some (.ref tl),o1,o2,o3,o4]/\H2 tl=some (.lst (left.map zad))/\H2 zof=some (.lst (bs.map zbb))/\Paired (fun a (x:ń)=>H2 a=some (.lst (x.map zad))) bs outs/\outs.length=i/\Lt.Ev m K' i (ls.drop i)/\Lt.Lf m K' i left/\∀ls',Lt.Ent m i (ls.drop i) left ls'->Lt.Ent m 0 ls (row.map fun x=>x%m) (outs++ls'))
  ⟨WY,t0,_,[],[],none,none,none,none,Z,Oq,VA,.nil,Z,E6,lf0,fun ls' e=>e⟩ (fun i σ H2 _ z=>z.1.seq (mj.of h1)) ?_ ?_⟩
 .rintro i x σ H2 pp hx ⟨sm,tl,left,bs,outs,o1,o2,o3,o4,rfl,hl,Sx,pb,lo,tr,lf,go⟩ Cd;obtain⟨a,l,rfl,ha,rC,hh⟩:=oM pa hx;have il:i<ls.length:=(aJ.mp rC).1;have ed:ls.drop i=l::ls.drop (i+1):=by
   rw[jw il];congr 1;rw[az il] at rC;exact bO rC
  rw[ed] at tr go;obtain⟨⟨ll,lz,l1,ld⟩,tr'⟩:=tr;have Sy:=up l (ao rC);have lm:=Sy _ (zcy (l:=l) (i:=i) O);have CD:=lf.CD i;have sQ:=lQ (o:=.tup [.int (i:Nat),.ref a]) (lO.refl H2) Cd;have My:=sQ _ _ hl;have Oz:=sQ _ _ (sm _ _ hh);have VB:=sQ _ _ Sx;have pb1:=m5 sQ pb;have zbU:l≠[]:=fun z=>by rw[z] at ll;simp at ll;lia
  have fl:left.length=K':=lf.len;have WZ:Bd N left:=fun y hy=>by
   obtain⟨j,hj,e⟩:=zer hy;have:=lf.CD j;lia
  have cg:oi (left.map zad) (i:Int)=some (.int (zbh left i)):=nV zoi;have cl:oi (l.map zad) (i:Int)=some (.int (zbh l i)):=nV zoi;have lob:bs.length=i:=by rw[mw pb,lo]
  refine⟨pp,_,Z,mW.of lH,Z,_,_,Z,_,_,Z,Z,?_⟩;refine R5 ?_;intros;refine⟨_,Z,_,Z,tl,_,_,_,Z,Z,mj.of My,cg,Z,_,Z,oS (fun c=>?_) (fun c=>?_)⟩
  .have z:=xt c;refine⟨_,Z,.inl ⟨Z,_,mj.of VB⟩,_,Z,zof,_,_,Z,Z,VB,by rw[aa,lob];exact oq O,?_⟩;obtain⟨bs2,e1,e2⟩:=F9 VB pb1 Oz zbU;refine⟨mO (sm.trans sQ) hO,tl,left,bs2,outs++[l],_,_,_,_,Z,(mi (p7 My VB fun zz=>?_)).trans My,e1,e2,by rw[aP,lo];rfl,tr',lf.next z,fun ls' e=>?_⟩
   .injection zz with zz;cases left with
    | nil=>simp at fl;lia
    | cons y ys=>cases bs with
     | nil=>cases zz
     | cons b0 bs0=>injection zz with z1;cases z1
   .rw[ii];exact go _ (.skip z e)
  .refine II ?_;intros;have nz:=yL c;refine⟨_,Z,_,Z,a,_,_,_,Z,Z,mj.of Oz,cl,_,Z,_,Z,tl,_,_,_,Z,Z,mj.of My,cg,zbh l i,zbh left i,0,N,Z,l1,CD.1,eL 0,N1,N2,O,O,fun tt H3 r0 c0 r1 c1 nJ ht S p0 bz _ cb=>?_⟩;have z1:r1=0:=Dk O;have dv:=S.dvd z1;rw[z1] at S;have bz':=Rx.Yj S l1;have i0:oi [zad r0,zad c0,zad r1,zad c1] 0=some (.int r0):=Z;have i1:oi [zad r0,zad c0,zad r1,zad c1] 1=some (.int c0):=Z;have r0l:=aW (show 0<zbh l i by lia) dv.1;have RL:=nJ _ _ My;have W4:=nJ _ _ Oz;have hO3:=nJ _ _ VB;have pb3:=m5 nJ pb1;obtain⟨α,hα⟩:∃α:Int,α=(r0-c0*zbh left i)/zbh l i:=⟨_,Z⟩;have αb:α.natAbs<2^(2*N+2):=by
    have e:α*zbh l i=r0-c0*zbh left i:=by rw[hα];lia
    have n1:(α.natAbs:Int)<=(α*zbh l i).natAbs:=by
     rw[aR,aI];have:=aB (show (1:Int)<=(zbh l i).natAbs by lia) (show (0:Int)<=α.natAbs by lia);lia
    rw[e] at n1;have n2:((c0*zbh left i).natAbs:Int)<=2^N*2^N:=by
     rw[aR,aI];exact df O O O O
    have e4:((2^(2*N+2):Nat):Int)=2^N*2^N*4:=by
     rw[eO,fe,show 2*N=N+N by lia,fe];rfl
    have:(1:Int)<=2^N:=gP L;have:(2:Int)^N*1<=2^N*2^N:=aB this O;have n3:=Int.natAbs_sub_le r0 (c0*zbh left i);have n4:(r0.natAbs:Int)<=2^N:=O;generalize (r0-c0*zbh left i).natAbs=A,(c0*zbh left i).natAbs=B,r0.natAbs=C at n1 n2 n3 n4;lia
   refine⟨_,Z,tt,_,_,_,Z,Z,mW.of ht,i0,_,Z,tt,_,_,_,Z,Z,mW.of ht,i1,_,Z,_,Z,tl,_,_,_,Z,Z,mj.of RL,cg,_,_,Z,Z,uA (N:=N) (M:=N) O O O O,_,_,Z,Z,_,Z,_,Z,a,_,_,_,Z,Z,mj.of W4,cl,_,_,Z,Z,va O (show (zbh l i).natAbs<2^N by lia) N2,?_⟩;dsimp only;rw[<-hα];have Nw:2^N<=2^(2*N+2):=bR L O;refine⟨_,Z,.inl ⟨Z,_,mj.of hO3⟩,_,Z,_,Z,_,Z,_,Z,tt,_,_,_,Z,Z,mW.of ht,i1,_,Z,a,tl,l,left,α,c0,m,2*N+2,Z,W4,RL,by rw[ll,fl],O,O,αb,O,pP (Dt mN Sy) O,pP WZ O,O,fun tm H4 sm4 _ W1=>?_⟩;have RN:=sm4 _ _ hO3;have pb4:=m5 sm4 pb3;refine⟨zof,_,_,Z,Z,RN,by rw[aa,lob];exact oq O,?_⟩;have zbY:zeo l α left c0 m≠[]:=fun z=>by have:=Lt.vN (a:=α) (b:=c0) (m:=m) ll fl;rw[z] at this;simp at this;lia
   obtain⟨bs2,e1,e2⟩:=F9 RN pb4 W1 zbY;have nO:∀(c:Addr)(y:ń),y.length=K'->H4 c=some (.lst (y.map zad))->c≠zof:=fun c y ly hc=>p7 hc RN fun zz=>by
    injection zz with zz;cases y with
    | nil=>simp at ly;lia
    | cons y ys=>cases bs with
     | nil=>cases zz
     | cons b0 bs0=>injection zz with z1;cases z1
   obtain⟨oo,hoo⟩:∃oo:HO,oo=.lst (bs.map zbb++[.ref tm]):=⟨_,Z⟩;have W5:=(mi (o:=oo) (nO tl left fl (sm4 _ _ RL))).trans (sm4 _ _ RL);have W6:=(mi (o:=oo) (nO a l ll (sm4 _ _ W4))).trans (sm4 _ _ W4);have W7:=(mi (o:=oo) (p7 (sm4 _ _ ht) RN (by intro z;cases z))).trans (sm4 _ _ ht);have IS:lO H (upd H4 zof oo):=mO (((sm.trans sQ).trans nJ).trans sm4) hO;rw[hoo] at W5 W6 W7 IS;generalize upd H4 zof (.lst (bs.map zbb++[.ref tm]))=H5 at e1 e2 W5 W6 W7 IS ⊢;have q1:=de (show 0<=zbh l i by lia) (show 0<=r0 by lia);have q2:=cx r0 (show 0<=zbh l i by lia);have q3:=de CD.1 (show 0<=r0 by lia);have q4:=cx r0 CD.1;refine⟨_,Z,_,Z,_,Z,a,_,_,_,Z,Z,mj.of W6,cl,_,Z,tt,_,_,_,Z,Z,mW.of W7,i0,_,_,Z,Z,va O (show r0.natAbs<2^N by lia) N2,_,Z,_,Z,_,Z,tl,_,_,_,Z,Z,mj.of W5,cg,_,Z,tt,_,_,_,Z,Z,mW.of W7,i0,_,_,Z,Z,va O (show r0.natAbs<2^N by lia) N2,_,Z,_,Z,tl,a,left,l,_,_,m,N,Z,W5,W6,by rw[ll,fl],O,O,O,O,WZ,Dt mN Sy,O,fun tn H6 sR _ hn6=>?_⟩;refine⟨IS.trans sR,tn,_,bs2,outs++[zeo l α left c0 m],_,_,_,_,Z,hn6,sR _ _ e1,m5 sR e2,by rw[aP,lo];rfl,tr',lf.mixed m1 ll lz p0 dv.1 dv.2,fun ls' e=>?_⟩;rw[ii];exact go _ (.mix α c0 r0 nz p0 dv.1 dv.2 (by rw[hα];exact bz') e)
 .rintro σ H2 ⟨sm,tl,left,bs,outs,o1,o2,o3,o4,rfl,hl,Sx,pb,lo,tr,lf,go⟩;rw[aa,la,kP] at go;refine⟨_,Z,q zof H2 outs sm hO ⟨bs,Sx,pb⟩ ?_⟩;have:=go [] .nil;rwa [gH] at this
inductive S9 (K:zfq)(vs:ň)(H:Hp)(Q:VK)(_:XK):Prop
 | mk (r:Addr)(è:ĸ)(k rr N:Nat)(m:Int)(_:vs=[.ref r,.int k,.int m])(_:nM H r è)(_:è.length=rr)(_:∀row∈è,row.length=k)(_:k+rr<=420)(_:1<=m)(_:m<2^N)(_:1<=N)(_:N<=9000)(_:∀t H' ls,lO H H'->nM H' t ls->Rx.Oj m k rr è rr ls->Q (.ref t) H')
def Dw:Df P w K mg base 5 "leads_of" ["rows","size","modulus"] (S9 K):=by
 refine mX T.zhv Cn fun f cdv A outer s H vs Q E hr nd h=>?_;obtain⟨r,è,k,rr,N,m,rfl,⟨as,h1,pa⟩,lr,lw,kr,m1,mN,N1,N2,q⟩:=h;have la:=mw pa;have eN:=qy N;refine⟨_,(lE (xm 3 [("modulus",2),("size",1),("rows",0)] ["column"] nd (nK lD T.zjo (mT (pv 1))) (fun C s H fp=>⟨(qo 3),mL,(mD (xJ T) hr (lG (lY mY (pv 1) (mZ (HI (K:=K) Z) lD T.zji L2.KG (mT (pv 2)))) (lG (pv 3) (lG (pv 0) mB))))⟩)) (lE (nh aO Z (qE lD T.zju (mT (pv 0))) (oY Z (mI (nW 4 nd) (mI (nW 5 nd) oe))) (lL (mE 3 nd (mD (Eg T) hr (lG (pv 3) (lG (lY tP (pv 5) (mD (xJ T) hr (lG (pM T.zji (pv 0)) (lG (pv 4) (lG lJ mB))))) (lG (pv 2) mB))))))) (lL (ma (pv 3))))),xi ?_⟩;intros;refine⟨_,Z,k,Z,O,O,?_⟩;refine Cy (n:=k) (Rx.OW m k rr) (by unfold Rx.OW;rw[š,û]) O ?_ ?_
 .intro i H2 hi sm R kk;refine⟨_,Z,_,Z,r,_,Z,.inl (sm.seq (mj.of h1)),_,_,Z,Z,_,Z,_,Z,k+rr,(i:Nat),m,(by rw[aa,la,lr];rfl),O,O,fun t H3 nJ _ h3=>?_⟩;rw[xM (show i<k+rr by lia)] at h3;exact kk H3 t _ nJ (by unfold Rx.OW;rw[List.getElem?_map,List.getElem?_range hi];rfl) h3
 intro t0 H0 rE _ h0;refine⟨_,Z,r,Z,⟨_,mj.of (rE _ _ h1)⟩,rY (K:=K) (xs:=as.map zbb) (fun i σ H2=>lO H H2/\∃(tl:Addr)(ls:ĸ)(o1 o2:œ),σ=[some (.ref r),some (.int k),some (.int m),some (.ref tl),o1,o2]/\nM H2 tl ls/\Rx.Oj m k rr è i ls) ⟨rE,t0,_,none,none,Z,h0,.start m1 k rr è⟩ (fun i σ H2 _ z=>z.1.seq (mj.of h1)) ?_ ?_⟩
 .rintro i x σ H2 pp hx ⟨sm,tl,ls,o1,o2,rfl,VC,zog⟩ Cd;obtain⟨a,row,rfl,ha,nA,hh⟩:=oM pa hx;have il:i<rr:=by rw[<-lr];exact(aJ.mp nA).1
  have rl:=lw row (ao nA);have sQ:=lQ (o:=.tup [.int (i:Nat),.ref a]) (lO.refl H2) Cd;refine⟨pp,_,Z,mW.of lH,Z,_,_,Z,_,_,Z,Z,_,Z,_,Z,_,Z,r,_,Z,.inl (mj.of (sQ _ _ (sm _ _ h1))),_,Z,rr,(i:Nat),1,(by rw[aa,la,lr];rfl),O,O,fun th H3 nJ _ h3=>?_⟩;rw[xM il] at h3;refine⟨a,th,_,_,Z,Z,nJ _ _ (sQ _ _ (sm _ _ hh)),h3,?_,fun tc htc=>?_⟩
  .rw[aa,aa,zfk,rl];exact pO O
  have Vv:=lQ (o:=.lst (row.map zad++(zei rr i 1).map zad)) (lO.refl H3) htc;refine⟨_,Z,tl,tc,ls,row++zei rr i 1,m,k+rr,N,Z,((VC.same sQ).same nJ).same Vv,by rw[lH,aQ],zog.E6,by rw[aP,rl,zfk],O,by rw[zog.len];lia,zog.up,m1,mN,N1,N2,fun tn H4 ls' sm4 _ h4 ent=>?_⟩;have er:è.getD i []=row:=zeg nA;exact⟨(((sm.trans sQ).trans nJ).trans Vv).trans sm4,tn,ls',_,_,Z,h4,zog.enter m1 lr lw il (by rw[er];exact ent)⟩
 .rintro σ H2 ⟨sm,tl,ls,o1,o2,rfl,VC,zog⟩;rw[aa,la,lr] at zog;exact⟨_,Z,q tl H2 ls sm VC zog⟩
def FC (ns:ń){lo hi:Nat}(h:lo<=hi)(h2:hi<=ns.length):uC (ns.map zad) (some (lo:Int)) (some (hi:Int))=((ns.take hi).drop lo).map zad:=by
 unfold uC;rw[HT.Bo,HT.Bo,aa,<-Đ,<-Ď];congr 1;rw[jh h2,jh O,List.drop_take]
inductive Qg (K:zfq)(vs:ň)(H:Hp)(Q:VK)(_:XK):Prop
 | mk (r:Addr)(è ls:ĸ)(k rr j c N:Nat)(m:Int)(_:vs=[.ref r,.int c,.int m])(_:nM H r ls)(_:Rx.Oj m k rr è j ls)(_:c<k)(_:k+rr<=420)(_:1<=m)(_:m<2^N)(_:1<=N)(_:N<=9000)(_:∀t H' am,lO H H'->H t=none->H' t=some (.lst (am.map zad))->am.length=k->Rx.Up m am->Lt.HU m k c ls 0 (zbg am)->Q (.ref t) H')
def D6:Df P w K mg base 3 "barring" ["leads","column","modulus"] (Qg K):=by
 refine mX T.zhy EH fun f cdv A outer s H vs Q E hr nd h=>?_;obtain⟨r,è,ls,k,rr,j,c,N,m,rfl,⟨as,h1,pa⟩,zog,ck,kr,m1,mN,N1,N2,q⟩:=h;have la:=mw pa;have lk:=zog.len;have eN:=qy N;have lead:∀i:Nat,i<k->(ls.getD i []).length=k+rr/\1<=zbh (ls.getD i []) i/\zbh (ls.getD i []) i∣m/\zbh (ls.getD i []) i<=m/\1<=m/zbh (ls.getD i []) i/\m/zbh (ls.getD i []) i<=m:=fun i hi=>by
  have t:=zog.E6.at (zdx (è:=ls) (i:=i) O);rw[eV] at t;have le:=aW O t.2.2.2;refine⟨t.1,t.2.2.1,t.2.2.2,le,?_,cx _ O⟩;obtain⟨x,hx⟩:=t.2.2.2;rw[hx,aC _ O];rcases ū 0 x with z | z
  .exact z
  .have:=aB z (show 0<=zbh (ls.getD i []) i by lia);lia
 obtain⟨ac,hac,UY⟩:=zc pa (zdx (è:=ls) (i:=c) O);have lc:=lead c ck;have cg:oi ((ls.getD c []).map zad) (c:Int)=some (.int (zbh (ls.getD c []) c)):=nV zoi;refine⟨_,(lE (mE 3 nd (mD (xJ T) hr (lG (pM T.zji (pv 0)) (lG (pv 1) (lG (lY mS (pv 2) (mF mU (mF mU (pv 0) (pv 1)) (pv 1))) mB))))) (lE (nh aO Z (Hx lD T.zjo (lG (lY oU (pv 1) lJ) (lG (tD qO lJ) (lG (tD qO lJ) mB)))) (nW 4 nd) (lE (mE 5 nd (mF mU (pv 0) (pv 4))) (lE (mE 6 nd (mD (rn T) hr (mJ (tU v3 (pv 5) (pB (lY mY (pv 4) lJ)) (pB (lY mY (pv 1) lJ))) (tU v3 (pv 3) (pB (lY mY (pv 4) lJ)) (pB (lY mY (pv 1) lJ)))))) (lL (rz (lY m3 (tD qO (lY mS (pv 6) (mF mU (pv 5) (pv 4)))) (lY mS (pv 2) (mF mU (pv 5) (pv 4)))) (qZ (pv 3) (pv 4) set_list)))))) (lL (ma (pv 3))))),xi ?_⟩;intros;refine⟨_,Z,r,_,Z,.inl (mj.of h1),_,Z,_,Z,_,Z,_,Z,r,_,_,_,Z,Z,mj.of h1,hac,_,Z,ac,_,_,_,Z,Z,mj.of UY,cg,_,_,Z,Z,va O (show (zbh (ls.getD c []) c).natAbs<2^N by lia) N2,k,(c:Nat),_,(by rw[aa,la,lk];rfl),O,O,fun t0 H0 rE n0 h0=>?_⟩;rw[xM ck] at h0;obtain⟨v0,hv0⟩:∃v0:Int,v0=m/zbh (ls.getD c []) c:=⟨_,Z⟩;rw[<-hv0] at h0;have b0:Lt.HU m k c ls c (zbg (zei k c v0)):=Rx.HU.yD (Lt.XX zog.E6 ck (zdx (è:=ls) (i:=c) O)) fun i=>by
  unfold zbg;rw[ae,Rx.rq ck,hv0]
  by_cases z:i=c
  .rw[aA z,aA O]
  .rw[ah z,ah O]
 have u0:Rx.Up m (zei k c v0):=fun x hx=>by
  obtain⟨i,hi,rfl⟩:=zer hx;rw[Rx.rq ck];split<;>lia
 refine⟨_,Z,_,_,Z,Z,_,Z,_,Z,c,Z,O,DW (n:=c) (fun i σ H2=>lO H H2/\∃(am:ń)(o1 o2 o3:œ),σ=[some (.ref r),some (.int c),some (.int m),some (.ref t0),o1,o2,o3]/\H2 t0=some (.lst (am.map zad))/\am.length=k/\Rx.Up m am/\Lt.HU m k c ls (c-i) (zbg am)) ⟨rE,_,none,none,none,Z,h0,zfk ..,u0,b0⟩ ?_ ?_⟩
 .rintro i σ H2 hi ⟨sm,am,o1,o2,o3,rfl,ha,lam,up,bar⟩;refine xi ?_;intros;obtain⟨pl,zu⟩:∃pl:Nat,pl=c-1-i:=⟨_,Z⟩;have ep:(c:Int)-1+(i:Int)*(-1)=(pl:Nat):=O;rw[ep];have epc:c-i=pl+1:=O;rw[epc] at bar;have pk':pl<k:=O;obtain⟨ap,hap,Cd⟩:=zc pa (zdx (è:=ls) (i:=pl) O);have lp:=lead pl pk';have nA:=zdx (è:=ls) (i:=pl) O;have pg:oi ((ls.getD pl []).map zad) (pl:Int)=some (.int (zbh (ls.getD pl []) pl)):=nV zoi;have VD:=sm _ _ Cd;refine⟨_,Z,_,Z,r,_,_,_,Z,Z,mj.of (sm _ _ h1),hap,?_⟩;have e1:(pl:Int)+1=((pl+1:Nat):Int):=O;have e2:(c:Int)+1=((c+1:Nat):Int):=O;refine⟨_,Z,_,Z,_,_,Z,Z,_,Z,_,Z,_,_,Z,Z,_,Z,ap,_,Z,mj.of VD,fun s1 VE=>?_⟩;have nS:=lQ (o:=.lst (uC ((ls.getD pl []).map zad) (some ((pl:Int)+1)) (some ((c:Int)+1)))) (lO.refl H2) VE;have VF:upd H2 s1 (.lst (uC ((ls.getD pl []).map zad) (some ((pl:Int)+1)) (some ((c:Int)+1)))) s1=some (.lst ((((ls.getD pl []).take (c+1)).drop (pl+1)).map zad)):=by
   rw[lH,e1,e2,FC _ O O]
  try dsimp only
  generalize upd H2 s1 (.lst (uC ((ls.getD pl []).map zad) (some ((pl:Int)+1)) (some ((c:Int)+1))))=H3 at nS VF ⊢;refine⟨_,Z,_,Z,_,_,Z,Z,_,Z,_,Z,_,_,Z,Z,_,Z,t0,_,Z,mj.of (nS _ _ ha),fun s2 hs2=>?_⟩;have nZ:=lQ (o:=.lst (uC (am.map zad) (some ((pl:Int)+1)) (some ((c:Int)+1)))) (lO.refl H3) hs2;have VG:upd H3 s2 (.lst (uC (am.map zad) (some ((pl:Int)+1)) (some ((c:Int)+1)))) s2=some (.lst (((am.take (c+1)).drop (pl+1)).map zad)):=by
   rw[lH,e1,e2,FC _ O O]
  try dsimp only
  generalize upd H3 s2 (.lst (uC (am.map zad) (some ((pl:Int)+1)) (some ((c:Int)+1))))=H4 at nZ VG ⊢;have upl:Bd N (ls.getD pl []):=Dt mN (zog.up _ (zdr O));have upa:Bd N am:=Dt mN up;refine⟨s1,s2,((ls.getD pl []).take (c+1)).drop (pl+1),(am.take (c+1)).drop (pl+1),N,N,Z,mj.of (nZ _ _ VF),mj.of VG,by rw[cH,cT,cH,cT];lia,by rw[cH,cT];lia,fun x hx=>upl x (g8 (iK hx)),fun x hx=>upa x (g8 (iK hx)),O,O,fun H5 pH=>?_⟩;rw[Rx.MJ (k:=k) O lam O O (fun i hi=>by have:=bar.lo i hi;unfold zbg at this;rwa [ŧ] at this) (fun i hi=>by have:=bar.hi i O;unfold zbg at this;rwa [ŧ] at this)];have smA:=(nS.trans nZ).trans pH;have b1:=Lt.YC m1 zog.E6 zog.how ck O bar nA;obtain⟨dtv,hdt⟩:∃dtv:Int,dtv=zfl k (ls.getD pl []) (zbg am):=⟨_,Z⟩;rw[<-hdt] at b1 ⊢;obtain⟨nv,W8⟩:∃nv:Int,nv=-(dtv/zbh (ls.getD pl []) pl)%(m/zbh (ls.getD pl []) pl):=⟨_,Z⟩;rw[<-W8] at b1;have nv0:0<=nv:=by rw[W8];exact aH _ O
  have nv1:nv<m/zbh (ls.getD pl []) pl:=by rw[W8];exact aF _ O
  refine⟨_,Z,_,Z,_,Z,ap,_,_,_,Z,Z,mj.of (smA _ _ VD),pg,_,_,Z,Z,va O (show (zbh (ls.getD pl []) pl).natAbs<2^N by lia) N2,_,Z,_,Z,_,Z,_,Z,ap,_,_,_,Z,Z,mj.of (smA _ _ VD),pg,_,_,Z,Z,va O (show (zbh (ls.getD pl []) pl).natAbs<2^N by lia) N2,_,_,Z,Z,(show 0<m/zbh (ls.getD pl []) pl by lia),?_⟩
  try dsimp only
  rw[<-W8];refine⟨_,Z,_,Z,t0,_,_,_,Z,Z,smA _ _ ha,t8 O zoh,?_⟩;rw[ae,set_int];refine⟨mO (sm.trans smA) n0,am.set pl nv,_,_,_,Z,lH,by rw[cI,lam],fun x hx=>?_,?_⟩
  .rcases ó hx with z | z
   .exact up x z
   .rw[z];lia
  .rw[show c-(i+1)=pl by lia];refine Rx.HU.yD b1.2 fun t=>?_;unfold zbg;rw[ae,Rx.Af O]
   by_cases z:t=pl
   .rw[aA z,aA O]
   .rw[ah z,ah O]
 .rintro σ H2 ⟨sm,am,o1,o2,o3,rfl,ha,lam,up,bar⟩;rw[iY] at bar;exact⟨_,Z,q t0 H2 am sm n0 ha lam up bar⟩
inductive TL (vs:ň)(H:Hp)(Q:VK)(_:XK):Prop
 | mk (t tt:Addr)(à:ń)(b m:Int)(N:Nat)(_:vs=[.ref t,.int m])(_:H t=some (.tup [.ref tt,.int b]))(_:H tt=some (.lst (à.map zad)))(_:à.length<=20000)(_:1<=b)(_:b<2^N)(_:0<=m)(_:m<2^N)(_:Bd N à)(_:N<=9000)(_:∀u H',lO H H'->H' u=some (.lst ((zdu à (m/b)).map zad))->Q (.ref u) H')
def sT:Df P w K mg base 1 "whole_counts" ["made","modulus"] TL:=by
 refine mX T.zhu xw fun f cdv A outer s H vs Q E hr nd h=>?_;obtain⟨t,tt,à,b,m,N,rfl,ht,uf,lz,b1,bN,m0,mN,bt,N2,q⟩:=h;have eN:=qy N;have i0:oi [zbb tt,zad b] 0=some (.ref tt):=Z;have i1:oi [zbb tt,zad b] 1=some (.int b):=Z;have q0:=de m0 (show 0<=b by lia);have q1:=cx b m0;refine⟨_,(lL (ma (oX [("modulus",1),("made",0)] ["top"] (mQ (mF mv (pv 0) lJ)) (fun C s H fp=>⟨(qo 2),mL,(lY mH (pv 2) (lY mS (pv 0) (mF (vQ (K:=K) Z) (pv 1) lJ)))⟩)))),_,Z,t,_,_,_,Z,Z,mW.of ht,i0,tt,Z,⟨_,mj.of uf⟩,?_⟩;refine nT (K:=K) (xs:=à.map zad) (zdu à (m/b)) (by rw[Rx.B6,aa]) (by rw[aa];exact lz) (mj.of uf) ?_ fun D H2 sm _ hD=>q D H2 sm hD;intro i x H2 hx sm R k;obtain⟨u,rfl,hu⟩:=int_at hx;exact⟨_,Z,_,Z,_,Z,t,_,_,_,Z,Z,mW.of (sm _ _ ht),i1,_,_,Z,Z,va O (show b.natAbs<2^N by lia) N2,_,_,Z,Z,uA (M:=N) (bt u (ao hu)) O O O,k _ _ (lO.refl _) (by unfold zdu;rw[List.getElem?_map,hu];rfl)⟩
inductive Uc (vs:ň)(H:Hp)(Q:VK)(_:XK):Prop
 | mk (m n:Int)(_:vs=[.int m,.int n])(_:0<=m)(_:m∣n->Q (.bl true) H)(_:¬m∣n->Q (.bl false) H)
def Ed:Df P w K mg base 1 "divides" ["modulus","number"] Uc:=by
 refine mX T.zhq EX fun f cdv A outer s H vs Q E hr nd h=>?_;obtain⟨m,n,rfl,m0,q1,q2⟩:=h;have key:∀c:Bool,(c=true↔m∣n)->Q (.bl c) H:=fun c e=>by
  cases c with
  | true=>exact q1 (e.mp Z)
  | false=>exact q2 fun z=>by have:=e.mpr z;cases this
 refine⟨_,(lE (nw (nQ pX (pv 0) lJ) (lL (ma (oP pX (pv 1) lJ (pQ _)))) mR) (lL (ma (oP pX (lY m3 (pv 1) (pv 0)) lJ (pQ _))))),zo ?_⟩;intros;refine⟨_,Z,Z,_,Z,oS (fun c=>?_) (fun c=>?_)⟩
 .have z:=xt c;subst z;refine⟨_,Z,Z,key _ ⟨fun h=>?_,fun h=>?_⟩⟩
  .rw[xt h];exact bx _
  .rw[gS.mp h];exact cB Z
 .have z:=yL c;refine⟨_,Z,_,Z,_,_,Z,Z,(show 0<m by lia),Z,key _ ⟨fun h=>?_,fun h=>?_⟩⟩
  .exact aY (xt h)
  .have:n%m=0:=bB h;exact cB (cA zad this)
inductive Ui (K:zfq)(vs:ň)(H:Hp)(Q:VK)(_:XK):Prop
 | mk (r s:Addr)(é:ĸ)(counts:ń)(n qq N M:Nat)(_:vs=[.ref r,.ref s,.int n])(_:nM H r é)(_:H s=some (.lst (counts.map zad)))(_:é.length=qq)(_:counts.length=qq)(_:∀x∈é,x.length=n/\Bd N x)(_:Bd M counts)(_:n<=20000)(_:qq<=20000)(_:N<=1000000)(_:M<=1000000)(_:∀t H' out,lO H H'->H' t=some (.lst (out.map zad))->out.length=n->(∀c:Nat,c<n->zbh out c=zag qq fun j=>zbh counts j.toNat*zbh (é.getD j.toNat []) c)->Q (.ref t) H')
def Ak:Df P w K mg base 1 "summed" ["steps","counts","size"] (Ui K):=by
 refine mX T.zho Ib fun f cdv A outer s H vs Q E hr nd h=>?_;obtain⟨r,s',é,counts,n,qq,N,M,rfl,⟨as,h1,pa⟩,h2,ls,lc,lw,bc,nz,qz,N1,M1,q⟩:=h;have la:=mw pa;refine⟨_,(lE (mE 3 nd (lY re (nY (mT lJ)) (pv 2))) (lE (nh aO Z (qP lD T.zjs (mJ (pv 0) (pv 1))) (oY Z (mI (nW 4 nd) (mI (nW 5 nd) oe))) (lL (xm 3 [("many",5)] ["number","more"] nd (qP lD T.zjs (mJ (pv 3) (pv 4))) (fun C s H fp=>⟨(tQ 1 2),mL,(lY mY (pv 1) (lY mH (pv 0) (pv 2)))⟩)))) (lL (ma (pv 3))))),xi ?_⟩;intros;refine⟨lI,fun lo zX=>⟨_,Z,lo,_,_,Z,Z,lH,O,O,zoj,fun p hp=>?_⟩⟩;rw[rep0];have Ou:lO H (upd (upd H lo (.lst [zad 0])) p (.lst ((ş n (0:Int)).map zad))):=lQ (lQ (lO.refl _) zX) hp;have hP:upd (upd H lo (.lst [zad 0])) p (.lst ((ş n (0:Int)).map zad)) p=some (.lst ((ş n (0:Int)).map zad)):=lH;generalize upd (upd H lo (.lst [zad 0])) p (.lst ((ş n (0:Int)).map zad))=H0 at Ou hP ⊢;refine⟨_,Z,_,Z,r,s',Z,⟨_,mj.of (Ou _ _ h1)⟩,⟨_,mj.of (Ou _ _ h2)⟩,BO (K:=K) (xs:=as.map zbb) (ys:=counts.map zad) (by rw[aa,aa,la,ls,lc]) (fun i σ H2=>lO H H2/\∃(tl:Addr)(out:ń)(o1 o2:œ),σ=[some (.ref r),some (.ref s'),some (.int n),some (.ref tl),o1,o2]/\H2 tl=some (.lst (out.map zad))/\out.length=n/\∀c:Nat,c<n->zbh out c=zag i fun j=>zbh counts j.toNat*zbh (é.getD j.toNat []) c)
  ⟨Ou,p,_,none,none,Z,hP,bq,fun c hc=>Rx.DL hc⟩ (fun i σ H2 _ z=>⟨z.1.seq (mj.of h1),z.1.seq (mj.of h2)⟩) ?_ ?_⟩
 .rintro i x y σ H2 pp hx hy ⟨sm,tl,out,o1,o2,rfl,hl,VH,eq⟩ Cd;obtain⟨a,row,rfl,ha,nA,hh⟩:=oM pa hx;obtain⟨v,rfl,hv⟩:=int_at hy;have rl:=lw row (ao nA);have sQ:=lQ (o:=.tup [.ref a,.int v]) (lO.refl H2) Cd;refine⟨pp,_,Z,mW.of lH,Z,_,_,Z,_,_,Z,Z,_,Z,_,Z,tl,a,Z,⟨_,mj.of (sQ _ _ hl)⟩,⟨_,mj.of (sQ _ _ (sm _ _ hh))⟩,?_⟩;refine qY (K:=K) (xs:=out.map zad) (ys:=row.map zad) (ž (fun x y=>x+v*y) out row) (by rw[aa,aa,VH,rl.1]) (by rw[eQ,aa,VH,rl.1,gT]) zoh (mj.of (sQ _ _ hl)) (mj.of (sQ _ _ (sm _ _ hh))) ?_ ?_
  .intro i' x' y' H3 p3 DO Fb nJ hp3 R k;obtain⟨u1,rfl,hu1⟩:=int_at DO;obtain⟨u2,rfl,hu2⟩:=int_at Fb;refine⟨p3,_,Z,mW.of lH,Z,_,_,Z,_,_,Z,Z,_,Z,_,Z,_,Z,_,_,Z,Z,uA (bc v (ao hv)) (rl.2 u2 (ao hu2)) M1 N1,_,_,Z,Z,k _ _ (lQ (lO.refl _) hp3) (by rw[cy,hu1,hu2])⟩
  .intro D H3 nJ _ hD;refine⟨(sm.trans sQ).trans nJ,D,_,_,_,Z,hD,by rw[eQ,VH,rl.1,gT],fun c hc=>?_⟩;rw[Rx.AO O O,eq c hc];show _=(zag i fun j=>zbh counts j.toNat*zbh (é.getD j.toNat []) c)+zbh counts (i:Int).toNat*zbh (é.getD (i:Int).toNat []) c
   rw[ae,zdo hv,zeg nA]
 .rintro σ H2 ⟨sm,tl,out,o1,o2,rfl,hl,VH,eq⟩;rw[aa,la,ls] at eq;exact⟨_,Z,q tl H2 out sm hl VH eq⟩
inductive UD (K:zfq)(vs:ň)(H:Hp)(Q:VK)(_:XK):Prop
 | mk (r t wt:Addr)(v0:V)(é:ĸ)(W:ń)(m:Int)(w N M:Nat)(_:vs=[.ref r,.ref t])(_:nM H r é)(_:H t=some (.tup [v0,.ref wt,.int m]))(_:H wt=some (.lst (W.map zad)))(_:W.length=w)(_:∀x∈é,x.length=w/\Bd N x)(_:Bd M W)(_:w<=20000)(_:N<=1000000)(_:M<=1000000)(_:0<=m)(_:∀(i:Nat) H',lO H H'->i<é.length->¬m∣zbr (é.getD i []) W->Q (.int i) H')(_:∀H',lO H H'->(∀i,i<é.length->m∣zbr (é.getD i []) W)->Q .non H')
def p8:Df P w K mg base 3 "first_unbarred" ["steps","bar"] (UD K):=by
 refine mX T.zhp v5 fun f cdv A outer s H vs Q E hr nd h=>?_;obtain⟨r,t,wt,v0,é,W,m,w',N,M,rfl,⟨as,h1,pa⟩,ht,hw,lW,lw,bW,wz,N1,M1,m0,q1,q2⟩:=h;have la:=mw pa;have i1:oi [v0,zbb wt,zad m] 1=some (.ref wt):=Z;have i2:oi [v0,zbb wt,zad m] 2=some (.int m):=Z;refine⟨_,(lE (nh aO Z (qE lD T.zju (mT (pv 0))) (oY Z (mI (nW 2 nd) (mI (nW 3 nd) oe))) (lL (nw (qD (pJ (mD (Ed T) hr (mJ (mF mv (pv 1) lJ) (mD (rn T) hr (mJ (pv 3) (mF mv (pv 1) lJ))))))) (lL (ma (pv 2))) mR))) (lL (ma t5))),zo ?_⟩;intros;refine⟨_,Z,r,Z,⟨_,mj.of h1⟩,rY (K:=K) (xs:=as.map zbb) (fun i σ H2=>lO H H2/\(∃o1 o2:œ,σ=[some (.ref r),some (.ref t),o1,o2])/\∀c,c<i->m∣zbr (é.getD c []) W) ⟨lO.refl _,⟨none,none,Z⟩,fun c hc=>absurd hc (bS _)⟩ (fun i σ H2 _ z=>z.1.seq (mj.of h1)) ?_ ?_⟩
 .rintro i x σ H2 p hx ⟨sm,⟨o1,o2,rfl⟩,z⟩ hp;obtain⟨a,row,rfl,ha,nA,hh⟩:=oM pa hx;have rl:=lw row (ao nA);have il:i<é.length:=(aJ.mp nA).1;have er:=zeg nA;have sQ:=lQ (o:=.tup [.int (i:Nat),.ref a]) (lO.refl H2) hp;have Me:=sm.trans sQ;refine⟨p,_,Z,mW.of lH,Z,_,_,Z,_,_,Z,Z,_,Z,t,_,_,_,Z,Z,mW.of (Me _ _ ht),i2,_,Z,_,Z,t,_,_,_,Z,Z,mW.of (Me _ _ ht),i1,a,wt,row,W,N,M,Z,mj.of (Me _ _ hh),mj.of (Me _ _ hw),by rw[rl.1,lW],O,rl.2,bW,N1,M1,fun H3 nJ=>?_⟩;refine⟨m,zbr row W,Z,m0,fun dv=>?_,fun ndv=>?_⟩
  .refine⟨_,Z,oQ L ?_⟩;refine⟨Me.trans nJ,⟨_,_,Z⟩,fun c hc=>?_⟩;rcases ť.mp hc with e | e
   .exact z c e
   .rw[e,er];exact dv
  .refine⟨_,Z,rp L ?_⟩;exact⟨_,Z,q1 i H3 (Me.trans nJ) il (by rw[er];exact ndv)⟩
 .rintro σ H2 ⟨sm,_,z⟩;rw[aa,la] at z;exact q2 H2 sm z
inductive TC (C:Addr)(vs:ň)(H:Hp)(Q:VK)(_:XK):Prop
 | mk (x s:Addr)(é:ĸ)(fs:List zcf)(us:ĸ)(am:ń)(p:Int)(w N D Cc G B:Nat)(_:vs=[.ref x,.ref s])(_:yq C H x p w é fs us)(_:OX p w N é fs us)(_:zfi p w é fs us D Cc)(_:Nb p fs.length D Cc G B N)(_:∀y∈é,y.length=w/\Bd N y)(_:w<=420)(_:1000<=p)(_:H s=some (.lst (am.map zad)))(_:am.length=fs.length)(_:∀c,c<fs.length->(zbh am c).natAbs<=G)(_:∀t tt H' à b,lO H H'->H' t=some (.tup [.str "bar",.ref tt,.int b])->H' tt=some (.lst (((zdn w (zbu fs) à).map fun x=>x%b).map zad))->à.length=fs.length->1<=b->b<2^N->(∀i:Nat,i<fs.length->(zag fs.length fun t=>zbq é (zcq fs i) (zbv fs t.toNat)*zbg à t)=b*zbh am i)->Q (.ref t) H')
def A4:Df P w K mg base 8 "inner_bar" ["frame","amounts"] (TC CF):=by
 refine mX T.zhz B4 fun f cdv A outer s H vs Q E hr nd h=>?_;obtain⟨x,s',é,fs,us,am,p,w',N,D,Cc,G,B,rfl,fa,fo,fm,nb,lw,w4,zy,hg,lg,gb,q⟩:=h;obtain⟨dx,ff,ch,co,ro,un,hx,_⟩:=fa.ex;refine⟨_,(lE (mE 2 nd (yO (pv 0) T.ziv (sj T) (hr.mono L) (mT (pv 1)))) (lL (ma (nE (lG rV (lG (oX [("told",2)] ["number"] (mQ (mF mv (pv 2) lJ)) (fun C s H fp=>⟨(qo 1),mL,(lY m3 (pv 1) (mF (vQ (K:=K) Z) (pv 0) lJ))⟩)) (lG (mF mv (pv 2) lJ) mB))))))),zo ?_⟩;intros;refine⟨_,Z,x,dx,_,Z,hx,yN _ _ _ _ _ _ _ _,_,Z,x,s',é,fs,us,am,p,w',N,D,Cc,G,B,Z,fa,fo,fm,nb,lw,w4,zy,hg,lg,gb,fun t tt H1 à b nS ht uf _ lt b1 _ bN _ sol=>?_⟩;have i0:oi [zbb tt,zad b] 0=some (.ref tt):=Z;have i1:oi [zbb tt,zad b] 1=some (.int b):=Z;refine⟨_,Z,t,_,_,_,Z,Z,mW.of ht,i0,tt,Z,⟨_,mj.of uf⟩,?_⟩;refine nT (K:=K) (xs:=(zdn w' (zbu fs) à).map zad) ((zdn w' (zbu fs) à).map fun x=>x%b) zom zon (mj.of uf) ?_ ?_
 .intro i y H2 hy sm R k;obtain⟨u,rfl,hu⟩:=int_at hy;exact⟨_,Z,_,Z,t,_,_,_,Z,Z,mW.of (sm _ _ ht),i1,_,_,Z,Z,(show 0<b by lia),k _ _ (lO.refl _) (by rw[af,hu];rfl)⟩
 .intro D2 H2 nZ _ hD2;refine⟨_,Z,t,_,_,_,Z,Z,mW.of (nZ _ _ ht),i1,me,fun u hu=>?_⟩;exact q u D2 _ à b (lQ (nS.trans nZ) hu) lH (lQ (lO.refl _) hu _ _ hD2) lt b1 bN sol
abbrev Ot:=Nat×ń×Int
def JK (H:Hp)(a:Addr)(x:Ot):Prop:=∃t tt,H a=some (.tup [.int x.1,.ref t])/\H t=some (.tup [.ref tt,.int x.2.2])/\H tt=some (.lst (x.2.1.map zad))
def HG (H:Hp)(r:Addr)(os:List Ot):Prop:=∃as:ŋ,H r=some (.lst (as.map zbb))/\Paired (JK H) as os
def DJ {H H':Hp}(sm:lO H H'){os:List Ot}(h:Paired (JK H) as os):Paired (JK H') as os:=pR h fun _ _ ⟨t,tt,a,b,c⟩=>⟨t,tt,sm _ _ a,sm _ _ b,sm _ _ c⟩
def HG.same {H H':Hp}(sm:lO H H'){os:List Ot}(h:HG H r os):HG H' r os :=
 let ⟨as,h1,h2⟩:=h;⟨as,sm _ _ h1,DJ sm h2⟩
structure O5 (w k N:Nat)(é:ĸ)(fs:List zcf)(os:List Ot)(ê W:ń)(s:Int):Prop where
 len:W.length=w
 s1:1<=s
 sN:s<2^N
 CD:Rx.In s W
 ch:∀i,i<fs.length->s∣zbr (é.getD (zcq fs i) []) W
 ot:∀o∈os,s∣zbr (é.getD o.1 []) W
 go:¬s∣zbr ê W
 k0:0<fs.length
inductive zaA (C:Addr)(vs:ň)(H:Hp)(Q:VK)(_:XK):Prop
 | mk (r s x gm gt:Addr)(os:List Ot)(é:ĸ)(fs:List zcf)(us:ĸ)(ê qS:ń)(gb p:Int)(w N D Cc G B:Nat)(_:vs=[.ref r,.ref s,.ref x,.ref gm])(_:HG H r os)(_:nM H s é)(_:yq C H x p w é fs us)(_:OX p w N é fs us)(_:zfi p w é fs us D Cc)(_:Nb p fs.length D Cc G B N)(_:D<=G)(_:∀y∈é,y.length=w/\Bd N y)(_:w<=420)(_:1000<=p)(_:é.length<=20000)(_:fs.length+os.length<=420)(_:H gm=some (.tup [.ref gt,.int gb]))(_:H gt=some (.lst (qS.map zad)))(_:ê.length=w)(_:zdz é fs D N (zbg ê) qS gb)(_:∀o∈os,o.1<é.length/\zdz é fs D N (zbq é o.1) o.2.1 o.2.2)(_:(os.map (fun o=>o.1)++zbi fs).Nodup)(_:∀t wt H' W s,lO H H'->H' t=some (.tup [.str "bar",.ref wt,.int s])->H' wt=some (.lst (W.map zad))->O5 w fs.length N é fs os ê W s->Q (.ref t) H')(_:∀t ct H' cnts,lO H H'->H' t=some (.tup [.str "way",.ref ct])->H' ct=some (.lst (cnts.map zad))->cnts.length=é.length->Bd 40000 cnts->(∀i:Nat,i<fs.length->(zag é.length fun j=>zbq é j.toNat (zbv fs i)*zbh cnts j.toNat)=zbh ê (zbv fs i))->Q (.ref t) H')
def yg:Df P w K mg base 9 "sought_with" ["others","steps","frame","goal_made"] (zaA CF):=by
 refine mX T.zht yY fun f cdv A outer s H vs Q E hr nd h=>?_;obtain⟨r,s',x,gm,gt,os,é,fs,us,ê,qS,gb,p,w',N,D,Cc,G,B,rfl,⟨as,h1,pa⟩,hS,fa,fo,fm,nb,DG,lw,w4,zy,sz,k4,VI,W9,Xa,Cm,mo,VJ,qb,qw⟩:=h;obtain⟨sas,hS1,spa⟩:=id hS;have RO:=mw spa;have la:=mw pa;have N1:=nb.N1;have N2:=nb.N2;have GN:=nb.GN;have D1:=fm.D1;have eN:=qy N;obtain⟨k,hk⟩:∃k,k=fs.length:=⟨_,Z⟩;have gi0:oi [zbb gt,zad gb] 0=some (.ref gt):=Z;have gi1:oi [zbb gt,zad gb] 1=some (.int gb):=Z;have leD:∀M:Int,M∣(D:Int)->M<2^N:=fun M h=>by have:=aW O h;lia
 refine pkD ?_;intro D_;refine xT 10 (lL (ma (nE (mJ rV (mD (Ay T) hr (lG (pM T.zji (pv 1)) (lG (lY tP (oX [] ["number","made"] (mQ (pv 0)) (fun C s H fp=>⟨(tQ 0 1),mL,(pv 0)⟩)) (oA (pv 2) Z)) (lG (pv 15) mB)))))))) ?_;intro b h;refine xT 9 (lE (mE 15 nd (lY tP (pv 13) (oX [("modulus",4)] ["many"] (mQ (pv 14)) (fun C s H fp=>⟨(qo 1),mL,(lY mS (pv 1) (pv 0))⟩)))) h) ?_;intro b h;refine xT 8 (lE (mE 14 nd (mD (Ak T) hr (lG (lY tP (nY (mT (pv 8))) (pv 7)) (lG (lY tP (nY (mT lJ)) (oX [] ["many"] (mQ (pv 13)) (fun C s H fp=>⟨(qo 0),mL,(tD qO (pv 0))⟩))) (lG (pM T.zji (pv 8)) mB))))) h) ?_;intro b h;refine xT 7 (lE (xm 13 [("modulus",4)] ["many"] nd (mQ (tU v3 (pv 10) (pB (pM T.zji (pv 8))) GP)) (fun C s H fp=>⟨(qo 1),mL,(mD (y6 T) hr (mJ (tD qO (pv 1)) (pv 0)))⟩)) h) ?_;intro b h;refine xT 6 (lE (nh aO Z (qE lD T.zju (mT (pv 9))) (oY Z (mI (nW 11 nd) (mI (nW 12 nd) oe))) (lE (nw (nQ qK (lY m3 (mF mU (pv 10) (pv 11)) (mF mU (pv 12) (pv 11))) lJ) (lL (ma (mD (A4 T) hr (mJ (pv 2) (mD (D6 T) hr (lG (pv 9) (lG (pv 11) (lG (pv 4) mB)))))))) mR) (lL (mE 10 nd (mD (tV T) hr (lG (pv 10) (lG (lY mS (mF mU (pv 10) (pv 11)) (mF mU (pv 12) (pv 11))) (lG (pv 12) (lG (pv 4) mB))))))))) h) ?_;intro b h;refine xT 5 (lE (mE 10 nd (lY tP (pv 8) (lY re (nY (mT lJ)) (pM T.zji (pv 7))))) h) ?_;intro b h;refine xT 4 (lE (mE 9 nd (mD (Dw T) hr (lG (pv 7) (lG (pM T.zji (pv 8)) (lG (pv 4) mB))))) h) ?_;intro b h;refine xT 3 (lE (mE 8 nd (mD (sT T) hr (mJ (pv 3) (pv 4)))) h) ?_;intro b h;refine xT 2 (lE (xm 7 [("modulus",4)] ["number","made"] nd (mQ (pv 0)) (fun C s H fp=>⟨(tQ 1 2),mL,(mD (sT T) hr (mJ (pv 2) (pv 0)))⟩)) h) ?_;intro b h;refine xT 1 (lE (nh aO Z (mQ (pv 0)) (oY Z (mI (nW 5 nd) (mI (nW 6 nd) oe))) (lL (mE 4 nd (mD (CZ T) hr (mJ (pv 4) (mF mv (pv 6) lJ)))))) h) ?_;intro b h;refine⟨_,lE (mE 4 nd (mF mv (pv 3) lJ)) h,_,Z,gm,_,_,_,Z,Z,mW.of VI,gi1,_,Z,r,Z,⟨_,mj.of h1⟩,om (K:=K) (xs:=as.map zbb) (fun i σ H2=>H2=H/\∃(M:Int)(o1 o2:œ),σ=[some (.ref r),some (.ref s'),some (.ref x),some (.ref gm),some (.int M),o1,o2,none,none,none,none,none,none,none,none,none]/\1<=M/\gb∣M/\M∣(D:Int)/\∀j o,j<i->os[j]?=some o->o.2.2∣M) ⟨Z,gb,none,none,Z,Cm.b1,cq _,Cm.bD,fun j o hj=>absurd hj (bS _)⟩ (fun i σ H2 _ z=>by rw[z.1];exact mj.of h1) ?_ ?_⟩
 .rintro i y σ H2 hy ⟨rfl,M,o1,o2,rfl,M1,gM,MD,al⟩;obtain⟨a,rfl,ha⟩:=rh hy;obtain⟨o,ho,t,tt,Oz,ht,uf⟩:=m9 pa ha;have m:=(mo o (ao ho)).2;have i1:oi [zbb tt,zad o.2.2] 1=some (.int o.2.2):=Z;refine⟨a,_,Z,mW.of Oz,Z,_,_,Z,_,_,Z,Z,_,Z,_,Z,t,_,_,_,Z,Z,mW.of ht,i1,M,o.2.2,N,Z,M1,m.b1,leD M MD,m.bN,N2,fun j j1 d1 d2 alD=>?_⟩;refine⟨Z,j,_,_,Z,j1,bu gM d1,alD _ MD m.bD,fun j' o' WO E8=>?_⟩;rcases ť.mp WO with e | e
  .exact bu (al j' o' e E8) d1
  .rw[e,ho] at E8;cases E8;exact d2
 rintro σ H2 ⟨rfl,M,o1,o2,rfl,M1,gM,MD,al⟩;have MN:=leD M MD;rw[aa,la] at al;have alM:∀o∈os,o.2.2∣M:=fun o ho=>by
  obtain⟨j,hj⟩:=List.getElem?_of_mem ho;exact al j o (aJ.mp hj).1 hj
 -- è
 obtain⟨è,AY⟩:∃è:ĸ,è=os.map fun o=>zdu o.2.1 (M/o.2.2):=⟨_,Z⟩;have AZ:è.length=os.length:=by rw[AY,aa]
 refine⟨_,Z,r,Z,⟨_,mj.of h1⟩,?_⟩;refine rA (K:=K) (xs:=as.map zbb) è (by rw[AZ,aa,la]) zoh (mj.of h1) ?_ ?_
 .intro i y H3 hy nJ R kk;obtain⟨a,rfl,ha⟩:=rh hy;obtain⟨o,ho,t,tt,Oz,ht,uf⟩:=m9 pa ha;have m:=(mo o (ao ho)).2;refine⟨a,_,Z,mW.of (nJ _ _ Oz),Z,_,_,Z,_,_,Z,Z,_,Z,_,Z,t,tt,o.2.1,o.2.2,M,N,Z,nJ _ _ ht,nJ _ _ uf,by rw[m.len];lia,m.b1,m.bN,O,MN,m.bd,N2,fun u H4 sm4 h4=>kk H4 u _ sm4 (by rw[AY,af,ho];rfl) h4⟩
 intro ro H3 nJ _ IQ
 -- ê
 obtain⟨gw,VL⟩:∃gw:ń,gw=zdu qS (M/gb):=⟨_,Z⟩;have Po:gw.length=k:=by rw[VL,Rx.B6,Cm.len,hk]
 refine⟨_,Z,_,Z,gm,gt,qS,gb,M,N,Z,nJ _ _ VI,nJ _ _ W9,by rw[Cm.len];lia,Cm.b1,Cm.bN,O,MN,Cm.bd,N2,fun gl H4 sm4 Vi=>?_⟩;rw[<-VL] at Vi;have zcb:=nJ.trans sm4;have lrw:∀row∈è,row.length=k:=fun row h=>by
  rw[AY] at h;obtain⟨o,ho,rfl⟩:=ţ.mp h;rw[Rx.B6,((mo o ho).2).len,hk]
 have zcc:∀b:Int,1<=b->0<=M/b/\M/b<=M:=fun b b1=>⟨de O O,cx b O⟩;have whb:∀(à:ń)(b:Int),1<=b->(∀y∈à,y.natAbs<2^N)->Bd (2*N) (zdu à (M/b)):=fun à b b1 bt y hy=>by
  unfold zdu at hy;obtain⟨z,hz,rfl⟩:=ţ.mp hy;have a:=bt z hz;have q:=zcc b b1;rw[aR,show 2*N=N+N by lia,fO];have n2:(M/b).natAbs<2^N:=O;have:=cU (cK a) (show (M/b).natAbs<=2^N by lia);rcases õ (M/b).natAbs with c | c
  .rw[c,hZ];exact dI (gk L) (gk L)
  .exact bK (Nat.mul_lt_mul_of_pos_right a c) (dY _ O)
 have gwb:Bd (2*N) gw:=by rw[VL];exact whb _ _ Cm.b1 Cm.bd
 have rwb:∀row∈è,row.length=k/\Bd (2*N) row:=fun row h=>⟨lrw row h,by
  rw[AY] at h;obtain⟨o,ho,rfl⟩:=ţ.mp h;exact whb _ _ ((mo o ho).2).b1 ((mo o ho).2).bd⟩
 refine⟨_,Z,_,Z,gl,_,Z,.inl (mj.of Vi),_,Z,ro,è,k,os.length,N,M,(by rw[aa,Po];rfl),IQ.same sm4,AZ,lrw,O,M1,MN,O,N2,fun tl H5 ls pH VC zog=>?_⟩;have Mh:=zcb.trans pH;have VM:=pH _ _ Vi;obtain⟨VN,Mb,Md⟩:=(IQ.same sm4).same pH;have VO:=mw Md;have lsl:=zog.len
 -- left
 refine⟨_,Z,lI,fun lo zX=>⟨_,Z,ro,_,Z,.inl (mj.of (lQ (lO.refl _) zX _ _ Mb)),?_⟩⟩;rw[aa,VO,AZ];refine⟨lo,_,_,Z,Z,lH,O,O,zoj,fun pz hpz=>?_⟩;rw[rep0];have sR:=lQ (o:=.lst ((ş os.length (0:Int)).map zad)) (lQ (o:=.lst [zad 0]) (lO.refl H5) zX) hpz;have VP:upd (upd H5 lo (.lst [zad 0])) pz (.lst ((ş os.length (0:Int)).map zad)) pz=some (.lst ((ş os.length (0:Int)).map zad)):=lH;generalize upd (upd H5 lo (.lst [zad 0])) pz (.lst ((ş os.length (0:Int)).map zad))=H6 at sR VP ⊢;refine⟨gl,pz,_,_,Z,Z,sR _ _ VM,VP,by rw[aa,aa,bq,Po];exact pO O,fun lf hlf=>?_⟩;have sm7:=lQ (o:=.lst (gw.map zad++(ş os.length (0:Int)).map zad)) (lO.refl H6) hlf;have VQ:upd H6 lf (.lst (gw.map zad++(ş os.length (0:Int)).map zad)) lf=some (.lst ((gw++ş os.length 0).map zad)):=by rw[lH,aQ]
 generalize upd H6 lf (.lst (gw.map zad++(ş os.length (0:Int)).map zad))=H7 at sm7 VQ ⊢;have VR:=(Mh.trans sR).trans sm7;have VS:=(VC.same sR).same sm7;obtain⟨las,My,Rv⟩:=id VS;have zce:=mw Rv;have b0:Bd (2*N) (gw++ş os.length 0):=fun y hy=>by
  rcases ŵ.mp hy with c | c
  .exact gwb y c
  .rw[(gJ.mp c).2];exact gk L
 refine⟨_,Z,tl,Z,⟨_,mj.of My⟩,rY (K:=K) (xs:=las.map zbb) (fun c σ H8=>lO H7 H8/\∃(lt:Addr)(left:ń)(o3 o4:œ),σ=[some (.ref r),some (.ref s'),some (.ref x),some (.ref gm),some (.int M),o1,o2,some (.ref ro),some (.ref gl),some (.ref tl),some (.ref lt),o3,o4,none,none,none]/\H8 lt=some (.lst (left.map zad))/\Rx.Gl M k os.length è gw ls c left/\Bd (2*N) left) ⟨lO.refl _,lf,_,none,none,Z,VQ,.start Po ls,b0⟩ (fun i σ H8 _ z=>z.1.seq (mj.of My)) ?_ ?_⟩
 .rintro c y σ H8 pp hx ⟨uz,lt,left,o3,o4,rfl,rK,Pp,lb⟩ Cd;obtain⟨a,l,rfl,ha,rC,hh⟩:=oM Rv hx;have cl:c<k:=by rw[<-lsl];exact(aJ.mp rC).1
  have t:=zog.E6.at rC;rw[eV] at t;have Sy:=Dt MN (zog.up l (ao rC));have sQ:=lQ (o:=.tup [.int (c:Nat),.ref a]) (lO.refl H8) Cd;have VT:=uz.trans sQ;have RP:=sQ _ _ rK;have hh':=VT _ _ hh;have Xb:left.length=k+os.length:=Pp.len;have cg:oi (left.map zad) (c:Int)=some (.int (zbh left c)):=nV zoi;have RB:oi (l.map zad) (c:Int)=some (.int (zbh l c)):=nV (by rw[af,zdv (by rw[t.1];lia)];rfl);have l1:=t.2.2.1;have lN:=Sy _ (zcy (l:=l) (i:=c) (by rw[t.1];lia));refine⟨pp,_,Z,mW.of lH,Z,_,_,Z,_,_,Z,Z,?_⟩;refine zo ?_;intros;refine⟨_,Z,_,Z,lt,_,_,_,Z,Z,mj.of RP,cg,_,Z,_,Z,a,_,_,_,Z,Z,mj.of hh',RB,_,_,Z,Z,(show 0<zbh l c by lia),Z,_,Z,oS (fun cc=>?_) (fun cc=>?_)⟩
  .have nz:=OV cc;have Mi:=(VR.trans uz).trans sQ;refine⟨_,Z,_,Z,_,Z,_,Z,tl,è,ls,k,os.length,os.length,c,N,M,Z,(VS.same uz).same sQ,zog,cl,O,M1,MN,O,N2,fun ta H9 am vj _ VU lam uam bar=>?_⟩;have Pr:=Mi.trans vj;have amG:∀j,j<fs.length->(zbh am j).natAbs<=G:=fun j hj=>by
    have:=uam _ (zcy (l:=am) (i:=j) O);have:=aW O MD;lia
   refine⟨x,ta,é,fs,us,am,p,w',N,D,Cc,G,B,Z,fa.same Pr,fo,fm,nb,lw,w4,zy,VU,by rw[lam,hk],amG,fun t wt xD à b wR zch Xc lt10 b1 bN sol=>?_⟩;refine qb t wt xD _ b (Pr.trans wR) zch Xc ?_;have kill:Lt.Hj M k (zbg am) ls:=fun l' hl'=>by
    obtain⟨j,hj⟩:=List.getElem?_of_mem hl';exact bar.kl j l' (dW _) hj
   have main:∀(v:ń)(T:ń),v.length=w'->T.length=k->(∀i:Nat,i<k->(zag k fun j=>zbq é (zcq fs j.toNat) (zbv fs i)*zbg T j)=M*zbg v (zbv fs i))->(b∣zbr v ((zdn w' (zbu fs) à).map fun y=>y%b)↔M∣zfl k T (zbg am)):=fun v T lv lT hT=>by
    have d1:=Rx.Ni (s:=b) lv (Rx.qF w' (zbu fs) à);rw[Rx.FY fm.hp fo.crn lv lt10] at d1;refine(Lt.p4 d1).trans ?_;have e:=Rx.QN (k:=k) (U:=fun i t=>zbq é (zcq fs i) (zbv fs t)) (x:=zbg à) (am:=zbg am) (T:=zbg T) (v:=fun t=>zbg v (zbv fs t.toNat)) (s:=b) (M:=M) (fun i hi=>by
     have:=sol i O;rw[<-hk] at this;unfold zbg at this ⊢;rw[ae];exact this) (fun t ht=>(by rw[ae];exact hT t ht))
    rw[<-hk];refine(Rx.NQ b1 M1 e).trans ?_;unfold zfl zbg;exact Iff.rfl
   refine⟨by rw[aa,Rx.qF],b1,bN,Rx.In.mod O _ fun y=>y,fun i hi=>?_,fun o ho=>?_,fun dg=>?_,?_⟩
   .have nn:=fo.crn.uD hi;have lv:=(lw _ (zdr (è:=é) nn)).1;refine(main _ (zei k i M) lv (zfk ..) fun c' wQ=>?_).mpr ?_
    .have:(zag k fun j=>zbq é (zcq fs j.toNat) (zbv fs c')*zbg (zei k i M) j)=zag k fun j=>M*zbq é (zcq fs j.toNat) (zbv fs c')*if j=(i:Int) then 1 else 0:=zbc fun j hj=>by
      unfold zbg;rw[ae,Rx.rq O]
      by_cases z:j=i
      .rw[aA z,aA O];grind
      .rw[ah z,ah O];grind
     rw[this,Mx.n6 (F:=fun j=>M*zbq é (zcq fs j.toNat) (zbv fs c')) O,ae];rfl
    .unfold zfl;refine Mx.vT fun j hj=>?_;rw[ae,Rx.rq O];split
     .exact dC ..
     .rw[aZ];exact bx _
   .have m:=mo o ho;have lv:=(lw _ (zdr (è:=é) m.1)).1;refine(main _ (zdu o.2.1 (M/o.2.2)) lv (by rw[Rx.B6,m.2.len,hk]) fun c' wQ=>?_).mpr ?_
    .rw[hk];refine Rx.GJ (U:=fun j t=>zbq é (zcq fs j) (zbv fs t)) m.2.len m.2.b1 (alM o ho) ?_;rw[m.2.eq c' O];rfl
    .obtain⟨j,hj⟩:=List.getElem?_of_mem ho;have:=zog.kill _ kill j (aJ.mp hj).1;rwa [zeg (row:=zdu o.2.1 (M/o.2.2)) (by rw[AY,af,hj];rfl)] at this
   .have d2:=(main ê gw Xa Po fun c' wQ=>by
     rw[VL,hk];refine Rx.GJ (U:=fun j t=>zbq é (zcq fs j) (zbv fs t)) Cm.len Cm.b1 gM ?_;exact Cm.eq c' O).mp dg
    have d3:=Pp.dd _ kill;refine bar.not M1 zog.E6 cl rC Pp.zero (fun z=>nz ?_) ((Lt.p4 d3).mpr d2);exact bB z
   .lia
  .have ze:=Hu cc;have dv:zbh l c∣zbh left c:=aY ze;have lcb:=lb _ (zcy (l:=left) (i:=c) O);have qb':(zbh left c/zbh l c).natAbs<2^(2*N):=by
    have e:=hV dv;have n:(zbh left c/zbh l c).natAbs*(zbh l c).natAbs=(zbh left c).natAbs:=by rw[<-aR,e]
    have:=dY (zbh left c/zbh l c).natAbs (show 1<=(zbh l c).natAbs by lia);lia
   refine⟨_,Z,_,Z,_,Z,lt,_,_,_,Z,Z,mj.of RP,cg,_,Z,_,Z,a,_,_,_,Z,Z,mj.of hh',RB,_,_,Z,Z,va O lN N2,_,Z,_,Z,lt,a,left,l,_,M,2*N,N,Z,RP,hh',by rw[Xb,t.1],O,O,qb',Sy,O,O,fun t9 H9 vj h9=>?_⟩;refine⟨VT.trans vj,t9,_,_,_,Z,h9,Pp.step M1 zog rC dv,?_⟩;have M2:M<2^(2*N):=by
    have:=bR (n:=2) L (show N<=2*N by lia);have e2:=qy (2*N);lia
   exact Lg O M2 lb
 rintro σ H8 ⟨uz,lt,left,o3,o4,rfl,rK,Pp,lb⟩;rw[aa,zce,lsl] at Pp;have zci:=VR.trans uz;have VV:=uz _ _ (sm7 _ _ (sR _ _ VM));have Xb:left.length=k+os.length:=Pp.len
 -- taken
 refine⟨_,Z,_,Z,gl,_,Z,.inl (mj.of VV),_,Z,lt,_,Z,mj.of rK,fun cu hcu=>?_⟩;rw[aa,Po,Cs];have vj:=lQ (o:=.lst ((left.drop k).map zad)) (lO.refl H8) hcu;have RQ:upd H8 cu (.lst ((left.drop k).map zad)) cu=some (.lst ((left.drop k).map zad)):=lH;generalize upd H8 cu (.lst ((left.drop k).map zad))=H9 at vj RQ ⊢;obtain⟨tk,htk⟩:∃tk:ń,tk=(left.drop k).map fun y=>zdw (-y) M:=⟨_,Z⟩;have Pu:tk.length=os.length:=by rw[htk,aa,cH,Xb];lia
 have tkb:Bd N tk:=fun y hy=>by
  rw[htk] at hy;obtain⟨z,_,rfl⟩:=ţ.mp hy;have:=Rx.Tx (n:=-z) (show 0<M by lia);lia
 refine⟨cu,Z,⟨_,mj.of RQ⟩,?_⟩;refine nT (K:=K) (xs:=(left.drop k).map zad) tk (by rw[Pu,aa,cH,Xb];lia) (by rw[aa,cH];lia) (mj.of RQ) ?_ ?_
 .intro i y xD hy wR R kk;obtain⟨u,rfl,hu⟩:=int_at hy;exact⟨_,Z,_,Z,_,Z,-u,M,Z,O,kk _ _ (lO.refl _) (by rw[htk,af,hu];rfl)⟩
 intro tka xD wR _ RR;have VW:=(zci.trans vj).trans wR;have Pw:=wR _ _ (vj _ _ VV);have OA:=wR _ _ (vj _ _ (uz _ _ (sm7 _ _ (sR _ _ Mb))));have VX:=m5 ((((sR.trans sm7).trans uz).trans vj).trans wR) Md
 -- rD
 refine⟨_,Z,lI,fun l1 VY=>⟨_,Z,l1,ro,_,_,Z,Z,lH,lQ (lO.refl _) VY _ _ OA,by rw[aa,VO,AZ];exact pO (by show 1+_<=_;lia),fun l2 zcj=>?_⟩⟩;have xE:=lQ (o:=.lst ([zbb gl]++VN.map zbb)) (lQ (o:=.lst [zbb gl]) (lO.refl xD) VY) zcj;have Px:upd (upd xD l1 (.lst [zbb gl])) l2 (.lst ([zbb gl]++VN.map zbb)) l2=some (.lst ((gl::VN).map zbb)):=lH;generalize upd (upd xD l1 (.lst [zbb gl])) l2 (.lst ([zbb gl]++VN.map zbb))=IR at xE Px ⊢;refine⟨lI,fun l3 VZ=>⟨_,Z,tka,Z,⟨_,mj.of (lQ (lO.refl _) VZ _ _ (xE _ _ RR))⟩,?_⟩⟩;have oG:=lQ (o:=.lst [zad 1]) (lO.refl IR) VZ;have Py:upd IR l3 (.lst [zad 1]) l3=some (.lst [zad 1]):=lH;generalize upd IR l3 (.lst [zad 1])=Mw at oG Py ⊢;refine nT (K:=K) (xs:=tk.map zad) (tk.map fun y=>-y) zom zoh (mj.of (oG _ _ (xE _ _ RR))) ?_ ?_
 .intro i y PC hy rW R kk;obtain⟨u,rfl,hu⟩:=int_at hy;exact⟨_,Z,_,Z,kk _ _ (lO.refl _) (by rw[af,hu];rfl)⟩
 intro ng PC rW _ hng;refine⟨l3,ng,_,_,Z,Z,rW _ _ Py,hng,by rw[aa,aa,Pu];exact pO (by show 1+_<=_;lia),fun l4 zck=>?_⟩;have RS:=lQ (o:=.lst ([zad 1]++(tk.map fun y=>-y).map zad)) (lO.refl PC) zck;have PD:upd PC l4 (.lst ([zad 1]++(tk.map fun y=>-y).map zad)) l4=some (.lst ((1::tk.map fun y=>-y).map zad)):=lH;generalize upd PC l4 (.lst ([zad 1]++(tk.map fun y=>-y).map zad))=H14 at RS PD ⊢;have zA:=((xE.trans oG).trans rW).trans RS;have zcl:nM H14 l2 (gw::è):=⟨gl::VN,RS _ _ (rW _ _ (oG _ _ Px)),.cons (zA _ _ Pw) (m5 zA VX)⟩;have bc:Bd (N+1) (1::tk.map fun y=>-y):=fun y hy=>by
  rcases ũ.mp hy with e | e
  .rw[e];exact Nat.one_lt_two_pow O
  .obtain⟨z,hz,rfl⟩:=ţ.mp e;have:=tkb z hz;rw[iI,dX];lia
 refine⟨_,Z,gl,_,Z,.inl (mj.of (zA _ _ Pw)),l2,l4,gw::è,1::tk.map (fun y=>-y),k,os.length+1,2*N,N+1,(by rw[aa,Po];rfl),zcl,PD,by rw[bJ,AZ],by rw[bJ,aa,Pu],fun y hy=>?_,bc,O,O,O,O,fun sp V0 rD DQ hsp lsp eqs=>?_⟩
 .rcases ũ.mp hy with e | e
  .rw[e];exact⟨Po,gwb⟩
  .exact rwb y e
 have V1:∀c:Nat,c<k->zbh rD c=zbh gw c-zag os.length fun j=>zbg tk j*zfj è j.toNat c:=fun c hc=>by rw[eqs c hc,Rx.sum_cons Pu]
 have spd:∀c:Nat,c<k->M∣zbh rD c:=fun c hc=>by
  rw[V1 c hc];have:=Pp.end M1 (tk:=fun j=>zbg tk j) (fun j hj=>by
   unfold zbg
   try dsimp only
   rw[ae];have e:zbh tk j=zdw (-(zbh left (k+j))) M:=by
    rw[htk,Rx.tE (by rw[cH];lia),Rx.Es]
   rw[e];have:=Rx.QY (-(zbh left (k+j))) M;rwa [Int.sub_neg] at this) c hc
  have e2:(zag os.length fun j=>zbg tk (j.toNat:Int)*zfj è j.toNat c)=zag os.length fun j=>zbg tk j*zfj è j.toNat c:=zbc fun j _=>by rw[ae]
  rw[e2] at this;exact this
 have spb:Bd (3*N+12) rD:=fun y hy=>by
  obtain⟨c,hc,rfl⟩:=zer hy;rw[eqs c O];have b:=Sg.zT (m:=os.length+1) (F:=fun j=>zbh (1::tk.map fun y=>-y) j.toNat*zbh ((gw::è).getD j.toNat []) c) (B:=2^(N+1)*2^(2*N)) fun j hj=>by
   show (zbh (1::tk.map fun y=>-y) (j:Int).toNat*zbh ((gw::è).getD (j:Int).toNat []) c).natAbs<=_
   rw[ae,aR];refine cU (cK (bc _ (zcy (by rw[bJ,aa,Pu];lia)))) ?_;have rm:(gw::è).getD j []∈gw::è:=zdr (by rw[bJ,AZ];lia);have rl:((gw::è).getD j []).length=k/\Bd (2*N) ((gw::è).getD j []):=by
    rcases ũ.mp rm with e | e
    .rw[e];exact⟨Po,gwb⟩
    .exact rwb _ e
   exact cK (rl.2 _ (zcy O))
  have e3:2^(3*N+12)=2048*(2^(N+1)*2^(2*N)):=by rw[<-fO,show 3*N+12=11+(N+1+2*N) by lia,fO]
  have p3:0<2^(N+1)*2^(2*N):=dI (gk L) (gk L);generalize 2^(N+1)*2^(2*N)=zoe at b e3 p3;have:(os.length+1)*zoe<=421*zoe:=b9 _ O;rw[e3];lia
 -- counts
 obtain⟨sq,Xd⟩:∃sq:ń,sq=rD.map fun y=>y/M:=⟨_,Z⟩;have Xe:sq.length=k:=by rw[Xd,aa,lsp]
 have V2:=DQ _ _ (zA _ _ RR);refine⟨_,Z,_,Z,sp,Z,⟨_,mj.of hsp⟩,?_⟩;refine nT (K:=K) (xs:=rD.map zad) sq (by rw[Xe,aa,lsp]) zoh (mj.of hsp) ?_ ?_
 .intro i y OB hy RT R kk;obtain⟨u,rfl,hu⟩:=int_at hy;exact⟨_,Z,_,Z,_,_,Z,Z,va O (show M.natAbs<2^N by lia) N2,kk _ _ (lO.refl _) (by rw[Xd,af,hu];rfl)⟩
 intro sqa OB RT _ zcm;refine⟨tka,sqa,_,_,Z,Z,RT _ _ V2,zcm,by rw[aa,aa,Pu,Xe];exact pO O,fun ca WS=>?_⟩;have V3:=lQ (o:=.lst (tk.map zad++sq.map zad)) (lO.refl OB) WS;have PF:upd OB ca (.lst (tk.map zad++sq.map zad)) ca=some (.lst ((tk++sq).map zad)):=by rw[lH,aQ]
 generalize upd OB ca (.lst (tk.map zad++sq.map zad))=H17 at V3 PF ⊢;have DR:=(((VW.trans zA).trans DQ).trans RT).trans V3
 -- the way
 obtain⟨dx,ff,ch,co,ro',un,hx,hf,Ci,_⟩:=(fa.same DR).ex;have V5:=DR _ _ h1;refine⟨_,Z,s',_,Z,.inl (mj.of (DR _ _ hS1)),_,Z,r,Z,⟨_,mj.of V5⟩,?_⟩;refine nT (K:=K) (xs:=as.map zbb) (ni (os.map fun o=>o.1)) (by rw[aa,aa,aa,la]) zoh (mj.of V5) ?_ ?_
 .intro i y Sz hy zZ R kk;obtain⟨a,rfl,ha⟩:=rh hy;obtain⟨o,ho,t,tt,Oz,ht,uf⟩:=m9 pa ha;exact⟨a,_,Z,mW.of (zZ _ _ (DR _ _ Oz)),Z,_,_,Z,_,_,Z,Z,_,Z,kk _ _ (lO.refl _) (by rw[af,af,ho];rfl)⟩
 intro na Sz zZ _ hna;refine⟨_,Z,x,CF,dx,_,_,Z,zZ _ _ hx,T.ziv,T.ziz,Al _ _ _ _ _ _ _ _,na,ch,_,_,Z,Z,hna,zZ _ _ Ci,by rw[aa,aa,aa,aa,aa];unfold zbi;rw[š];exact pO O,fun SA zcn=>?_⟩;have RU:=lQ (o:=.lst ((ni (os.map fun o=>o.1)).map zad++(ni (zbi fs)).map zad)) (lO.refl Sz) zcn;have PH:upd Sz SA (.lst ((ni (os.map fun o=>o.1)).map zad++(ni (zbi fs)).map zad)) SA=some (.lst ((ni (os.map (fun o=>o.1)++zbi fs)).map zad)):=by rw[lH];simp only[ni,Ć]
 generalize upd Sz SA (.lst ((ni (os.map fun o=>o.1)).map zad++(ni (zbi fs)).map zad))=H19 at RU PH ⊢;have Ox:(zbi fs).length=k:=by unfold zbi;rw[š,hk]
 have plt:∀n∈os.map (fun o=>o.1)++zbi fs,n<é.length:=fun n hn=>by
  rcases ŵ.mp hn with c | c
  .obtain⟨o,ho,rfl⟩:=ţ.mp c;exact(mo o ho).1
  .exact Rx.xK fo.crn n c
 refine⟨_,Z,é.length,SA,ca,os.map (fun o=>o.1)++zbi fs,tk++sq,(by rw[aa,RO];rfl),PH,RU _ _ (zZ _ _ PF),by rw[aP,aP,aa,Pu,Xe,Ox],plt,sz,fun cn H20 zco _ hcn=>?_⟩;refine⟨lR,fun tw htw=>?_⟩;refine qw tw cn _ _ (lQ (((DR.trans zZ).trans RU).trans zco) htw) lH (lQ (lO.refl _) htw _ _ hcn) (Rx.qF ..) (fun y hy=>?_) fun i hi=>?_
 .rcases Rx.GG hy with e | e
  .rw[e];exact gk L
  .rcases ŵ.mp e with c | c
   .exact pP tkb O y c
   .rw[Xd] at c;obtain⟨z,hz,rfl⟩:=ţ.mp c;obtain⟨j,hj,rfl⟩:=zer hz;have e:=hV (spd j O);have n:(zbh rD j/M).natAbs*M.natAbs=(zbh rD j).natAbs:=by rw[<-aR,e]
    have:=dY (zbh rD j/M).natAbs (show 1<=M.natAbs by lia);have b:=spb _ hz;exact bK (show (zbh rD j/M).natAbs<2^(3*N+12) by lia) (bR L O)
 .have e:=Rx.Tw (n:=é.length) (F:=fun j=>zbq é j.toNat (zbv fs i)) (os:=os.map fun o=>o.1) (cs:=zbi fs) (by rw[aa]) Ox Pu Xe VJ plt;rw[e];have we:=Rx.Q3 (k:=k) (r:=os.length) (U:=fun j t=>zbq é (zcq fs j) (zbv fs t)) (M:=M) (gv:=zbg ê (zbv fs i)) (t:=i) (goalw:=zbg gw) (R:=zfj è) (sv:=fun j=>zbq é ((os.map fun o=>o.1).getD j 0) (zbv fs i)) (tk:=zbg tk) (sp:=zbg sq) M1 (by
    rw[VL,hk];exact Rx.GJ (U:=fun j t=>zbq é (zcq fs j) (zbv fs t)) Cm.len Cm.b1 gM (Cm.eq i hi)) (fun j hj=>by
    obtain⟨o,ho⟩:∃o,os[j]?=some o:=⟨_,List.getElem?_eq_getElem hj⟩;have m:=mo o (ao ho);have er:è.getD j []=zdu o.2.1 (M/o.2.2):=zeg (by rw[AY,af,ho];rfl);have en:(os.map fun o=>o.1).getD j 0=o.1:=by rw[ak,af,ho];rfl
    have a:(zag k fun i'=>zbq é (zcq fs i'.toNat) (zbv fs i)*zfj è j i')=zag k fun i'=>zbq é (zcq fs i'.toNat) (zbv fs i)*zbg (zdu o.2.1 (M/o.2.2)) i':=zbc fun i' _=>by
     unfold zfj zbg;rw[er]
    try dsimp only
    rw[a,en,hk];exact Rx.GJ (U:=fun j t=>zbq é (zcq fs j) (zbv fs t)) m.2.len m.2.b1 (alM o (ao ho)) (m.2.eq i hi)) (fun c hc=>by
    have e1:zbg sq c=zbh rD c/M:=by
     unfold zbg;rw[ae,Xd,Rx.tE O]
    have e2:zbg gw c=zbh gw c:=by unfold zbg;rw[ŧ]
    rw[e1,e2,b8 (spd c hc),V1 c hc])
  have f1:zbg ê (zbv fs i)=zbh ê (zbv fs i):=by unfold zbg;rw[ŧ]
  rw[<-f1,<-we];congr 1
  .refine zbc fun j hj=>?_;unfold zbg
   try dsimp only
   rw[ae,ae,ay]
  .refine zbc fun j hj=>?_;unfold zbg
   try dsimp only
   rw[ae,ae,ay,ak,Rx.F0 O];rfl
def MM {H:Hp}{zof a t tt:Addr}{os:List Ot}{o:Ot}(hO:H zof=some (.lst (as.map zbb)))(pa:Paired (JK H) as os)(ne:∀o∈os,o.2.1≠[])(ha:H a=some (.tup [.int o.1,.ref t]))(ht:H t=some (.tup [.ref tt,.int o.2.2]))(uf:H tt=some (.lst (o.2.1.map zad)))(nl:o.2.1≠[]):HG (upd H zof (.lst (as.map zbb++[.ref a]))) zof (os++[o]):=by
 have ne1:∀(b:Addr)(x:ń),x≠[]->H b=some (.lst (x.map zad))->b≠zof:=fun b x hx hb=>p7 hb hO fun z=>by
  injection z with z;cases x with
  | nil=>exact hx Z
  | cons y ys=>cases as with
   | nil=>cases z
   | cons a0 WI=>injection z with z1;cases z1
 have keep:∀(a:Addr)(x:Ot),x.2.1≠[]->JK H a x->JK (upd H zof (.lst (as.map zbb++[.ref a]))) a x->jd:=fun _ _ _ _ _=>trivial;have k2:∀{o':HO}(a:Addr)(x:Ot),x.2.1≠[]->JK H a x->JK (upd H zof o') a x:=fun a x hx ⟨t,tt,u,v,y⟩ =>
  ⟨t,tt,(mi (p7 u hO (by intro z;cases z))).trans u,(mi (p7 v hO (by intro z;cases z))).trans v,(mi (ne1 _ _ hx y)).trans y⟩
 have go:∀{uE:ŋ}{Sb:List Ot}{o':HO},(∀o∈Sb,o.2.1≠[])->Paired (JK H) uE Sb->Paired (JK (upd H zof o')) uE Sb:=fun {uE Sb o'} hn p=>by
  induction p with
  | nil=>exact .nil
  | cons h _ ih=>exact .cons (k2 _ _ (hn _ av) h) (ih fun o ho=>hn o (aq _ ho))
 exact⟨as++[a],by rw[lH,aQ];rfl,L2.Paired.ER (go ne pa) (.cons (k2 _ _ nl ⟨t,tt,ha,ht,uf⟩) .nil)⟩
def TDp (w N:Nat)(é:ĸ)(fs:List zcf)(os:List Ot)(ê:ń)(H1:Hp)(t:Addr):Prop:=(∃wt W s,H1 t=some (.tup [.str "bar",.ref wt,.int s])/\H1 wt=some (.lst (W.map zad))/\O5 w fs.length N é fs os ê W s)\/(∃ct cnts,H1 t=some (.tup [.str "way",.ref ct])/\H1 ct=some (.lst (cnts.map zad))/\cnts.length=é.length/\Bd 40000 cnts/\∀i:Nat,i<fs.length->(zag é.length fun j=>zbq é j.toNat (zbv fs i)*zbh cnts j.toNat)=zbh ê (zbv fs i))
inductive TD (C:Addr)(vs:ň)(H:Hp)(Q:VK)(_:XK):Prop
 | mk (r s x gm gt:Addr)(os:List Ot)(é:ĸ)(fs:List zcf)(us:ĸ)(ê qS:ń)(gb p:Int)(w N D Cc G B:Nat)(_:vs=[.ref r,.ref s,.ref x,.ref gm])(_:HG H r os)(_:nM H s é)(_:yq C H x p w é fs us)(_:OX p w N é fs us)(_:zfi p w é fs us D Cc)(_:Nb p fs.length D Cc G B N)(_:D<=G)(_:∀y∈é,y.length=w/\Bd N y)(_:w<=420)(_:1000<=p)(_:é.length<=20000)(_:fs.length+os.length<=420)(_:H gm=some (.tup [.ref gt,.int gb]))(_:H gt=some (.lst (qS.map zad)))(_:ê.length=w)(_:zdz é fs D N (zbg ê) qS gb)(_:∀o∈os,o.1<é.length/\zdz é fs D N (zbq é o.1) o.2.1 o.2.2)(_:(os.map (fun o=>o.1)++zbi fs).Nodup)(_:∀t H',lO H H'->TDp w N é fs os ê H' t->Q (.ref t) H')
def sV:Df P w K mg base 9 "sought_with" ["others","steps","frame","goal_made"] (TD CF):=by
 obtain⟨f,fd,F,rr⟩:=(yg (P:=P) (w:=w) (base:=base) T).ex;refine⟨f,fd,F.imp fun vs H Q E h=>?_,rr⟩;obtain⟨r,s,x,gm,gt,os,é,fs,us,ê,qS,gb,p,w',N,D,Cc,G,B,e,a1,a2,a3,a4,a5,a6,a7,a8,a9,TY,Ts,TM,UQ,UH,Tj,X5,XM,XZ,q⟩:=h;exact⟨r,s,x,gm,gt,os,é,fs,us,ê,qS,gb,p,w',N,D,Cc,G,B,e,a1,a2,a3,a4,a5,a6,a7,a8,a9,TY,Ts,TM,UQ,UH,Tj,X5,XM,XZ,fun t wt H2 W s nZ h1 h2 sb=>q t H2 nZ (.inl ⟨wt,W,s,h1,h2,sb⟩),fun t ct H2 cnts nZ h1 h2 l b e=>q t H2 nZ (.inr ⟨ct,cnts,h1,h2,l,b,e⟩)⟩
structure Ks (C:Addr)(H:Hp)(s x:Addr)(p:Int)(w N D Cc G B:Nat)(é:ĸ)(fs:List zcf)(us:ĸ):Prop where
 hS:nM H s é
 fa:yq C H x p w é fs us
 fo:OX p w N é fs us
 fm:zfi p w é fs us D Cc
 nb:Nb p fs.length D Cc G B N
 DG:D<=G
 CG:Cc<=G
 lw:∀y∈é,y.length=w/\Bd N y
 w4:w<=420
 p3:1000<=p
 sz:é.length<=420
def Ks.same {C:Addr}{H H':Hp}{s x:Addr}{p:Int}{w N D Cc G B:Nat}{é:ĸ}{fs:List zcf}{us:ĸ}(h:Ks C H s x p w N D Cc G B é fs us)(sm:lO H H'):Ks C H' s x p w N D Cc G B é fs us :=
 ⟨h.hS.same sm,h.fa.same sm,h.fo,h.fm,h.nb,h.DG,h.CG,h.lw,h.w4,h.p3,h.sz⟩
inductive Uf (C:Addr)(vs:ň)(H:Hp)(Q:VK)(_:XK):Prop
 | mk (s x gm gt:Addr)(é:ĸ)(fs:List zcf)(us:ĸ)(ê qS:ń)(gb p:Int)(w N D Cc G B:Nat)(_:vs=[.ref s,.ref x,.ref gm])(_:Ks C H s x p w N D Cc G B é fs us)(_:H gm=some (.tup [.ref gt,.int gb]))(_:H gt=some (.lst (qS.map zad)))(_:ê.length=w)(_:zdz é fs D N (zbg ê) qS gb)(_:∀t wt H' W s,lO H H'->H' t=some (.tup [.str "bar",.ref wt,.int s])->H' wt=some (.lst (W.map zad))->W.length=w->1<=s->Bd N W->zea é ê W s->Q (.ref t) H')(_:∀t ct H' cnts,lO H H'->H' t=some (.tup [.str "way",.ref ct])->H' ct=some (.lst (cnts.map zad))->cnts.length=é.length->Bd 40000 cnts->(∀i:Nat,i<fs.length->(zag é.length fun j=>zbq é j.toNat (zbv fs i)*zbh cnts j.toNat)=zbh ê (zbv fs i))->Q (.ref t) H')
def wf:Df P w K mg base 10 "sought_within" ["steps","frame","goal_made"] (Uf CF):=by
 refine mX T.zhs wI fun f cdv A outer s H vs Q E hr nd h=>?_;obtain⟨s',x,gm,gt,é,fs,us,ê,qS,gb,p,w',N,D,Cc,G,B,rfl,e0,VI,W9,Xa,Cm,qb,qw⟩:=h;have nb:=e0.nb;have N1:=nb.N1;have N2:=nb.N2;have eN:=qy N;refine⟨_,(lE (mE 3 nd (nY mB)) (lE (mE 4 nd (mD (sV T) hr (lG (pv 3) (lG (pv 0) (lG (pv 1) (lG (pv 2) mB)))))) (lE (oV aO (nQ pX (mF mv (pv 4) lJ) rV) (lE (mE 5 nd (mD (p8 T) hr (mJ (pv 0) (pv 4)))) (lE (nw (nQ BI (pv 5) t5) (lL (ma (pv 4))) mR) (lE (oO (vX cW cO cP o5 (pv 3) (mT (nE (mJ (pv 5) (yO (pv 1) T.ziv (sW T) (hr.mono L) (mT (mF mU (pv 0) (pv 5))))))))) (lL (mE 4 nd (mD (sV T) hr (lG (pv 3) (lG (pv 0) (lG (pv 1) (lG (pv 2) mB))))))))))) (lL (ma (pv 4)))))),II ?_⟩;intros;refine⟨pO L,fun zof hO=>?_⟩;have Oy:lO H (upd H zof (.lst [])):=lQ (lO.refl _) hO;have VA:upd H zof (.lst []) zof=some (.lst (([]:ŋ).map zbb)):=lH;generalize upd H zof (.lst [])=H0 at Oy VA ⊢;have szs:∀os:List Ot,(∀o∈os,o.1<é.length/\zdz é fs D N (zbq é o.1) o.2.1 o.2.2)->(os.map (fun o=>o.1)++zbi fs).Nodup->fs.length+os.length<=420:=fun os mo VJ=>by
  have lt:∀n∈os.map (fun o=>o.1)++zbi fs,n<é.length:=fun n hn=>by
   rcases ŵ.mp hn with c | c
   .obtain⟨o,ho,rfl⟩:=ţ.mp c;exact(mo o ho).1
   .exact Rx.xK e0.fo.crn n c
  have ln:=Rx.Lk VJ lt;rw[aP,aa] at ln;have Ox:(zbi fs).length=fs.length:=by unfold zbi;rw[š]
  have sz:=e0.sz;lia
 have V6:é.length<=20000:=by have:=e0.sz;lia
 have OC:=e0.same Oy;have Xf:(([]:List Ot).map (fun o=>o.1)++zbi fs).Nodup:=by rw[jG,jg];exact e0.fo.crn.FD
 have Xg:∀o∈([]:List Ot),o.1<é.length/\zdz é fs D N (zbq é o.1) o.2.1 o.2.2:=fun o ho=>(nomatch ho);refine⟨_,Z,_,Z,_,Z,_,Z,zof,s',x,gm,gt,[],é,fs,us,ê,qS,gb,p,w',N,D,Cc,G,B,Z,⟨[],VA,.nil⟩,OC.hS,OC.fa,OC.fo,OC.fm,OC.nb,OC.DG,OC.lw,OC.w4,OC.p3,V6,szs [] Xg Xf,Oy _ _ VI,Oy _ _ W9,Xa,Cm,Xg,Xf,fun t0 H1 nS td0=>?_⟩;refine⟨fun mm σ H'=>lO H H'/\∃(os:List Ot)(as:ŋ)(t:Addr)(o1:œ),σ=[some (.ref s'),some (.ref x),some (.ref gm),some (.ref zof),some (.ref t),o1]/\H' zof=some (.lst (as.map zbb))/\Paired (JK H') as os/\(∀o∈os,o.1<é.length/\zdz é fs D N (zbq é o.1) o.2.1 o.2.2)/\(os.map (fun o=>o.1)++zbi fs).Nodup/\TDp w' N é fs os ê H' t/\mm=é.length-os.length,
  ⟨_,Oy.trans nS,[],[],t0,none,Z,nS _ _ VA,.nil,fun o ho=>(nomatch ho),by rw[jG,jg];exact e0.fo.crn.FD,td0,Z⟩,?_⟩
 rintro mm σ H' ⟨sm,os,as,t,o1,rfl,Sx,pa,mo,VJ,td,rfl⟩;rcases td with ⟨wt,W,s0,ht,Xc,sb⟩ | ⟨ct,cnts,ht,hct,lc,bc,eqc⟩
 rotate_left
 .have i0:oi [zdj "way",zbb ct] 0=some (.str "way"):=Z;refine⟨_,Z,t,_,_,_,Z,Z,mW.of ht,i0,Z,_,Z,oQ lh ?_⟩;exact⟨_,Z,qw t ct H' cnts sm ht hct lc bc eqc⟩
 have i0:oi [zdj "bar",zbb wt,zad s0] 0=some (.str "bar"):=Z;refine⟨_,Z,t,_,_,_,Z,Z,mW.of ht,i0,Z,_,Z,rp lh ⟨_,fun _ _ h=>h,?_⟩⟩;refine II ?_;intros;have Wb:Bd N W:=yB sb.sN sb.CD;have e1:=e0.same sm;have s1:=sb.s1;have w4:=e0.w4;refine⟨_,Z,_,Z,s',t,wt,_,é,W,s0,w',N,N,Z,e1.hS,ht,Xc,sb.len,e0.lw,Wb,O,O,O,O,fun n H2 nZ hn ndv=>?_,fun H2 nZ al=>?_⟩
 .-- one more
  refine⟨_,Z,Z,_,Z,oQ lB ?_⟩;have e2:=e1.same nZ;obtain⟨sas,VE,hs2⟩:=e2.hS;obtain⟨dx,ff,ch,co,ro,un,hx,_⟩:=e2.fa.ex;obtain⟨a,Ov,ha⟩:=zc hs2 (zdx hn);have ll:=e0.lw _ (zdr (è:=é) hn);have gst:∀c:Nat,zbh (é.getD n []) c=zbq é n c:=fun c=>by unfold zbq;rw[ŧ]
  refine⟨_,Z,.inl ⟨Z,_,mj.of (nZ _ _ Sx)⟩,_,Z,_,Z,x,dx,_,Z,hx,AA _ _ _ _ _ _ _ _,_,Z,_,Z,s',_,_,_,Z,Z,mj.of VE,Ov,x,a,é,fs,us,é.getD n [],p,w',N,D,Cc,G,B,Z,e2.fa,e2.fo,e2.fm,e2.nb,e2.lw,w4,e0.p3,ha,ll.1,fun c hc=>?_,fun tm tt H3 à b nJ htm uf lt b1 bD bN bt sol=>?_⟩
  .rw[gst];exact aS (e0.fm.bd n c hn hc) e0.CG
  have mad:zdz é fs D N (zbq é n) à b:=⟨lt,b1,bD,bN,bt,fun i hi=>by rw[<-gst];exact sol i hi⟩;refine⟨lR,fun tn htn=>?_⟩;have smn:=lQ (o:=.tup [.int (n:Nat),.ref tm]) (lO.refl H3) htn;have Fj:=(nZ.trans nJ).trans smn;have RN:=Fj _ _ Sx;have lno:n∉os.map (fun o=>o.1)++zbi fs:=fun hm=>by
   rcases ŵ.mp hm with c | c
   .obtain⟨o,ho,e⟩:=ţ.mp c;exact ndv (by have:=sb.ot o ho;rwa [e] at this)
   .unfold zbi at c;obtain⟨f,hf,e⟩:=ţ.mp c;obtain⟨j,hj,ej⟩:=ų hf;have:=sb.ch j hj;have en:zcq fs j=n:=by unfold zcq;rw[Rx.getD_at (List.getElem?_eq_getElem hj),ej,e]
    rw[en] at this;exact ndv this
  have nd2:((os++[((n:Nat),à,b)]).map (fun o=>o.1)++zbi fs).Nodup:=by
   rw[aQ,ii];have RV:=i4.mp VJ;rw[i4];refine⟨RV.1,?_,fun a ha b hb=>?_⟩
   .show (n::zbi fs).Nodup
    rw[fU];exact⟨fun hm=>lno (bP _ hm),RV.2.1⟩
   .rcases ũ.mp (show b∈n::zbi fs from hb) with e | e
    .rw[e];exact fun z=>lno (cX _ (z▸ha))
    .exact RV.2.2 a ha b e
  have V7:∀o∈os++[((n:Nat),à,b)],o.1<é.length/\zdz é fs D N (zbq é o.1) o.2.1 o.2.2:=fun o ho=>by
   rcases ŵ.mp ho with c | c
   .exact mo o c
   .rw[cm.mp c];exact⟨hn,mad⟩
  have lt2:∀m∈(os++[((n:Nat),à,b)]).map (fun o=>o.1)++zbi fs,m<é.length:=fun m hm=>by
   rcases ŵ.mp hm with c | c
   .obtain⟨o,ho,rfl⟩:=ţ.mp c;exact(V7 o ho).1
   .exact Rx.xK e0.fo.crn m c
  have ln:=Rx.Lk nd2 lt2;rw[aP,aa,aP] at ln;have ln':os.length+1<=é.length:=by have:os.length + [((n:Nat),à,b)].length+(zbi fs).length<=é.length:=ln;rw[eC] at this;lia
  have sz:=e0.sz;have k0:=sb.k0;have nonil:∀o∈os++[((n:Nat),à,b)],o.2.1≠[]:=fun o ho z=>by
   have:=(V7 o ho).2.len;rw[z] at this;simp at this;lia
  refine⟨zof,_,_,Z,Z,RN,by rw[aa,mw pa];exact oq O,?_⟩;have push:=MM (o:=((n:Nat),à,b)) RN (DJ Fj pa) (fun o ho=>nonil o (cX _ ho)) lH (smn _ _ htm) (smn _ _ uf) (nonil _ (bP _ av));have IS:lO H (upd (upd H3 tn (.tup [.int (n:Nat),.ref tm])) zof (.lst (as.map zbb++[.ref tn]))):=mO (sm.trans Fj) hO;generalize upd (upd H3 tn (.tup [.int (n:Nat),.ref tm])) zof (.lst (as.map zbb++[.ref tn]))=H5 at push IS ⊢;have e5:=e0.same IS;refine⟨_,Z,_,Z,_,Z,_,Z,zof,s',x,gm,gt,_,é,fs,us,ê,qS,gb,p,w',N,D,Cc,G,B,Z,push,e5.hS,e5.fa,e5.fo,e5.fm,e5.nb,e5.DG,e5.lw,e5.w4,e5.p3,V6,szs _ V7 nd2,IS _ _ VI,IS _ _ W9,Xa,Cm,V7,nd2,fun t2 H6 sR td6=>?_⟩;obtain⟨as2,p1,p2⟩:=push.same sR;exact⟨é.length-(os.length+1),O,IS.trans sR,_,as2,t2,_,Z,p1,p2,V7,nd2,td6,by rw[aP];rfl⟩
 .refine⟨_,Z,Z,_,Z,rp lB ?_⟩;exact⟨_,Z,qb t wt H2 W s0 (sm.trans nZ) (nZ _ _ ht) (nZ _ _ Xc) sb.len sb.s1 Wb ⟨al,sb.go⟩⟩
structure Nk (k C Cg N B G:Nat):Prop where
 a1:(2*(k*C)+1)^k<=B
 a2:(2*(k*C)+1)^k<=G
 a3:k*((2*(k*C)+1)^k*(zcp k C*G))<=B
 a4:1<=B
 a5:128*(B*B)*(128*(B*B))*2^480<=2^N
 a6:G<2^N
 a7:C<=G
 a8:Cg<=G
def P9 {p:Int}(p0:0<=p)(Mu:p<2^30):p^16<=2^480:=by
 have a:=iO (show p.toNat<=2^30 by lia) 16;have c:((p.toNat^16:Nat):Int)=p^16:=by rw[eO,show ((p.toNat:Nat):Int)=p by lia]
 have d:(2^30)^16=2^480:=by rw[<-Nat.pow_mul]
 rw[d] at a;have e:=qy 480;lia
def UB {p:Int}{k D C Cg N B G:Nat}(p0:0<=p)(Mu:p<2^30)(Db:D<=(2*(k*C)+1)^k)(h:Nk k C Cg N B G)(N1:480<=N)(N2:N<=9000):Nb p k D C G B N/\D<=G:=by
 refine⟨⟨aS Db h.a1,aS (dY _ (b9 _ Db)) h.a3,h.a4,?_,h.a6,N1,N2⟩,aS Db h.a2⟩;have a:=P9 p0 Mu;have b:(0:Int)<=128*((B:Int)*B)*(128*((B:Int)*B)):=by
  have:(0:Int)<=(B:Int)*B:=bF O O;exact bF O O
 have c:=aB a b;have d:((128*(B*B)*(128*(B*B))*2^480:Nat):Int)=128*((B:Int)*B)*(128*((B:Int)*B))*2^480:=by
  simp only[Int.natCast_mul,Int.natCast_pow];rfl
 have e:=qy N;have f:=h.a5;lia
def KP {H:Hp}{as:ŋ}{è:ĸ}(pa:Paired (fun a (x:ń)=>H a=some (.lst (x.map zad))) as è):∀{ps:ŏ},(∀q∈ps,q<è.length)->∃bs:ŋ,pk (as.map zbb) ps=bs.map zbb/\Paired (fun a (x:ń)=>H a=some (.lst (x.map zad))) bs (ps.map fun q=>è.getD q [])
 | [],_=>⟨[],Z,.nil⟩
 | q::ps,h=>by
  obtain⟨bs,e,p⟩:=KP pa (ps:=ps) fun z hz=>h z (ÿ _ hz);have ql:=h q av;have la:=mw pa;have ha:as[q]?=some (as[q]'O):=az O;obtain⟨row,hr,hh⟩:=m9 pa ha;refine⟨as[q]'O::bs,?_,.cons (by dsimp only;rw[zeg hr];exact hh) p⟩;show (as.map zbb).getD q .non::pk (as.map zbb) ps=_
  rw[e,ak,af,ha];rfl
inductive Zl (C:Addr)(vs:ň)(H:Hp)(Q:VK)(_:XK):Prop
 | mk (s gl:Addr)(é:ĸ)(ê:ń)(p:Int)(w N Cc Cg:Nat)(_:vs=[.ref s,.ref gl,.int p])(_:nM H s é)(_:H gl=some (.lst (ê.map zad)))(_:∀y∈é,y.length=w/\Bd N y)(_:ê.length=w)(_:w<=420)(_:é.length<=420)(_:zbn p)(_:1000<=p)(_:p<2^30)(_:480<=N)(_:N<=9000)(_:1<=Cc)(_:∀j c:Nat,j<é.length->c<w->(zbq é j c).natAbs<=Cc)(_:∀c,c<w->(zbh ê c).natAbs<=Cg)(_:∀k,k<=é.length->k<=w->∃B G,Nk k Cc Cg N B G)(_:∀t wt H' W s,lO H H'->H' t=some (.tup [.str "bar",.ref wt,.int s])->H' wt=some (.lst (W.map zad))->W.length=w->0<=s->Bd (N+1) W->(zey p w é.length (zbq é) (zbg ê)->zea é ê W s)->Q (.ref t) H')(_:∀t ct H' cnts,lO H H'->H' t=some (.tup [.str "way",.ref ct])->H' ct=some (.lst (cnts.map zad))->cnts.length=é.length->Bd 40000 cnts->(zey p w é.length (zbq é) (zbg ê)->zes w é ê cnts)->Q (.ref t) H')
def Hs:Df P w K mg base 11 "sought" ["steps","goal","prime"] (Zl CF):=by
 refine mX T.zhr Ip fun f cdv A outer s H vs Q E hr nd h=>?_;obtain⟨s',gl,é,ê,p,w',N,Cc,Cg,rfl,hS,hg,lw,lg,w4,s4,hp,p3,Mu,N1,N2,C1,bs,bg,num,qb,qw⟩:=h;have eN:=qy N;have lw1:∀y∈é,y.length=w':=fun y hy=>(lw y hy).1;refine⟨_,(lE (mE 3 nd (QI (zK T) (hr.mono L) lD (lG (pv 0) (lG (pM T.zji (pv 1)) (lG (pv 2) mB))))) (lE (mE 4 nd (yO (pv 3) T.ziv (xp T) (hr.mono L) (mT (pv 1)))) (lE (nw (nQ BI (pv 4) t5) (lL (ma (mD (wf T) hr (lG (pv 0) (lG (pv 3) (lG (yO (pv 3) T.ziv (sW T) (hr.mono L) (mT (pv 1))) mB)))))) mR) (lE (mE 5 nd (yO (pv 3) T.ziv (sj T) (hr.mono L) (mT (mD (vH T) hr (mJ (mD (wM T) hr (mJ (pv 0) (oA (pv 3) Z))) (pv 4)))))) (lE (xm 6 [] ["number"] nd (mQ (mF mv (pv 5) lJ)) (fun C s H fp=>⟨(qo 0),mL,(tD qO (pv 0))⟩)) (lE (rz (mF mv (pv 5) lJ) (qZ (pv 6) (pv 4) set_list)) (lL (ma (nE (lG rV (lG (pv 6) (lG lJ mB)))))))))))),Wx ?_⟩;intros;refine⟨_,Z,_,Z,gl,_,Z,.inl (mj.of hg),_,Z,fun x dx nx ndx ne=>?_⟩;have rE:lO H (upd (upd H dx (.own x)) x (.ins CF dx [])):=fun b o e=>by
  rw[mi (mh e nx),mi (mh e ndx)];exact e
 refine⟨x,s',dx,é,p,w',N,(by rw[aa,lg];rfl),lH,hS.same rE,lw,w4,O,hp,Mu,N1,N2,fun H1 fs us kx fa fo=>⟨Z,?_⟩⟩;have nS:lO H H1:=fun b o e=>kx b o (rE b o e) (mh e nx);have kl:=fo.crn.fr.HF hp;obtain⟨D,fm⟩:=Rx.zO.mk' hp fo.crn fo.ul (fun u hu=>(fo.uw u hu).1) fo.li C1 bs;obtain⟨B,G,nk⟩:=num fs.length kl.1 kl.2;obtain⟨nb,DG⟩:=UB O Mu fm.Db nk N1 N2;obtain⟨Xh,ff,ch,co,ro,un,hx,hff,Ci,_⟩:=fa.ex;have hg1:=nS _ _ hg;have e0:Ks CF H1 s' x p w' N D Cc G B é fs us:=⟨hS.same nS,fa,fo,fm,nb,DG,nk.a7,lw,w4,p3,s4⟩;refine⟨_,Z,x,Xh,_,Z,hx,HP _ _ _ _ _ _ _ _,_,Z,x,gl,é,fs,us,ê,p,w',N,Z,fa,fo,hp,Mu,N1,N2,w4,hg1,lg,fun c H2 nZ hc nz=>?_,fun H2 nZ z=>?_⟩
 .refine⟨_,Z,Z,_,Z,oQ lB ?_⟩;have oG:=nS.trans nZ;obtain⟨sas,VE,hs2⟩:=hS.same oG;have RO:=mw hs2;have Xi:=nZ _ _ hx;have nl:=Rx.xK fo.crn;have Ox:(zbi fs).length=fs.length:=by unfold zbi;rw[š]
  refine⟨_,Z,x,Xh,_,Z,Xi,yN _ _ _ _ _ _ _ _,_,Z,_,Z,x,CF,Xh,_,_,Z,Xi,T.ziv,T.ziz,Al _ _ _ _ _ _ _ _,s',ch,_,zbi fs,Z,mj.of VE,nZ _ _ Ci,fun q hq=>by rw[aa,RO];exact nl q hq,O,fun t1 H3 nJ _ h3=>?_⟩;obtain⟨bs3,e3,pb3⟩:=KP (m5 nJ hs2) (ps:=zbi fs) nl;rw[e3] at h3;have lpk:∀row∈(zbi fs).map fun q=>é.getD q [],c<row.length:=fun row nA=>by
   obtain⟨q,hq,rfl⟩:=ţ.mp nA;rw[(lw _ (zdr (è:=é) (nl q hq))).1];exact hc
  refine⟨_,Z,t1,(zbi fs).map (fun q=>é.getD q []),c,Z,⟨bs3,h3,pb3⟩,lpk,by rw[aa];lia,fun t2 H4 sm4 _ h4=>?_⟩;obtain⟨am,VU⟩:∃am:ń,am=((zbi fs).map fun q=>é.getD q []).map fun row=>zbh row c:=⟨_,Z⟩;rw[<-VU] at h4;have lam:am.length=fs.length:=by rw[VU,aa,aa,Ox]
  have WN:∀i,i<fs.length->zbh am i=zbh (é.getD (zcq fs i) []) c:=fun i hi=>zdo (by rw[VU,af,af,Rx.F0 hi];rfl);have V8:=(nZ.trans nJ).trans sm4;have amG:∀i,i<fs.length->(zbh am i).natAbs<=G:=fun i hi=>by
   rw[WN i hi];have:=bs (zcq fs i) c (fo.crn.uD hi) hc;unfold zbq at this;rw[ae] at this;exact aS this nk.a7
  have e4:=e0.same V8;refine⟨x,t2,é,fs,us,am,p,w',N,D,Cc,G,B,Z,e4.fa,fo,fm,nb,lw,w4,p3,h4,lam,amG,fun tt W0 H5 à b pH uf hW0 _ lt b1 bD bN bt sol=>?_⟩;have i0:oi [zbb W0,zad b] 0=some (.ref W0):=Z;have i1:oi [zbb W0,zad b] 1=some (.int b):=Z;refine⟨_,Z,tt,_,_,_,Z,Z,mW.of uf,i0,W0,Z,⟨_,mj.of hW0⟩,?_⟩;refine nT (K:=K) (xs:=(zdn w' (zbu fs) à).map zad) ((zdn w' (zbu fs) à).map fun y=>-y) zom zon (mj.of hW0) ?_ ?_
  .intro i y H6 hy sR R kk;obtain⟨u,rfl,hu⟩:=int_at hy;exact⟨_,Z,_,Z,kk _ _ (lO.refl _) (by rw[af,hu];rfl)⟩
  intro wa H6 sR nwa hwa;refine⟨_,Z,tt,_,_,_,Z,Z,mW.of (sR _ _ uf),i1,_,Z,_,Z,wa,_,_,_,Z,Z,hwa,t8 O (by rw[aa,aa,Rx.qF];lia),?_⟩;rw[ae,set_int];have smA:=((nS.trans V8).trans pH);have IS:lO H (upd H6 wa (.lst ((((zdn w' (zbu fs) à).map fun y=>-y).set c b).map zad))):=mO (smA.trans sR) (smA.free nwa);have hU:upd H6 wa (.lst ((((zdn w' (zbu fs) à).map fun y=>-y).set c b).map zad)) wa=some (.lst ((((zdn w' (zbu fs) à).map fun y=>-y).set c b).map zad)):=lH;generalize upd H6 wa (.lst ((((zdn w' (zbu fs) à).map fun y=>-y).set c b).map zad))=H7 at IS hU ⊢;refine⟨_,Z,me,fun tr WX=>?_⟩;refine qb tr wa _ _ 0 (lQ IS WX) lH (lQ (lO.refl _) WX _ _ hU) (by rw[cI,aa,Rx.qF]) (eL 0) (fun y hy=>?_) fun gd=>?_
  .rw[dX];rcases ó hy with z | z
   .obtain⟨u,hu,rfl⟩:=ţ.mp z;rw[iI];rcases Rx.GG hu with e | e
    .rw[e];have:=gk (n:=N) (show 0<2 by decide);show 0<_;lia
    .have:=bt u e;lia
   .rw[z];lia
  .exact Rx.JF hp fo.crn fm.ci2 lw1 lg lt hc nz b1 WN sol gd
 .refine⟨_,Z,Z,_,Z,rp lB ?_⟩;have Xi:=nZ _ _ hx;have e2:=e0.same nZ;have oG:=nS.trans nZ;have hm:Mx.Hm p w' (zbq é) fs.length (zcq fs) (zbg ê):=fo.crn.hm O lg z;refine⟨_,Z,_,Z,_,Z,x,Xh,_,Z,Xi,AA _ _ _ _ _ _ _ _,_,Z,x,gl,é,fs,us,ê,p,w',N,D,Cc,G,B,Z,e2.fa,fo,fm,nb,lw,w4,p3,nZ _ _ hg1,lg,fun c hc=>aS (bg c hc) nk.a8,fun t tt H3 à b nJ ht uf lt b1 bD bN bt sol=>?_⟩;have e3:=e2.same nJ;refine⟨s',x,t,tt,é,fs,us,ê,à,b,p,w',N,D,Cc,G,B,Z,e3,ht,uf,lg,⟨lt,b1,bD,bN,bt,fun i hi=>by rw[sol i hi];unfold zbg;rw[ŧ]⟩,fun t wt H4 W s sm4 h1 h2 lW s1 bW sh=>?_,fun t ct H4 cnts sm4 h1 h2 lc bc eqc=>?_⟩
  .exact qb t wt H4 W s ((oG.trans nJ).trans sm4) h1 h2 lW O (pP bW O) fun _=>sh
  .exact qw t ct H4 cnts ((oG.trans nJ).trans sm4) h1 h2 lc bc fun gd=>Rx.Iu hp fo.crn gd hm eqc
def S5 (w:Nat)(é:ĸ)(ê:ń)(H:Hp)(t:Addr)(Q:VK):Prop :=
 (∃wt W s N,H t=some (.tup [.str "bar",.ref wt,.int s])/\H wt=some (.lst (W.map zad))/\W.length=w/\0<=s/\Bd N W/\N<=1000000/\(∀H',lO H H'->zea é ê W s->Q (.bl true) H')/\∀H',lO H H'->¬zea é ê W s->Q (.bl false) H') \/
 ∃ct cnts,H t=some (.tup [.str "way",.ref ct])/\H ct=some (.lst (cnts.map zad))/\cnts.length=é.length/\Bd 40000 cnts/\(∀H',lO H H'->zes w é ê cnts->Q (.bl true) H')/\∀H',lO H H'->¬zes w é ê cnts->Q (.bl false) H'
inductive ZT (K:zfq)(vs:ň)(H:Hp)(Q:VK)(_:XK):Prop
 | mk (s gl t:Addr)(é:ĸ)(ê:ń)(w N:Nat)(_:vs=[.ref s,.ref gl,.ref t])(_:nM H s é)(_:H gl=some (.lst (ê.map zad)))(_:∀y∈é,y.length=w/\Bd N y)(_:ê.length=w)(_:Bd N ê)(_:w<=420)(_:é.length<=420)(_:N<=1000000)(_:S5 w é ê H t Q)
def Dd:Df P w K mg base 4 "is_shown" ["steps","goal","told"] (ZT K):=by
 refine mX T.zhn C8 fun f cdv A outer s H vs Q E hr nd h=>?_;obtain⟨s',gl,t,é,ê,w',N,rfl,hS,hg,lw,lg,bg,w4,s4,N1,tl⟩:=h;refine⟨_,(lE (nw (nQ pX (mF mv (pv 2) lJ) rV) (lL (ma (oP (JH (Of hr)) (mD (Ak T) hr (lG (pv 0) (lG (mF mv (pv 2) lJ) (lG (pM T.zji (pv 1)) mB)))) (pv 1) (pQ _)))) mR) (lL (ma (wb (oP BI (mD (p8 T) hr (mJ (pv 0) (pv 2))) t5 (pQ _)) (B8 (oP pX (mD (p8 T) hr (mJ (nY (mT (pv 1))) (pv 2))) lJ (pQ _))))))),zo ?_⟩;intros;rcases tl with ⟨wt,W,s0,M,ht,hw,lW,s1,bW,M1,qt,qf⟩ | ⟨ct,cnts,ht,hc,lc,bc,qt,qf⟩
 .have i0:oi [zdj "bar",zbb wt,zad s0] 0=some (.str "bar"):=Z;refine⟨_,Z,t,_,_,_,Z,Z,mW.of ht,i0,Z,_,Z,oQ lh ?_⟩;have fin:∀H1:Hp,lO H H1->(∀j,j<é.length->s0∣zbr (é.getD j []) W)->jd:=fun _ _ _=>trivial;refine⟨_,Z,_,Z,s',t,wt,_,é,W,s0,w',N,M,Z,hS,ht,hw,lW,lw,bW,O,N1,M1,s1,fun n H1 nS hn ndv=>?_,fun H1 nS al=>?_⟩
  .refine⟨Z,_,Z,oQ lB ?_⟩;exact qf H1 nS fun sh=>ndv (sh.1 n hn)
  .refine⟨Z,_,Z,rp lB ?_⟩;refine⟨_,Z,lI,fun l1 My=>?_⟩;have nZ:=lQ (o:=.lst [zbb gl]) (lO.refl H1) My;have oG:=nS.trans nZ;have hl:upd H1 l1 (.lst [zbb gl]) l1=some (.lst ([gl].map zbb)):=lH;generalize upd H1 l1 (.lst [zbb gl])=H2 at nZ oG hl ⊢;refine⟨_,Z,l1,t,wt,_,[ê],W,s0,w',N,M,Z,⟨[gl],hl,.cons (oG _ _ hg) .nil⟩,oG _ _ ht,oG _ _ hw,lW,fun y hy=>by rw[cm.mp hy];exact⟨lg,bg⟩,bW,O,N1,M1,s1,fun n H3 nJ hn ndv=>?_,fun H3 nJ al2=>?_⟩
   .have n0:n=0:=by rw[eC] at hn;lia
    subst n0;refine⟨Z,?_⟩;exact qt H3 (oG.trans nJ) ⟨al,ndv⟩
   .refine⟨Z,?_⟩;exact qf H3 (oG.trans nJ) fun sh=>sh.2 (al2 0 (by rw[eC];exact Ą))
 .have i0:oi [zdj "way",zbb ct] 0=some (.str "way"):=Z;have i1:oi [zdj "way",zbb ct] 1=some (.ref ct):=Z;refine⟨_,Z,t,_,_,_,Z,Z,mW.of ht,i0,Z,_,Z,rp lh ?_⟩;refine⟨_,Z,_,Z,t,_,_,_,Z,Z,mW.of ht,i1,_,Z,gl,_,Z,.inl (mj.of hg),s',ct,é,cnts,w',é.length,N,40000,(by rw[aa,lg];rfl),hS,hc,Z,lc,lw,bc,O,O,N1,L,fun o H1 out nS ho lo eqs=>?_⟩;refine⟨_,Z,QS (mj.of ho) (mj.of (nS _ _ hg)) ?_⟩
  by_cases e:out=ê
  .rw[cB e];exact qt H1 nS fun c hc=>by rw[<-eqs c hc,e]
  .rw[fq e];exact qf H1 nS fun sh=>e (Rx.TH (by rw[lo,lg]) fun c hc=>by rw[eqs c O];exact sh c O)
def Kg {a b:Int}(h1:-1000000000000<=a)(h2:a<=1000000000000):IntMulOk a b:=yW h1 h2
inductive TV (vs:ň)(H:Hp)(Q:VK)(_:XK):Prop
 | mk (n p:Int)(_:vs=[.int n,.int p])(_:1<=n)(_:n<=1000010000)(_:2<=p)(_:p<=31625)(_:∀q,Pt.EJ n p q->Q (.int q) H)
inductive J0 (vs:ň)(H:Hp)(Q:VK)(_:XK):Prop
 | mk (n:Int)(_:vs=[.int n])(_:1<=n)(_:n<=1000010000)(_:∀r H' ps,lO H H'->H r=none->Di H' r ps->zcs n ps->Q (.ref r) H')
def xo:Df P w K mg base 1 "prime_power" ["n","p"] TV:=by
 refine mX T.zgj yn fun f cdv A outer s H vs Q E hr nd h=>?_;obtain⟨n,p,rfl,n1,n2,p1,p2,q⟩:=h;refine⟨_,(lE (mE 2 nd lJ) (lE (oV aO (nQ pX (lY m3 (pv 0) (lY mH (pv 2) (pv 1))) lJ) (lL (mE 2 nd (lY mH (pv 2) (pv 1))))) (lL (ma (pv 2))))),xi ?_⟩;intros;refine⟨fun m σ H'=>H'=H/\∃q,σ=[some (.int n),some (.int p),some (.int q)]/\Pt.Bh n p q/\m=(n-q).toNat,⟨_,Z,1,Z,Pt.q0 n p,Z⟩,?_⟩;rintro m σ H' ⟨rfl,z,rfl,hz,rfl⟩;have z1:=hz.pos;have z2:=Pt.MX n1 hz;have zp:=Pt.Ln p1 z1;refine⟨_,Z,_,Z,_,Z,_,_,Z,Z,Kg O O,_,_,Z,Z,(show 0<z*p by lia),Z,_,Z,?_⟩;refine oS (fun c=>?_) (fun c=>?_)
 .have hq:=Pt.q1 p1 hz (xt c);have hl:=Pt.MX n1 hq;refine⟨_,fun _ _ h=>h,_,Z,_,Z,_,_,Z,Z,Kg O O,(n-z*p).toNat,O,Z,_,Z,hq,Z⟩
 .exact⟨_,Z,q z (Pt.q2 hz (yL c))⟩
def uh:Df P w K mg base 2 "parts" ["n"] J0:=by
 refine mX T.zgi Jm fun f cdv A outer s H vs Q E hr nd h=>?_;obtain⟨n,rfl,n1,n2,q⟩:=h;refine⟨_,(lE (mE 1 nd (nY mB)) (lE (mE 2 nd (pv 0)) (lE (mE 3 nd lJ) (lE (oV aO (nQ Gq (lY mH (pv 3) (pv 3)) (pv 2)) (lE (mE 4 nd (mD (xo T) hr (mJ (pv 2) (pv 3)))) (lE (nw (nQ uO (pv 4) lJ) (lE (oO (vX cW cO cP o5 (pv 1) (mT (nE (mJ (pv 3) (pv 4)))))) (lL (mE 2 nd (lY mS (pv 2) (pv 4))))) mR) (lL (mE 3 nd (lY mY (pv 3) lJ)))))) (lE (nw (nQ uO (pv 2) lJ) (lL (oO (vX cW cO cP o5 (pv 1) (mT (nE (mJ (pv 2) (pv 2))))))) mR) (lL (ma (pv 1)))))))),R4 ?_⟩;intros;refine⟨dW _,fun r zY=>?_⟩;refine⟨_,Z,?_⟩;refine⟨fun m σ H'=>lO H H'/\∃(as:ŋ)(ps:ľ)(left p:Int)(qv:œ),σ=[some (.int n),some (.ref r),some (.int left),some (.int p),qv] /\
   H' r=some (.lst (as.map zbb))/\Paired (fun a (x:Int×Int)=>H' a=some (.tup [.int x.1,.int x.2])) as ps/\Pt.zH n ps left p/\1<=left/\left<=1000010000/\2<=p/\p<=31625/\(ps.length:Int)+2<=p/\m=(40000-p).toNat,
  ⟨_,mO (lO.refl H) zY,[],[],n,2,none,Z,lH,.nil,Pt.start n,n1,n2,O,O,lB,Z⟩,?_⟩
 rintro m σ H' ⟨sm,as,ps,left,p,qv,rfl,hl,pr,inv,l1,l2,p1,p2,æ,rfl⟩;have al:=fK pr;refine⟨_,Z,_,Z,_,_,Z,Z,Kg O O,_,Z,_,_,Z,Z,_,Z,?_⟩;refine oS (fun c=>?_) (fun c=>?_)
 .have hd:=dec c;have a:p<=31624:=by
   rcases ū 31624 p with y | y
   .have:=df (show 31625<=p by lia) (show 31625<=p by lia) L O;lia
   .exact y
  refine⟨_,fun _ _ h=>h,?_⟩;refine xi ?_;intros;refine⟨_,Z,_,Z,left,p,Z,l1,l2,p1,O,fun z hz=>?_⟩;refine⟨_,Z,_,_,Z,Z,_,Z,?_⟩;refine oS (fun c=>?_) (fun c=>?_)
  .have z1:=dec c;have zl:=Pt.MX l1 hz.inv;have lp:=Pt.DK l1 hz.inv.dv hz.inv.pos;refine⟨_,Z,.inl ⟨Z,_,mj.of hl⟩,_,Z,_,Z,lR,fun t ht=>?_⟩;have rt:r≠t:=mh hl ht;refine⟨r,_,_,Z,Z,(mi rt).trans hl,by rw[aa];exact bL (show as.length<=40000 by lia) L,_,Z,_,Z,_,_,Z,Z,va O (show z.natAbs<2^40 by lia) L,_,Z,_,_,Z,Z,(40000-(p+1)).toNat,O,mO (mO sm (sm.free ht)) zY,as++[t],ps++[(p,z)],left/z,p+1,some (.int z),Z,?_,?_,Pt.JD p1 inv hz z1,lp.1,O,O,O,by rw[aP,eC];lia,Z⟩
   .rw[lH,aQ];rfl
   .refine i6 (Paired.uB pr fun a x e=>?_) ?_
    .rw[mi (p7 e hl (fun z=>by cases z)),mi (mh e ht)];exact e
    .rw[mi (dR rt)];exact lH
  .refine⟨_,Z,_,_,Z,Z,(40000-(p+1)).toNat,O,sm,as,ps,left,p+1,some (.int z),Z,hl,pr,Pt.KU inv hz (xy c),l1,l2,O,O,O,Z⟩
 .have hd:=xy c;refine⟨_,Z,_,_,Z,Z,_,Z,?_⟩;refine oS (fun c=>?_) (fun c=>?_)
  .have z1:=dec c;refine⟨_,Z,.inl ⟨Z,_,mj.of hl⟩,_,Z,_,Z,lR,fun t ht=>?_⟩;have rt:r≠t:=mh hl ht;refine⟨r,_,_,Z,Z,(mi rt).trans hl,by rw[aa];exact bL (show as.length<=40000 by lia) L,_,Z,?_⟩;refine q r _ (ps++[(left,left)]) (mO (mO sm (sm.free ht)) zY) zY ⟨as++[t],?_,?_⟩ (Pt.S7 p1 inv hd z1)
   .rw[lH,aQ];rfl
   .refine i6 (Paired.uB pr fun a x e=>?_) ?_
    .rw[mi (p7 e hl (fun z=>by cases z)),mi (mh e ht)];exact e
    .rw[mi (dR rt)];exact lH
  .exact⟨_,Z,q r H' ps sm zY ⟨as,hl,pr⟩ (Pt.Q7 inv l1 (xy c))⟩
inductive YR (vs:ň)(H:Hp)(Q:VK)(_:XK):Prop
 | mk (n P0:Int)(_:vs=[.int n])(_:1<=n)(_:n<P0)(_:P0<=1000010000)(_:zbn P0)(_:∀(q:Int) H',lO H H'->zbn q->n<q->q<=P0->Q (.int q) H')
def zJ:Df P w K mg base 3 "next_prime" ["number"] YR:=by
 refine mX T.zhm zR fun f cdv A outer s H vs Q E hr nd h=>?_;obtain⟨n,P0,rfl,n1,nP,Pz,hP,q⟩:=h;refine⟨_,(lE (mE 1 nd (lY mY (pv 0) lJ)) (lE (oV aO (nQ (Kl (Of hr)) (mD (uh T) hr (mT (pv 1))) (nY (mT (nE (mJ (pv 1) (pv 1)))))) (lL (mE 1 nd (lY mY (pv 1) lJ)))) (lL (ma (pv 1))))),xi ?_⟩;intros;refine⟨_,Z,_,_,Z,Z,fun m σ H'=>lO H H'/\∃f:Int,σ=[some (.int n),some (.int f)]/\n<f/\f<=P0/\m=(P0-f).toNat,⟨_,lO.refl _,n+1,Z,O,O,Z⟩,?_⟩;rintro m σ H' ⟨sm,f,rfl,nf,fP,rfl⟩;refine⟨_,Z,f,Z,O,O,fun r H1 ps nS _ pr pt=>?_⟩;refine⟨_,Z,_,Z,lR,fun t ht=>⟨lI,fun l hl=>?_⟩⟩;have V9:=lQ (o:=.tup [zad f,zad f]) (lO.refl H1) ht;have sml:=lQ (o:=.lst [zbb t]) V9 hl;have pl:Di (upd (upd H1 t (.tup [zad f,zad f])) l (.lst [zbb t])) l [(f,f)]:=⟨[t],lH,.cons (lQ (lO.refl _) hl _ _ lH) .nil⟩;have pr':Di (upd (upd H1 t (.tup [zad f,zad f])) l (.lst [zbb t])) r ps:=by
  obtain⟨as,e1,e2⟩:=pr;exact⟨as,sml _ _ e1,pR e2 fun _ _ z=>sml _ _ z⟩
 refine Nh pr' pl ⟨_,Z,oS (fun c=>?_) (fun c=>?_)⟩
 .have ne:ps≠[(f,f)]:=fun z=>by rw[cB z] at c;cases c
  have lt:f≠P0:=fun z=>ne (by rw[z];exact Rx.Hw (z▸pt) hP);refine⟨_,fun _ _ h=>h,_,Z,_,_,Z,Z,(P0-(f+1)).toNat,O,(sm.trans nS).trans sml,f+1,Z,O,O,Z⟩
 .have e:ps=[(f,f)]:=by
   rcases Decidable.em (ps=[(f,f)]) with z | z
   .exact z
   .rw[fq z] at c;exact absurd Z c
  exact⟨_,Z,q f _ ((sm.trans nS).trans sml) (Rx.Iz pt e) nf fP⟩
inductive YX (C:Addr)(vs:ň)(H:Hp)(Q:VK)(_:XK):Prop
 | mk (s gl:Addr)(é:ĸ)(ê:ń)(w N Cc Cg:Nat)(_:vs=[.ref s,.ref gl])(_:nM H s é)(_:H gl=some (.lst (ê.map zad)))(_:∀y∈é,y.length=w)(_:ê.length=w)(_:w<=420)(_:é.length<=420)(_:480<=N)(_:N<=9000)(_:1<=Cc)(_:Cc<=Cg)(_:Cg<2^N)(_:∀y∈é,∀z∈y,z.natAbs<=Cc)(_:∀z∈ê,z.natAbs<=Cg)(_:∀k,k<=é.length->k<=w->∃B G,Nk k Cc Cg N B G)(_:∀k,k<=é.length->k<=w->(2*(k*Cc)+1)^k*((k+1)*(zcp k Cg*Cg))<zfe Pq.S)(_:∀t wt H' W s,lO H H'->H' t=some (.tup [.str "bar",.ref wt,.int s])->H' wt=some (.lst (W.map zad))->W.length=w->0<=s->Bd (N+1) W->zea é ê W s->Q (.ref t) H')(_:∀t ct H' cnts,lO H H'->H' t=some (.tup [.str "way",.ref ct])->H' ct=some (.lst (cnts.map zad))->cnts.length=é.length->Bd 40000 cnts->zes w é ê cnts->Q (.ref t) H')
def TDr (w N:Nat)(é:ĸ)(ê:ń)(p:Int)(H1:Hp)(t:Addr):Prop:=(∃wt W s,H1 t=some (.tup [.str "bar",.ref wt,.int s])/\H1 wt=some (.lst (W.map zad))/\W.length=w/\0<=s/\Bd (N+1) W/\(zey p w é.length (zbq é) (zbg ê)->zea é ê W s))\/∃ct cnts,H1 t=some (.tup [.str "way",.ref ct])/\H1 ct=some (.lst (cnts.map zad))/\cnts.length=é.length/\Bd 40000 cnts/\(zey p w é.length (zbq é) (zbg ê)->zes w é ê cnts)
inductive SN (C:Addr)(vs:ň)(H:Hp)(Q:VK)(_:XK):Prop
 | mk (s gl:Addr)(é:ĸ)(ê:ń)(p:Int)(w N Cc Cg:Nat)(_:vs=[.ref s,.ref gl,.int p])(_:nM H s é)(_:H gl=some (.lst (ê.map zad)))(_:∀y∈é,y.length=w/\Bd N y)(_:ê.length=w)(_:w<=420)(_:é.length<=420)(_:zbn p)(_:1000<=p)(_:p<2^30)(_:480<=N)(_:N<=9000)(_:1<=Cc)(_:∀j c:Nat,j<é.length->c<w->(zbq é j c).natAbs<=Cc)(_:∀c,c<w->(zbh ê c).natAbs<=Cg)(_:∀k,k<=é.length->k<=w->∃B G,Nk k Cc Cg N B G)(_:∀t H',lO H H'->TDr w N é ê p H' t->Q (.ref t) H')
def yI:Df P w K mg base 11 "sought" ["steps","goal","prime"] (SN CF):=by
 obtain⟨f,fd,F,rr⟩:=(Hs (P:=P) (w:=w) (base:=base) T).ex;refine⟨f,fd,F.imp fun vs H Q E h=>?_,rr⟩;obtain⟨s,gl,é,ê,p,w',N,Cc,Cg,e,a1,a2,a3,a4,a5,a6,a7,a8,a9,TY,Ts,TM,UQ,UH,Tj,q⟩:=h;exact⟨s,gl,é,ê,p,w',N,Cc,Cg,e,a1,a2,a3,a4,a5,a6,a7,a8,a9,TY,Ts,TM,UQ,UH,Tj,fun t wt H2 W s nZ h1 h2 l z b sh=>q t H2 nZ (.inl ⟨wt,W,s,h1,h2,l,z,b,sh⟩),fun t ct H2 cnts nZ h1 h2 l b sh=>q t H2 nZ (.inr ⟨ct,cnts,h1,h2,l,b,sh⟩)⟩
def Jp:Df P w K mg base 12 "reach" ["steps","goal"] (YX CF):=by
 refine mX T.zhl Jr fun f cdv A outer s H vs Q E hr nd h=>?_;obtain⟨s',gl,é,ê,w',N,Cc,Cg,rfl,hS,hg,lw,lg,w4,s4,N1,N2,C1,CC,CN,bs,bg,num,big,qb,qw⟩:=h;have lwB:∀y∈é,y.length=w'/\Bd N y:=fun y hy=>⟨lw y hy,fun z hz=>by have:=bs y hy z hz;lia⟩;have gB:Bd N ê:=fun z hz=>by have:=bg z hz;lia
 have bst:∀j c:Nat,j<é.length->c<w'->(zbq é j c).natAbs<=Cc:=fun j c hj hc=>by
  unfold zbq;rw[ae];have m:=zdr (è:=é) hj;exact bs _ m _ (zcy (by rw[lw _ m];exact hc))
 have bgc:∀c:Nat,c<w'->(zbh ê c).natAbs<=Cg:=fun c hc=>bg _ (zcy O);obtain⟨P0,PS,good⟩:=Mx.ME (S:=Pq.S) L (fun q hq=>(Pq.K9 hq).1) Pq.Q6 (w:=w') (n:=é.length) (á:=zbq é) (ê:=zbg ê) C1 CC bst (fun c hc=>by unfold zbg;rw[ŧ];exact bgc c hc) big;have hP:=Pq.K9 PS;have first:=Pq.K9 (p:=1000000007) L;have Mj:zbn 1000000007:=first.1;have Mu:(1000010000:Int)<2^30:=L;refine⟨_,(lE (mE 2 nd (uk (v:=.int 1000000007) lD T.zfr ⟨_,Z⟩)) (lE (mE 3 nd (mD (yI T) hr (lG (pv 0) (lG (pv 1) (lG (pv 2) mB))))) (lE (oV aO (qD (pJ (mD (Dd T) hr (lG (pv 0) (lG (pv 1) (lG (pv 3) mB)))))) (lE (mE 2 nd (mD (zJ T) hr (mT (pv 2)))) (lL (mE 3 nd (mD (yI T) hr (lG (pv 0) (lG (pv 1) (lG (pv 2) mB)))))))) (lL (ma (pv 3)))))),II ?_⟩;intros;refine⟨_,Z,_,Z,_,Z,s',gl,é,ê,1000000007,w',N,Cc,Cg,Z,hS,hg,lwB,lg,w4,s4,Mj,L,L,N1,N2,C1,bst,bgc,num,fun t0 H1 nS td=>?_⟩;refine⟨fun m σ H'=>lO H H'/\∃(p:Int)(t:Addr),σ=[some (.ref s'),some (.ref gl),some (.int p),some (.ref t)]/\zbn p/\1000000007<=p/\p<=P0/\TDr w' N é ê p H' t/\m=((P0:Int)-p).toNat,⟨_,nS,1000000007,t0,Z,Mj,eL _,O,td,Z⟩,?_⟩;rintro m σ H' ⟨sm,p,t,rfl,pp,p1,p2,td,rfl⟩;have next:∀H2:Hp,lO H' H2->¬zey p w' é.length (zbq é) (zbg ê)->p<P0:=fun H2 _ ng=>by
  have:p≠P0:=fun z=>ng (by rw[z];exact good);lia
 have Fh:∀Qq:VK,(∀H2,lO H' H2->p<P0->Qq (.bl false) H2)->(∀H2,lO H' H2->((∃wt W s,H' t=some (.tup [.str "bar",.ref wt,.int s])/\H' wt=some (.lst (W.map zad))/\W.length=w'/\0<=s/\Bd (N+1) W/\zea é ê W s)\/∃ct cnts,H' t=some (.tup [.str "way",.ref ct])/\H' ct=some (.lst (cnts.map zad))/\cnts.length=é.length/\Bd 40000 cnts/\zes w' é ê cnts)->Qq (.bl true) H2)->S5 w' é ê H' t Qq:=fun Qq F Y=>by
  rcases td with ⟨wt,W,s0,h1,h2,lW,s1,bW,sh⟩ | ⟨ct,cnts,h1,h2,lc,bc,sh⟩
  .exact .inl ⟨wt,W,s0,N+1,h1,h2,lW,s1,bW,O,fun H2 s2 y=>Y H2 s2 (.inl ⟨wt,W,s0,h1,h2,lW,s1,bW,y⟩),fun H2 s2 y=>F H2 s2 (next H2 s2 fun gd=>y (sh gd))⟩
  .exact .inr ⟨ct,cnts,h1,h2,lc,bc,fun H2 s2 y=>Y H2 s2 (.inr ⟨ct,cnts,h1,h2,lc,bc,y⟩),fun H2 s2 y=>F H2 s2 (next H2 s2 fun gd=>y (sh gd))⟩
 refine⟨_,Z,_,Z,_,Z,s',gl,t,é,ê,w',N,Z,hS.same sm,sm _ _ hg,lwB,lg,gB,w4,s4,O,Fh _ (fun H2 nZ lt=>?_) (fun H2 nZ y=>?_)⟩
 .refine⟨_,Z,rp L ⟨_,fun _ _ h=>h,?_⟩⟩;refine⟨_,Z,p,P0,Z,O,lt,O,hP.1,fun q H3 nJ hq lq ql=>?_⟩;have Fj:=(sm.trans nZ).trans nJ;refine⟨_,Z,_,Z,_,Z,s',gl,é,ê,q,w',N,Cc,Cg,Z,hS.same Fj,Fj _ _ hg,lwB,lg,w4,s4,hq,O,O,N1,N2,C1,bst,bgc,num,fun t2 H4 sm4 td4=>?_⟩;exact⟨((P0:Int)-q).toNat,O,Fj.trans sm4,q,t2,Z,hq,O,O,td4,Z⟩
 .refine⟨_,Z,oQ L ?_⟩;rcases y with ⟨wt,W,s0,h1,h2,lW,s1,bW,sh⟩ | ⟨ct,cnts,h1,h2,lc,bc,sh⟩
  .exact⟨_,Z,qb t wt H2 W s0 (sm.trans nZ) (nZ _ _ h1) (nZ _ _ h2) lW s1 bW sh⟩
  .exact⟨_,Z,qw t ct H2 cnts (sm.trans nZ) (nZ _ _ h1) (nZ _ _ h2) lc bc sh⟩
inductive P8 (vs:ň)(H:Hp)(Q:VK)(_:XK):Prop
 | mk (st n:Int)(_:vs=[.int st,.int n])(_:1<=n)(_:n<=10000)(_:zdk st n=1)(_:∀(u:Int) H',1<=u->u<=n->(st*u-1)%n=0->lO H H'->Q (.int u) H')
def za:Df P w K mg base 4 "back" ["step","n"] P8:=by
 obtain⟨f,fd,F,rr⟩:=(B3 (P:=P) (w:=w) (base:=base) T).ex;refine⟨f,fd,F.imp fun vs H Q E h=>?_,rr⟩;obtain⟨st,n,e,n1,n2,g,q⟩:=h;exact⟨st,n,14,e,n1,L,L,O,fun d d1 dn ds=>Rs.QO g d1 ds dn,fun u H' u1 u2 hu sm=>q u H' u1 u2 (bB hu) sm⟩
inductive M9 (vs:ň)(H:Hp)(Q:VK)(_:XK):Prop
 | mk (n q hole:Int)(ps:ľ)(p:Int)(_:vs=[.int n,.int q,.int hole])(_:1<=n)(_:n<=420)(_:zcs n ps)(_:(p,q)∈ps)(_:∀c H',Rs.Sh n q hole c->lO H H'->Q (.int c) H')
def C2:Df P w K mg base 5 "share" ["n","q","hole"] M9:=by
 refine mX T.zgn JT fun f cdv A outer s H vs Q E hr nd h=>?_;obtain⟨n,q,hole,ps,p,rfl,n1,n2,hp,mem,k⟩:=h;have q2:2<=q:=by obtain⟨_,_,_,_,z,_⟩:=zen hp mem;exact z
 have qn:q<=n:=by have:=Pt.EG ps hp.row _ mem;rw[hp.prd] at this;exact this
 refine⟨_,(lL (ma (lY m3 (lY mH (pv 2) (mD (za T) hr (mJ (lY mS (pv 0) (pv 1)) (pv 1)))) (pv 1)))),_,Z,_,Z,_,Z,_,_,Z,Z,m8 lC lC,_,Z,_,q,Z,lC,lC,Rs.BR hp mem,fun u H1 u1 u2 hu nS=>?_⟩;refine⟨_,_,Z,Z,ju (gR lC lC),_,Z,_,_,Z,Z,(show 0<q by omega),?_⟩;exact k _ _ (zem lC hu) nS
inductive Ly (vs:ň)(H:Hp)(Q:VK)(_:XK):Prop
 | mk (n:Nat)(_:vs=[.int n])(_:1<=n)(_:n<=420)(_:∀r H' ps,lO H H'->H r=none->H' r=some (.lst ((ps.map ű).map zad))->zcs n ps->Q (.ref r) H')
def uK:Df P w K mg base 1 "_law_primes" ["n"] Ly:=by
 refine mX T.zio zS fun f cdv A outer s H vs Q E hr nd h=>?_;obtain⟨n,rfl,n1,n2,q⟩:=h;refine⟨_,(lE (mE 1 nd (nY mB)) (lE (mE 2 nd (pv 0)) (lE (mE 3 nd lJ) (lE (oV aO (nQ uO (pv 2) lJ) (lE (nw (nQ pX (lY m3 (pv 2) (pv 3)) lJ) (lE (oO (vX cW cO cP o5 (pv 1) (mT (pv 3)))) (lL (oV aO (nQ pX (lY m3 (pv 2) (pv 3)) lJ) (lL (mE 2 nd (lY mS (pv 2) (pv 3))))))) mR) (lL (mE 3 nd (lY mY (pv 3) lJ))))) (lL (ma (pv 1))))))),R4 ?_⟩;intros;refine⟨dW _,fun r zY=>?_⟩;refine⟨_,Z,?_⟩;refine⟨fun m σ H'=>lO H H'/\∃(left p:Int)(ps:ľ),σ=[some (.int n),some (.ref r),some (.int left),some (.int p)]/\H' r=some (.lst ((ps.map ű).map zad))/\Pt.zH n ps left p/\2<=p/\p<=n+2/\1<=left/\left<=n/\(ps.length:Int)<=p/\m=(n+2-p).toNat,
  ⟨_,mO (lO.refl H) zY,n,2,[],Z,lH,Pt.start n,lC,lC,lC,lC,lB,Z⟩,?_⟩
 rintro m σ H' ⟨sm,left,p,ps,rfl,Mb,pi,p2,pn,l1,ln,pl,rfl⟩;refine⟨_,Z,_,_,Z,Z,_,Z,?_⟩;refine oS (fun c=>?_) (fun c=>?_)
 .have lg:=dec c;have ple:p<=left:=by
   rcases ū left p with z | z
   .exact absurd (cq left) (pi.Q6 left lC z)
   .exact z
  refine⟨_,fun _ _ h=>h,?_⟩;refine zo ?_;intros;refine⟨_,Z,_,Z,_,_,Z,Z,(show 0<p by omega),Z,_,Z,?_⟩;refine oS (fun d=>?_) (fun d=>?_)
  .refine zo ?_;intros;have d0:=xt d;refine⟨_,Z,.inl ⟨Z,_,mj.of Mb⟩,_,Z,r,_,_,Z,Z,Mb,by rw[aa,aa];exact oq lC,?_⟩;have Md:upd H' r (.lst ((ps.map ű).map zad++[.int p])) r=some (.lst (((ps.map ű)++[p]).map zad)):=by rw[lH,aQ];rfl
   have nZ:lO H (upd H' r (.lst ((ps.map ű).map zad++[.int p]))):=mO sm zY;generalize upd H' r (.lst ((ps.map ű).map zad++[.int p]))=H2 at Md nZ ⊢;refine⟨fun m σ H3=>H3=H2/\∃(l2 z:Int),σ=[some (.int n),some (.ref r),some (.int l2),some (.int p)]/\Pt.Bh left p z/\l2*z=left/\1<=l2/\l2<=left/\m=l2.toNat,
    ⟨_,Z,left,1,Z,Pt.q0 left p,lC,l1,lC,Z⟩,?_⟩
   rintro m' σ H3 ⟨rfl,l2,z,rfl,qi,e,l21,l2l,rfl⟩;refine⟨_,Z,_,Z,_,_,Z,Z,(show 0<p by omega),Z,_,Z,?_⟩;refine oS (fun d2=>?_) (fun d2=>?_)
   .have d2':=xt d2;obtain⟨t,ht⟩:=ò d2';have et:l2/p=t:=by rw[ht];exact aC _ lC
    have t1:1<=t:=by
     rcases ū t 1 with y | y
     .have:=aB (show t<=0 by omega) (show 0<=p by omega);omega
     .exact y
    have tl:t<l2:=by have:=ar p2 (show 0<=t by omega);omega
    have dz:left%(z*p)=0:=bB ⟨t,by rw[<-e,ht,ay (p*t) z,aE]⟩;refine⟨_,fun _ _ h=>h,_,Z,_,Z,_,_,Z,Z,m8 lC lC,?_⟩;dsimp only;rw[et];exact⟨t.toNat,lC,Z,t,z*p,Z,Pt.q1 p2 qi dz,by rw[<-e,ht,ay z p,<-aE,ay t p],t1,lC,Z⟩
   .have nd2:=yL d2;have zp:=qi.pos;have qe:Pt.EJ left p z:=Pt.q2 qi fun y=>nd2 (by
     obtain⟨t,ht⟩:=ò y;rw[<-e,ay l2 z,aE] at ht;have:=aL (show z≠0 by omega) ht;rw[this];exact fR _ _)
    have z1:z > 1:=by
     rcases ū 1 z with y | y
     .exact y
     .have:z=1:=lC;rw[this,bX] at e;exact absurd d0 (by rw[<-e];exact nd2)
    have lz:left/z=l2:=by rw[<-e];exact gA _ lC
    have pi2:=Pt.JD p2 pi qe z1;rw[lz] at pi2;refine⟨_,Z,_,_,Z,Z,(n+2-(p+1)).toNat,lC,nZ,l2,p+1,ps++[(p,z)],Z,?_,pi2,lC,lC,l21,lC,by simp;omega,Z⟩;rw[aQ];exact Md
  .have Xf:=yL d;have qe:Pt.EJ left p 1:=Pt.q2 (Pt.q0 left p) (by rw[cY];exact Xf);refine⟨_,Z,_,_,Z,Z,(n+2-(p+1)).toNat,lC,sm,left,p+1,ps,Z,Mb,Pt.KU pi qe lC,lC,lC,l1,ln,lC,Z⟩
 .have:=xy c;exact⟨_,Z,q r H' ps sm zY Mb (Pt.Q7 pi l1 lC)⟩
inductive T2 (vs:ň)(H:Hp)(Q:VK)(_:XK):Prop
 | mk (r:Addr)(a:ń)(n:Nat)(p hole ë:Int)(_:vs=[.ref r,.int p,.int hole,.int ë])(_:H r=some (.lst (a.map zad)))(_:a.length=n)(_:1<=n)(_:n<=420)(_:2<=p)(_:p∣(n:Int))(_:∀H' b,(∀c o,c≠r->H c=some o->H' c=some o)->H' r=some (.lst (b.map zad))->b.length=n->(∀x,zaw b x=zaw a x+zcr n (p,hole,ë) x)->Q .non H')
inductive Za (vs:ň)(H:Hp)(Q:VK)(_:XK):Prop
 | mk (n:Nat)(p hole:Int)(st:Nat)(_:vs=[.int n,.int p,.int hole])(_:1<=n)(_:n<=420)(_:2<=p)(_:p.toNat<=n)(_:(n:Int)/p=st)(_:0<st)(_:n=p.toNat*st)(_:∀t,H t=none->Q (.ref t) (upd H t (.lst ((Dx (hole%st) st p.toNat).map zad))))
def zU:Df P w K mg base 1 "ring_holes" ["n","p","hole"] Za:=by
 refine mX T.zgm zM fun f cdv A outer s H vs Q E hr nd h=>?_;obtain⟨n,p,hole,st,rfl,n1,n2,p2,pn,AX,GZ,Ml,q⟩:=h;have stn:(st:Int)<=n:=by rw[<-AX];exact cx _ O
 have lo0:=aH hole (show (st:Int)≠0 by lia);have lo1:=aF hole (show (0:Int)<st by lia);refine⟨_,(lE (mE 3 nd (lY mS (pv 0) (pv 1))) (lL (ma (KC Z lD T.zjm lD T.zjo (lG (lY m3 (pv 2) (pv 3)) (lG (pv 0) (lG (pv 3) mB))))))),zo ?_⟩;intros;refine⟨_,Z,_,Z,_,_,Z,Z,m8 O O,?_⟩;dsimp only;rw[AX];refine⟨_,Z,_,Z,_,_,Z,Z,(show (0:Int)<st by lia),_,Z,_,Z,_,_,_,Z,⟨lo0,O,O,O,O,O⟩,?_⟩;have cn:=Rg.K4 GZ (show 0<p.toNat by lia) Ml hole;have c3:ya (hole%(st:Int)) (n:Int) (st:Int)=p.toNat:=by unfold ya;rw[if_pos cn.1];exact cn.2
 rw[c3];exact q
def DF:Df P w K mg base 2 "lay_ring" ["load","p","hole","many"] T2:=by
 refine mX T.zgl C3 fun f cdv A outer s H vs Q E hr nd h=>?_;obtain⟨r,a,n,p,hole,ë,rfl,ha,la,n1,n2,p2,pd,q⟩:=h;obtain⟨st,AX,GZ,Ml,ple⟩:=Rg.Bw n1 p2 pd;have stn:(st:Int)<=n:=by rw[<-AX];exact cx _ O
 refine⟨_,(lL (nh aO Z (mQ (mD (zU T) hr (lG (pM T.zji (pv 0)) (lG (pv 1) (lG (pv 2) mB))))) (nW 4 nd) (lL (rz (lY mY (mF mU (pv 0) (pv 4)) (pv 3)) (qZ (pv 0) (pv 4) set_list))))),_,Z,r,_,Z,.inl (mj.of ha),_,Z,_,Z,n,p,hole,st,by rw[v6 la];rfl,n1,n2,p2,ple,AX,GZ,Ml,fun t ht=>⟨t,Z,⟨_,mj.of lH⟩,?_⟩⟩;have nt:r≠t:=mh ha ht;have kp0:∀c o,c≠r->H c=some o->upd H t (.lst ((Dx (hole%st) st p.toNat).map zad)) c=some o:=fun c o _ h=>(mi (mh h ht)).trans h;have ha0:upd H t (.lst ((Dx (hole%st) st p.toNat).map zad)) r=some (.lst (a.map zad)):=(mi nt).trans ha;have Oq:upd H t (.lst ((Dx (hole%st) st p.toNat).map zad)) t=some (.lst ((Dx (hole%st) st p.toNat).map zad)):=lH;generalize upd H t (.lst ((Dx (hole%st) st p.toNat).map zad))=H0 at kp0 ha0 Oq ⊢;have rl:((Dx (hole%st) st p.toNat).map zad).length=p.toNat:=by unfold Dx;rw[š,š,û]
 refine om (xs:=(Dx (hole%st) st p.toNat).map zad) (fun i σ H2=>(∀c o,c≠r->H c=some o->H2 c=some o)/\H2 t=some (.lst ((Dx (hole%st) st p.toNat).map zad))/\∃(b:ń)(o1:œ),σ=[some (.ref r),some (.int p),some (.int hole),some (.int ë),o1]/\H2 r=some (.lst (b.map zad))/\b.length=n /\
   ∀x:Int,zaw b x=zaw a x+(if (x-hole)%st=0/\(x%n)/st<(i:Int) then ë else 0))
  ⟨kp0,Oq,a,none,Z,ha0,la,Rg.lay0 O GZ hole ë a⟩ (fun i σ H2 _ z=>mj.of z.2.1) ?_ ?_
 .rintro i xv σ H2 hx ⟨kp,ht2,b,o1,rfl,hb,lb,inv⟩;refine R5 ?_;intros;obtain⟨k,rfl,ek⟩:=int_at hx;have hi:i<p.toNat:=by have:=(aJ.mp hx).1;rwa [rl] at this
  have ek':k=hole%st+(i:Int)*st:=by
   unfold Dx at ek;rw[af,dj hi] at ek;exact(bO ek).symm
  subst ek';obtain⟨y0,y1,nx⟩:=Rg.XI GZ Ml hi lb inv;refine⟨_,Z,_,Z,r,_,_,_,Z,Z,mj.of hb,AC y0 O,_,Z,_,_,Z,Z,_,Z,_,Z,r,_,_,_,Z,Z,hb,t8 y0 (by rw[v6 lb];exact y1),?_⟩;rw[set_int];exact⟨fun c o ne h=>(mi ne).trans (kp c o ne h),(mi (dR nt)).trans ht2,_,_,Z,lH,by rw[cI,lb],nx⟩
 .rintro σ H2 ⟨kp,_,b,o1,rfl,hb,lb,inv⟩;rw[rl] at inv;refine q H2 b kp hb lb fun x=>?_;rw[Rg.XE GZ (show 0<p.toNat by lia) Ml inv x];unfold zcr;rw[AX]
inductive ZA (vs:ň)(H:Hp)(Q:VK)(_:XK):Prop
 | mk (p q:Int)(_:vs=[.int p,.int q])(_:2<=p)(_:p<=10000)(_:Q (.int (q-q/p)) H)
def rZ:Df P w K mg base 1 "first_dropped" ["p","q"] ZA:=by
 refine mX T.zgp wG fun f cdv A outer s H vs Q E hr nd h=>?_;obtain⟨p,q,rfl,p2,pz,k⟩:=h;refine⟨_,(lL (ma (lY oU (pv 1) (lY mS (pv 1) (pv 0))))),_,Z,_,Z,_,Z,_,_,Z,Z,m8 O O,_,_,Z,Z,k⟩
def FR {n:Nat}{ps:ľ}{p q:Int}(hp:zcs n ps)(mem:(p,q)∈ps):2<=p/\p<=q/\q<=n:=by
 have a:=Pt.vg (hp.row _ mem);have b:=Pt.EG ps hp.row _ mem;rw[hp.prd] at b;exact⟨a.1,a.2,b⟩
inductive IA (vs:ň)(H:Hp)(Q:VK)(_:XK):Prop
 | mk (n:Nat)(p q:Int)(ps:ľ)(_:vs=[.int n,.int p,.int q])(_:1<=n)(_:n<=420)(_:zcs n ps)(_:(p,q)∈ps)(_:∀u r H',((n:Int)/q*u-1)%q=0->lO H H'->H r=none->H' r=some (.lst ((zet p q u n).map zad))->Q (.ref r) H')
def D0:Df P w K mg base 5 "dropped" ["n","p","q"] IA:=by
 refine mX T.zgs Eu fun f cdv A outer s H vs Q E hr nd h=>?_;obtain⟨n,p,q,ps,rfl,n1,n2,hp,mem,k⟩:=h;have pq:=FR hp mem;refine⟨_,(lE (mE 3 nd (mD (za T) hr (mJ (lY mS (pv 0) (pv 2)) (pv 2)))) (lL (ma (oX [("q",2),("p",1),("lead",3)] ["hole"] (nK lD T.zjo (mT (pv 0))) (fun C s H fp=>⟨(qo 3),(xR (nQ OK (lY m3 (lY mH (pv 3) (pv 2)) (pv 0)) (mD (rZ T) hr (mJ (pv 1) (pv 0))))),(pv 3)⟩))))),zo ?_⟩;intros;refine⟨_,Z,_,Z,_,_,Z,Z,m8 O O,_,Z,_,q,Z,O,O,Rs.BR hp mem,fun u HB u1 u2 hu Mi=>?_⟩;have pc:=Rt.Pc.mk' n1 hp mem hu;refine⟨_,Z,_,Z,O,O,?_⟩;rw[ae];refine rH (fun i ys H2=>H2=HB/\ys=(zet p q u i).map zad) ⟨Z,Z⟩ (fun i ys H2 hi z=>by rw[z.2,aa];have:=Rt.BS (p:=p) (q:=q) (u:=u) i;exact oq O) ?_ ?_
 .rintro i ys H2 hi ⟨rfl,rfl⟩;refine⟨_,Z,_,Z,_,_,Z,Z,n5 O O,_,Z,_,_,Z,Z,(show 0<q by lia),_,Z,_,Z,p,q,Z,pq.1,O,_,_,Z,Z,_,Z,?_⟩;refine oS (fun c=>?_) (fun c=>?_)
  .have t:=(pc.Bv i).mp (dec c);refine⟨_,Z,Z,?_⟩;simp only[zet];rw[aA t,aQ];rfl
  .have t:¬Rt.top p q u i=p-1:=fun z=>xy c ((pc.Bv i).mpr z);refine⟨Z,?_⟩;simp only[zet];rw[ah t,gH]
 .rintro ys H2 ⟨rfl,rfl⟩ D hD;exact k u D _ hu (lQ Mi hD) (Mi.free hD) lH
inductive Qh (K:zfq)(vs:ň)(H:Hp)(Q:VK)(_:XK):Prop
 | mk (r:Addr)(a:ń)(n:Nat)(_:vs=[.ref r])(_:mj K H r (a.map zad))(_:a.length=n)(_:1<=n)(_:n<=420)(_:∀t le ro H' b ps l è,lO H H'->H t=none->H le=none->H ro=none->H' t=some (.tup [.ref le,.ref ro])->H' le=some (.lst (b.map zad))->b.length=n->zeu n ps l->(∀x,zaw b x=zep n l (zaw a) x)->Ha H' ro è->(Rt.rR n (fun p _=>p∈ps.map ű) a b è/\è.length<=4000)->Q (.ref t) H')
def FH:Df P w K mg base 6 "rest" ["load"] (Qh K):=by
 refine mX T.zgr N5 fun f cdv A outer s H vs Q E hr nd h=>?_;obtain⟨r,a,n,rfl,ha,la,n1,n2,q⟩:=h;refine⟨_,(lE (mE 1 nd (pM T.zji (pv 0))) (lE (mE 2 nd (pC oE lD T.zjm zee (mT (pv 0)))) (lE (mE 3 nd (nY mB)) (lE (nh aO Z (mQ (mD (uh T) hr (mT (pv 1)))) (oY Z (mI (nW 4 nd) (mI (nW 5 nd) oe))) (lL (nh aO Z (mQ (mD (D0 T) hr (lG (pv 1) (lG (pv 4) (lG (pv 5) mB))))) (nW 6 nd) (lE (mE 7 nd (mF mU (pv 2) (pv 6))) (lL (nw (nQ qK (pv 7) lJ) (lE (oO (mD (DF T) hr (lG (pv 2) (lG (pv 4) (lG (pv 6) (lG (tD qO (pv 7)) mB)))))) (lL (oO (vX cW cO cP o5 (pv 3) (mT (nE (lG (pv 4) (lG (pv 6) (lG (pv 7) mB))))))))) mR)))))) (lL (ma (nE (mJ (pv 2) (pv 3))))))))),R4 ?_⟩;intros;refine⟨_,Z,r,_,Z,.inl ha,?_⟩;rw[v6 la];refine⟨_,Z,r,_,Z,.inl ha,fun le hle=>?_⟩;refine⟨dW _,fun ro IQ=>?_⟩;have Xj:le≠ro:=mh lH IQ;have ro0:H ro=none:=by rwa [mi (dR Xj)] at IQ
 have rE:lO H (upd (upd H le (.lst (a.map zad))) ro (.lst [])):=lQ (lQ (lO.refl _) hle) IQ;have Xk:upd (upd H le (.lst (a.map zad))) ro (.lst []) le=some (.lst (a.map zad)):=(mi Xj).trans lH;have zY:upd (upd H le (.lst (a.map zad))) ro (.lst []) ro=some (.lst []):=lH;generalize upd (upd H le (.lst (a.map zad))) ro (.lst [])=H0 at rE Xk zY ⊢;refine⟨_,Z,n,Z,O,O,fun r1 H1 ps nS f1 pa hp=>?_⟩;obtain⟨as,hl,pr⟩:=pa;have al:=fK pr;have DU:=Rt.ux hp n2;have n1l:r1≠le:=dR (mh Xk f1);have n1r:r1≠ro:=dR (mh zY f1);have kH:∀{H':Hp},(∀c o,c≠le->c≠ro->H1 c=some o->H' c=some o)->lO H H':=fun kp c o h=>kp c o (fun z=>by rw[z,hle] at h;cases h) (fun z=>by rw[z,ro0] at h;cases h) (nS _ _ (rE _ _ h));have tl:∀{x:Addr}{o:ň},H1 x=some (.tup o)->x≠le/\x≠ro:=fun e=>⟨p7 e (nS _ _ Xk) (fun z=>by cases z),p7 e (nS _ _ zY) (fun z=>by cases z)⟩;refine⟨r1,Z,⟨_,mj.of hl⟩,?_⟩;refine om (xs:=as.map zbb) (fun i σ H4=>(∀c o,c≠le->c≠ro->H1 c=some o->H4 c=some o)/\∃(b:ń)(l:ĺ)(è:ļ)(o1 o2 o3 o4:œ),σ=[some (.ref r),some (.int n),some (.ref le),some (.ref ro),o1,o2,o3,o4] /\
   H4 le=some (.lst (b.map zad))/\b.length=n/\l.map ű=ps.take i/\(∀z∈l,((n:Int)/z.1.2*z.2-1)%z.1.2=0)/\(∀x,zaw b x=zep n l (zaw a) x)/\Ha H4 ro è/\Rt.rR n (fun p _=>p∈(ps.take i).map ű) a b è/\è.length<=i*n)
  ⟨fun c o _ _ h=>h,a,[],[],none,none,none,none,Z,nS _ _ Xk,la,lB,lB,fun x=>Z,⟨[],nS _ _ zY,.nil⟩,Rt.rows0 a,lB⟩ (fun i σ H4 _ z=>mj.of (z.1 _ _ n1l n1r hl)) ?_ ?_
 .rintro i x σ H4 hx ⟨kp,b,l,è,o1,o2,o3,o4,rfl,hb,lb,lm,Xl,bv,tr,rok,rl⟩;obtain⟨ad,rfl,ea⟩:=rh hx;obtain⟨⟨p,z⟩,ep,Ov⟩:=m9 pr ea;have mem:(p,z)∈ps:=ao ep;have ilt:=(aJ.mp ep).1;have pq:=FR hp mem;have pd:p∣(n:Int):=((zeb hp (p,z)).mp mem).2.1;have nt:=tl Ov;have lpc:∀y∈l,Rt.Pc n y.1.1 y.1.2 y.2:=fun y hy=>Rt.Pc.mk' n1 hp (g8 (by rw[<-lm];exact dU.mpr ⟨y,hy,Z⟩)) (Xl y hy);refine⟨ad,_,Z,mW.of (kp _ _ nt.1 nt.2 Ov),Z,_,_,Z,_,_,Z,Z,?_⟩;refine R5 ?_;intros;refine⟨_,Z,_,Z,_,Z,n,p,z,ps,Z,n1,n2,hp,mem,fun u r5 H5 hu pH f5 h5=>⟨r5,Z,⟨_,mj.of h5⟩,?_⟩⟩;have pc:=Rt.Pc.mk' n1 hp mem hu;have per:zbl n (zaw b):=zcv lb;have n5l:r5≠le:=dR (mh hb f5);have n5r:r5≠ro:=by obtain⟨x,y,_⟩:=tr;exact Ne.symm (mh y f5)
  have zlx:=Rt.BS (p:=p) (q:=z) (u:=u) n;have newp:∀x:Int,x∈(ps.take i).map ű->¬x=p:=fun x hx e=>by
   obtain⟨y,hy,ey⟩:=ţ.mp hx;obtain⟨j,hj,ej⟩:=ø.mp hy;rw[cT] at hj;rw[iZ] at ej;have pw:=dO.mp hp.srt j i O ilt O;rw[ej,(aJ.mp ep).2] at pw;have:y.1<p:=pw;lia
  refine om (xs:=(zet p z u n).map zad) (fun j σ H6=>(∀c o,c≠le->c≠ro->H5 c=some o->H6 c=some o)/\∃(b6:ń)(xl:ļ)(o3 o4:œ),σ=[some (.ref r),some (.int n),some (.ref le),some (.ref ro),some (.int p),some (.int z),o3,o4] /\
    H6 le=some (.lst (b6.map zad))/\Rt.PI n p z u (zaw b) j b6/\Ha H6 ro xl/\Rt.rR n (fun x y=>x∈(ps.take i).map ű\/(x=p/\y∈(zet p z u n).take j)) a b6 xl/\xl.length<=i*n+j)
   ⟨fun c o _ _ h=>h,b,è,_,_,Z,pH _ _ hb,Rt.pi0 lb (fun _=>Z),tr.same pH,rok.weak (fun x y h=>.inl h),O⟩ (fun j σ H6 _ y=>mj.of (y.1 _ _ n5l n5r h5)) ?_ ?_
  .rintro j xv σ H6 hxj ⟨kp6,b6,xl,o3,o4,rfl,OD,pi,Xm,OE,rl6⟩;refine zo ?_;intros;obtain⟨k,rfl,ek⟩:=int_at hxj;have km:=ao ek;obtain⟨k0,k1,kt⟩:=Rt.sE.mp km;have jlt:=(aJ.mp ek).1;have kv:=pc.P3 pi ek;refine⟨_,Z,_,Z,le,_,_,_,Z,Z,mj.of OD,AC k0 (by rw[pi.len];exact k1),?_⟩;rw[kv];refine⟨_,Z,Z,_,Z,?_⟩;have wk:∀x y:Int,(x∈(ps.take i).map ű\/(x=p/\y∈(zet p z u n).take j))->(x∈(ps.take i).map ű\/(x=p/\y∈(zet p z u n).take (j+1))):=fun x y h=>h.imp id fun h=>⟨h.1,(Rt.t7 ek).mpr (.inl h.2)⟩;refine oS (fun c=>?_) (fun c=>?_)
   .have mz:¬zaw b k=0:=OV c;obtain⟨rs,hrs,prs⟩:=id Xm;have rsl:=fK prs;refine⟨_,Z,_,Z,_,Z,_,Z,_,Z,le,b6,n,p,k,_,Z,OD,pi.len,n1,n2,pq.1,pd,fun H7 b7 kp7 Fk lb7 Wa=>?_⟩;have Xo:H7 ro=some (.lst (rs.map zbb)):=kp7 _ _ (dR Xj) hrs;refine⟨_,Z,.inl ⟨Z,_,mj.of Xo⟩,_,Z,_,Z,_,Z,me,fun t ht=>?_⟩;have hr8:upd H7 t (.tup [zad p,zad k,zad (zaw b k)]) ro=some (.lst (rs.map zbb)):=(mi (mh Xo ht)).trans Xo;have rot:ro≠t:=mh Xo ht;refine⟨ro,_,_,Z,Z,hr8,by rw[aa,rsl];have:=cU (show i<=8 by lia) n2;exact oq O,?_⟩;have kp8:∀{c:Addr}{o:HO},c≠le->c≠ro->H6 c=some o->upd (upd H7 t (.tup [zad p,zad k,zad (zaw b k)])) ro (.lst (rs.map zbb++[.ref t])) c=some o:=fun x y e=>by
     have e7:=kp7 _ _ x e;exact((mi y).trans (mi (mh e7 ht))).trans e7
    refine⟨fun c o x y h=>kp8 x y (kp6 c o x y h),b7,xl++[(p,k,zaw b k)],_,_,Z,((mi Xj).trans (mi (mh Fk ht))).trans Fk,pc.pi1 per pi ek lb7 Wa,⟨rs++[t],by rw[lH,aQ];rfl,?_⟩,?_,by simp;lia⟩
    .refine i6 (Paired.uB prs fun d x e=>?_) ((mi (dR rot)).trans lH);exact kp8 (p7 e OD (fun z=>by cases z)) (p7 e hrs (fun z=>by cases z)) e
    .exact OE.snoc wk (.inr ⟨Z,(Rt.t7 ek).mpr (.inr Z)⟩) (fun x y h e=>h.elim (fun h=>newp x h e.1) fun h=>Rt.yH (Rt.xY n) ek (e.2▸h.2)) k0 k1 mz Wa
   .have mz:zaw b k=0:=Hu c;exact⟨kp6,b6,xl,_,_,Z,OD,pc.zao per pi ek mz,Xm,OE.weak wk,O⟩
  .rintro σ H6 ⟨kp6,b6,xl,o3,o4,rfl,OD,pi,Xm,OE,rl6⟩;rw[aa] at pi rl6;refine⟨fun c o x y h=>kp6 c o x y (pH _ _ (kp c o x y h)),b6,l++[((p,z),u)],xl,_,_,_,_,Z,OD,pi.len,by rw[aQ,lm,zcg ep];rfl,fun y hy=>?_,fun x=>?_,Xm,OE.weak (fun x y h=>?_),?_⟩
   .rcases ŵ.mp hy with w | w
    .exact Xl y w
    .rw[cm.mp w];exact hu
   .rw[pc.PK pi,Rt.Ek];have:zaw b=zep n l (zaw a):=funext bv;rw[this]
   .rw[zcg ep,aQ];rcases h with w | w
    .exact cX _ w
    .exact bP _ (by rw[w.1];simp)
   .rw[fv];lia
 .rintro σ H4 ⟨kp,b,l,è,o1,o2,o3,o4,rfl,hb,lb,lm,Xl,bv,tr,rok,rl⟩;rw[aa,al,b5] at lm rok;have rl4:è.length<=4000:=by rw[aa,al] at rl;have:=cU DU n2;lia
  refine⟨_,Z,_,Z,lR,fun t ht=>?_⟩;have V9:lO H4 (upd H4 t (.tup [zbb le,zbb ro])):=lQ (lO.refl _) ht;have Mt:=kH kp;exact q t le ro _ b ps l è (Mt.trans V9) (Mt.free ht) hle ro0 lH (V9 _ _ hb) lb ⟨n1,hp,lm,Xl⟩ bv (tr.same V9) ⟨rok,rl4⟩
inductive SS (vs:ň)(H:Hp)(Q:VK)(_:XK):Prop
 | mk (n:Nat)(hole:Int)(ps:ľ)(l:ĺ)(_:vs=[.int n,.int hole])(_:1<=n)(_:n<=420)(_:zeu n ps l)(_:∀H',lO H H'->Q (.bl (decide (zfc l hole))) H')
def zg:Df P w K mg base 6 "is_kept" ["n","hole"] SS:=by
 refine mX T.zgo EE fun f cdv A outer s H vs Q E hr nd h=>?_;obtain⟨n,hole,ps,l,rfl,n1,n2,sS,q⟩:=h;refine⟨_,(lL (ma (mZ (Am Z) lD T.zjt L2.K3 (mT (oX [("n",0),("hole",1)] ["p","q"] (mQ (mD (uh T) hr (mT (pv 0)))) (fun C s H fp=>⟨(tQ 2 3),mL,(oP FU (mD (C2 T) hr (lG (pv 0) (lG (pv 3) (lG (pv 1) mB)))) (mD (rZ T) hr (mJ (pv 2) (pv 3))) (pQ _))⟩)))))),_,Z,_,Z,O,O,fun r1 H1 Ce nS f1 pa IU=>?_⟩;have RW:=Pt.se IU sS.hp;subst RW;obtain⟨as,hl,pr⟩:=pa;have al:=fK pr;have lp:(Ce.length:Int)<=n:=Rs.Ic IU;have ll:l.length=Ce.length:=by have:=cA ķ sS.map;rwa [aa] at this
 refine⟨r1,Z,⟨_,mj.of hl⟩,?_⟩;refine qB (K:=K) (xs:=as.map zbb) (fun i ys H2=>lO H1 H2/\ys=((l.take i).map fun z=>decide ¬Rt.top z.1.1 z.1.2 z.2 hole=z.1.1-1).map V.bl) ⟨lO.refl _,lB⟩ (fun i ys H2 _ z=>z.1.seq (mj.of hl))
  (fun i ys H2 hi z=>by rw[aa] at hi;rw[z.2];simp only[š,ŷ];exact oq O) ?_ ?_
 .rintro i x ys H2 hx ⟨nZ,rfl⟩;obtain⟨ad,rfl,ea⟩:=rh hx;obtain⟨⟨p,z⟩,ep,ha⟩:=m9 pr ea;have mem:(p,z)∈Ce:=ao ep;have pq:=FR IU mem;have hi:i<l.length:=by rw[ll];exact(aJ.mp ep).1
  have el:l[i]?=some l[i]:=az hi;have e1:l[i].1=(p,z):=by
   have:(l.map ű)[i]?=some l[i].1:=by rw[af,el];rfl
   rw[sS.map,ep] at this;exact(bO this).symm
  have RX:=sS.pc (cJ hi);have SB:=sS.le _ (cJ hi);generalize l[i]=zz at *;obtain⟨z1,u⟩:=zz;dsimp only at e1;subst e1;dsimp only at RX SB;refine⟨ad,_,Z,mW.of (nZ _ _ ha),Z,_,_,Z,_,_,Z,Z,_,Z,_,Z,_,Z,n,z,hole,Ce,p,Z,O,O,IU,mem,fun c H3 sh nJ=>?_⟩;refine⟨_,Z,_,Z,p,z,Z,pq.1,O,?_⟩;have ec:c=hole*u%z:=Rs.yc (Rs.vq IU mem) sh (zem (by show 0<z;lia) SB) zol;have Op:=RX.Bv hole;refine⟨_,_,Z,Z,nZ.trans nJ,?_⟩;rw[zcg el,aQ,aQ,ie,ie];congr 2;show V.bl (decide (c<z-z/p))=V.bl (decide ¬Rt.top p z u hole=p-1)
  congr 1;rw[fT,gL,gL,<-Op,ec];lia
 .rintro ys H2 ⟨nZ,rfl⟩ D hD;rw[aa,al,<-ll,b5];refine⟨D,_,Z,mj.of lH,?_⟩;have e:((l.map fun z=>decide ¬Rt.top z.1.1 z.1.2 z.2 hole=z.1.1-1).all id)=decide (zfc l hole):=by
   rw[fT,fi,gL];unfold zfc;constructor
   .intro a z hz;exact fY (a _ (dU.mpr ⟨z,hz,rfl⟩))
   .intro a b hb;obtain⟨z,hz,ez⟩:=ţ.mp hb;rw[<-ez];exact cB (a z hz)
  rw[e];exact q _ (lQ (nS.trans nZ) hD)
inductive NR (vs:ň)(H:Hp)(Q:VK)(_:XK):Prop
 | mk (p c:Int)(q:Nat)(_:vs=[.int p,.int q,.int c])(_:2<=p)(_:p<=q)(_:q<=420)(_:1<=(q:Int)/p)(_:0<=c)(_:c<q)(_:∀t H' F,lO H H'->H' t=some (.lst (F.map zad))->F.length=q->(∀i:Int,0<=i->i<q->zaw F i=if i=(q:Int)-q/p+c%(q/p) then -1 else if i=c then 1 else 0)->Q (.ref t) H')
def wB:Df P w K mg base 1 "part_weighing" ["p","q","kept_share"] NR:=by
 refine mX T.zgv wc fun f cdv A outer s H vs Q E hr nd h=>?_;obtain⟨p,c,n,rfl,p2,pn,n2,m1,c0,c1,q⟩:=h;have mq:(n:Int)/p<=n:=cx _ O;have l0:=aH c (show (n:Int)/p≠0 by lia);have l1:=aF c (show 0<(n:Int)/p by lia);refine⟨_,(lE (mE 3 nd (lY mS (pv 1) (pv 0))) (lE (mE 4 nd (lY re (nY (mT lJ)) (pv 1))) (lE (rz lJ (qZ (pv 4) (pv 2) set_list)) (lE (rz (tD qO lJ) (qZ (pv 4) (lY mY (lY oU (pv 1) (pv 3)) (lY m3 (pv 2) (pv 3))) set_list)) (lL (ma (pv 4))))))),R4 ?_⟩;intros;refine⟨_,Z,_,Z,_,_,Z,Z,m8 O O,lI,fun l hl=>⟨_,Z,l,_,_,Z,Z,lH,lC,lC,(by show 1*_<=_;exact pO lC),fun du G3=>?_⟩⟩;rw[rep0];have OF:l≠du:=mh lH G3;have DS:H du=none:=by rwa [mi (dR OF)] at G3
 have rE:lO H (upd (upd H l (.lst [zad 0])) du (.lst ((ş n (0:Int)).map zad))):=mO (mO (lO.refl H) hl) DS;have G4:upd (upd H l (.lst [zad 0])) du (.lst ((ş n (0:Int)).map zad)) du=some (.lst ((ş n (0:Int)).map zad)):=lH;generalize upd (upd H l (.lst [zad 0])) du (.lst ((ş n (0:Int)).map zad))=H0 at rE G4 ⊢;refine⟨_,Z,_,Z,du,_,_,_,Z,Z,G4,t8 c0 (by rw[v6 (bq)];exact c1),?_⟩;rw[set_int];have nS:lO H (upd H0 du (.lst (((ş n (0:Int)).set c.toNat 1).map zad))):=mO rE DS;have RY:upd H0 du (.lst (((ş n (0:Int)).set c.toNat 1).map zad)) du=some (.lst (((ş n (0:Int)).set c.toNat 1).map zad)):=lH;generalize upd H0 du (.lst (((ş n (0:Int)).set c.toNat 1).map zad))=H1 at nS RY ⊢;have le1:((ş n (0:Int)).set c.toNat 1).length=n:=by rw[cI,bq]
 refine⟨_,Z,_,Z,_,Z,_,Z,_,_,Z,Z,_,Z,_,Z,_,_,Z,Z,(show 0<(n:Int)/p by lia),_,_,Z,Z,du,_,_,_,Z,Z,RY,t8 O (by rw[v6 le1];lia),?_⟩;rw[set_int];refine⟨_,Z,q du _ _ (mO nS DS) lH (by rw[cI,le1]) fun i i0 i1=>?_⟩;have e1:((n:Int)-n/p+c%(n/p)).toNat=(((n:Int)-n/p+c%(n/p))%n).toNat:=by rw[aT (a:=(n:Int)-n/p+c%(n/p)) (b:=(n:Int)) O O]
 have e2:c.toNat=(c%n).toNat:=by rw[aT c0 c1]
 rw[e1,Ld.wx le1 O,e2,Ld.wx (bq) O,Ld.Ey,aT i0 i1,aT c0 c1,aT (show 0<=(n:Int)-n/p+c%(n/p) by lia) O]
inductive DY (vs:ň)(H:Hp)(Q:VK)(_:XK):Prop
 | mk (n:Nat)(hole:Int)(ps:ľ)(l:ĺ)(_:vs=[.int n,.int hole])(_:1<=n)(_:n<=420)(_:zeu n ps l)(_:zfc l hole)(_:∀t H' W,lO H H'->H t=none->H' t=some (.lst (W.map zad))->W.length=n->(∀k:Nat,k<n->zaw W k=Rt.V l hole k)->Q (.ref t) H')
def Dr:Df P w K mg base 7 "weighing" ["n","hole"] DY:=by
 refine mX T.zgu C4 fun f cdv A outer s H vs Q E hr nd h=>?_;obtain⟨n,hole,ps,l,rfl,n1,n2,sS,kpt,q⟩:=h;refine⟨_,(lE (nw (qD (pJ (mD (zg T) hr (mJ (pv 0) (pv 1))))) (lL rj) mR) (lE (mE 2 nd (lY re (nY (mT lJ)) (pv 0))) (lE (nh aO Z (mQ (mD (uh T) hr (mT (pv 0)))) (oY Z (mI (nW 3 nd) (mI (nW 4 nd) oe))) (lE (mE 5 nd (mD (wB T) hr (lG (pv 3) (lG (pv 4) (lG (mD (C2 T) hr (lG (pv 0) (lG (pv 4) (lG (pv 1) mB)))) mB))))) (lE (mE 6 nd (mD (za T) hr (mJ (lY mS (pv 0) (pv 4)) (pv 4)))) (lL (xm 2 [("factors",5),("q",4),("lead",6)] ["k","number"] nd (qE lD T.zju (mT (pv 2))) (fun C s H fp=>⟨(tQ 3 4),mL,(lY mH (pv 4) (mF (qI (K:=K) Z) (pv 0) (lY m3 (lY mH (pv 3) (pv 2)) (pv 1))))⟩)))))) (lL (ma (pv 2)))))),II ?_⟩;intros;refine⟨_,Z,_,Z,n,hole,ps,l,Z,n1,n2,sS,fun HK smK=>?_⟩;rw[cB kpt];refine⟨true,Z,G6 ?_⟩;refine⟨lI,fun lo zX=>⟨_,Z,lo,_,_,Z,Z,lH,O,O,zoj,fun du G3=>?_⟩⟩;rw[rep1];have OF:lo≠du:=mh lH G3;have DS:HK du=none:=by rwa [mi (dR OF)] at G3
 have rE:lO HK (upd (upd HK lo (.lst [zad 1])) du (.lst ((ş n (1:Int)).map zad))):=mO (mO (lO.refl HK) zX) DS;have G4:upd (upd HK lo (.lst [zad 1])) du (.lst ((ş n (1:Int)).map zad)) du=some (.lst ((ş n (1:Int)).map zad)):=lH;generalize upd (upd HK lo (.lst [zad 1])) du (.lst ((ş n (1:Int)).map zad))=H0 at rE G4 ⊢;refine⟨_,Z,_,Z,O,O,fun r1 H1 Ce nS f1 pa IU=>?_⟩;have RW:=Pt.se IU sS.hp;subst RW;obtain⟨as,hl,pr⟩:=pa;have al:=fK pr;have ll:l.length=Ce.length:=by have:=cA ķ sS.map;rwa [aa] at this
 have fdu:H du=none:=smK.free DS;refine⟨r1,Z,⟨_,mj.of hl⟩,?_⟩;refine om (xs:=as.map zbb) (fun i σ H4=>lO H1 H4/\∃(ou:Addr)(b:ń)(o1 o2 o3 o4:œ),σ=[some (.int n),some (.int hole),some (.ref ou),o1,o2,o3,o4]/\H ou=none/\H4 ou=some (.lst (b.map zad))/\b.length=n/\∀k:Nat,k<n->zaw b k=Rt.V (l.take i) hole k)
  ⟨lO.refl _,du,ş n 1,none,none,none,none,Z,fdu,nS _ _ G4,lB,fun k hk=>zdt (by rw[List.getElem?_replicate,if_pos hk];rfl)⟩ (fun i σ H4 _ z=>z.1.seq (mj.of hl)) ?_ ?_
 .rintro i x σ H4 hx ⟨sm4,ou,b,o1,o2,o3,o4,rfl,fou,hb,lb,inv⟩;obtain⟨ad,rfl,ea⟩:=rh hx;obtain⟨⟨p,z⟩,ep,ha⟩:=m9 pr ea;have mem:(p,z)∈Ce:=ao ep;have pq:=FR IU mem;have hi:i<l.length:=by rw[ll];exact(aJ.mp ep).1
  have el:l[i]?=some l[i]:=az hi;have e1:l[i].1=(p,z):=by
   have:(l.map ű)[i]?=some l[i].1:=by rw[af,el];rfl
   rw[sS.map,ep] at this;exact(bO this).symm
  have RX:=sS.pc (cJ hi);have SB:=sS.le _ (cJ hi);have kpz:=kpt _ (cJ hi);generalize l[i]=zz at *;obtain⟨z1,u⟩:=zz;dsimp only at e1;subst e1;dsimp only at RX SB kpz;obtain⟨m,em,Ck,m1⟩:=RX.m;have zcw:lO H H4:=((smK.trans rE).trans nS).trans sm4;refine⟨ad,_,Z,mW.of (sm4 _ _ ha),Z,_,_,Z,_,_,Z,Z,?_⟩;refine xi ?_;intros;refine⟨_,Z,_,Z,_,Z,_,Z,_,Z,n,z,hole,Ce,p,Z,O,O,IU,mem,fun c H5 sh pH=>?_⟩;have ec:c=hole*u%z:=Rs.yc (Rs.vq IU mem) sh (zem (by show 0<z;lia) SB) zol;have cb:=RX.UT hole;have ez:z=((z.toNat:Nat):Int):=O;refine⟨p,c,z.toNat,by rw[<-ez];rfl,pq.1,O,O,by rw[<-ez,Ck];exact m1,O,O,fun ft H6 F sR h6 lF hF=>?_⟩;rw[<-ez] at hF;refine⟨_,Z,_,Z,_,_,Z,Z,m8 O O,_,Z,_,z,Z,O,O,Rs.BR IU mem,fun v H7 v1 v2 hv sm7=>?_⟩;have sm57:lO H4 H7:=(pH.trans sR).trans sm7;have Fk:=sm57 _ _ hb;have h67:=sm7 _ _ h6;refine⟨_,Z,ou,Z,⟨_,mj.of Fk⟩,?_⟩;refine ug (K:=K) (xs:=b.map zad) (fun j rs H8=>lO H7 H8/\rs=((ŭ j).map fun (k:Nat)=>Rt.V (l.take (i+1)) hole k).map zad) ⟨lO.refl _,Z⟩ (fun j rs H8 _ z=>z.1.seq (mj.of Fk))
   (fun j rs H8 hj z=>by rw[aa] at hj;rw[z.2];simp only[š,û];exact oq O) ?_ ?_
  .rintro j xv rs H8 t hx ⟨uz,rfl⟩ ht;obtain⟨w',rfl,hw⟩:=int_at hx;have ew:zaw b j=w':=zdt hw;have hj:j<n:=by rw[<-lb];exact(aJ.mp hw).1
   have wv:=inv j hj;rw[ew] at wv;have vc:=Rt.xF (l.take i) hole j;refine⟨t,_,Z,mW.of lH,Z,_,_,Z,_,_,Z,Z,?_⟩;have kb:=aH ((j:Int)*v) (show z≠0 by lia);have kb':=aF ((j:Int)*v) (show 0<z by lia);have lv:(j:Int)*v%z=(j:Int)*u%z:=Rt.M6 IU mem hv SB j;refine⟨_,Z,_,Z,_,Z,_,Z,_,_,Z,Z,n5 O O,_,Z,_,_,Z,Z,(show 0<z by lia),ft,_,_,_,Z,Z,mj.of ((mi (mh (uz _ _ h67) ht)).trans (uz _ _ h67)),AC kb (by show (j:Int)*v%z<_;lia),_,_,Z,Z,n5 O O,lQ uz ht,?_⟩;rw[iC,aQ,aQ,ie,ie];congr 2;show zad (w'*zaw F ((j:Int)*v%z))=_
   rw[hF _ kb kb',lv,ec,RX.Q9 kpz j,wv,zcg el,Rt.EO]
  .rintro rs H8 ⟨uz,rfl⟩ D hD;rw[aa,lb];have Xp:lO H4 (upd H8 D (.lst (((ŭ n).map fun (k:Nat)=>Rt.V (l.take (i+1)) hole k).map zad))):=lQ (sm57.trans uz) hD;refine⟨sm4.trans Xp,D,_,_,_,_,_,Z,zcw.free ((sm57.trans uz).free hD),lH,lB,fun k hk=>?_⟩;exact zdt (by rw[af,dj hk];rfl)
 .rintro σ H4 ⟨sm4,ou,b,o1,o2,o3,o4,rfl,fou,hb,lb,inv⟩;rw[aa,al,<-ll,b5] at inv;exact⟨_,Z,q ou H4 b (((smK.trans rE).trans nS).trans sm4) fou hb lb inv⟩
inductive Qi (vs:ň)(H:Hp)(Q:VK)(_:XK):Prop
 | mk (n:Nat)(ps:ľ)(l:ĺ)(_:vs=[.int n])(_:1<=n)(_:n<=420)(_:zeu n ps l)(_:∀t H',lO H H'->H' t=some (.lst ((zct n l).map zad))->Q (.ref t) H')
def LN (i:Nat)(l:ĺ):zct (i+1) l=zct i l++(if zfc l i then [(i:Int)] else []):=by
 unfold zct;have e:Rt.hs (i+1)=Rt.hs i++[(i:Int)]:=by unfold Rt.hs;rw[List.range_succ,Ć];rfl
 rw[e,kg];congr 1
 by_cases c:zfc l i
 .rw[aA c,kR,aA (cB c)];rfl
 .rw[ah c,kR,ah (by rw[gL];exact c)];rfl
def MC:Df P w K mg base 7 "kept" ["n"] Qi:=by
 refine mX T.zgq Nz fun f cdv A outer s H vs Q E hr nd h=>?_;obtain⟨n,ps,l,rfl,n1,n2,sS,q⟩:=h;refine⟨_,(lL (ma (oX [("n",0)] ["hole"] (nK lD T.zjo (mT (pv 0))) (fun C s H fp=>⟨(qo 1),(xR (pJ (mD (zg T) hr (mJ (pv 0) (pv 1))))),(pv 1)⟩)))),_,Z,_,Z,lC,lC,?_⟩;rw[ae];refine rH (fun i ys H2=>lO H H2/\ys=(zct i l).map zad) ⟨lO.refl _,Z⟩ (fun i ys H2 hi z=>by rw[z.2,aa];have:=Rt.vW i l;exact oq lC) ?_ ?_
 .rintro i ys H2 hi ⟨sm,rfl⟩;refine⟨_,Z,_,Z,n,i,ps,l,Z,n1,n2,sS,fun H3 nJ=>⟨_,Z,?_⟩⟩;rw[LN];refine oS (fun c=>?_) (fun c=>?_)
  .have c':=fY c;refine⟨_,Z,sm.trans nJ,?_⟩;rw[aA c',aQ];rfl
  .have c':¬zfc l i:=fun z=>c (cB z);refine⟨sm.trans nJ,?_⟩;rw[ah c',gH]
 .rintro ys H2 ⟨sm,rfl⟩ D hD;exact q D _ (lQ sm hD) lH
inductive Qd (K:zfq)(vs:ň)(H:Hp)(Q:VK)(_:XK):Prop
 | mk (r s:Addr)(a b:ń)(_:vs=[.ref r,.ref s])(_:mj K H r (a.map zad))(_:mj K H s (b.map zad))(_:a.length=b.length)(_:a.length<=420)(_:∀t H',lO H H'->H t=none->H' t=some (.lst ((zdb a b).map zad))->Q (.ref t) H')
def FP:Df P w K mg base 2 "plus" ["one","other"] (Qd K):=by
 refine mX T.zgc NO fun f cdv A outer s H vs Q E hr nd h=>?_;obtain⟨r,s',a,b,rfl,ha,hb,e,hz,q⟩:=h;refine⟨_,(lE (oO (mD (qT T) hr (mJ (pv 0) (pv 1)))) (lL (ma (oX [] ["weight","more"] (qP lD T.zjs (mJ (pv 0) (pv 1))) (fun C s H fp=>⟨(tQ 0 1),mL,(lY mY (pv 0) (pv 1))⟩))))),_,Z,_,Z,r,s',_,_,Z,ha,hb,by rw[aa,aa,e],_,Z,_,Z,r,s',Z,⟨_,ha⟩,⟨_,hb⟩,?_⟩;have pl:=Ld.p9 e;refine zt (K:=K) (xs:=a.map zad) (ys:=b.map zad) (by rw[aa,aa,e]) (fun i rs H2=>lO H H2/\rs=((zdb a b).take i).map zad) ⟨lO.refl H,lB⟩ (fun i rs H2 _ z=>⟨z.1.seq ha,z.1.seq hb⟩)
  (fun i rs H2 hi z=>by rw[aa] at hi;rw[z.2];simp only[š,ŷ];exact oq lC) ?_ ?_
 .rintro i x y rs H2 p hx hy ⟨sm,rfl⟩ hp;obtain⟨u,rfl,hu⟩:=int_at hx;obtain⟨v,rfl,hv⟩:=int_at hy;refine⟨p,_,Z,mW.of lH,Z,_,_,Z,_,_,Z,Z,_,Z,_,Z,_,_,Z,Z,lQ sm hp,?_⟩;rw[og (v:=u+v)];unfold zdb;rw[cy,hu,hv]
 .rintro rs H2 ⟨sm,rfl⟩ D hD;rw[oz (by rw[pl,aa])];exact q D _ (lQ sm hD) (sm.free hD) lH
inductive LU (K:zfq)(vs:ň)(H:Hp)(Q:VK)(_:XK):Prop
 | mk (r:Addr)(a:ń)(m:Int)(_:vs=[.ref r,.int m])(_:mj K H r (a.map zad))(_:a.length<=420)(_:∀x∈a,IntMulOk x m)(_:∀t H',lO H H'->H t=none->H' t=some (.lst ((zbj a m).map zad))->Q (.ref t) H')
def wm:Df P w K mg base 1 "scaled" ["load","many"] (LU K):=by
 refine mX T.zge HZ fun f cdv A outer s H vs Q E hr nd h=>?_;obtain⟨r,a,m,rfl,ha,hz,hm,q⟩:=h;refine⟨_,(lL (ma (oX [("many",1)] ["weight"] (mQ (pv 0)) (fun C s H fp=>⟨(qo 1),mL,(lY mH (pv 1) (pv 0))⟩)))),_,Z,r,Z,⟨_,ha⟩,?_⟩;refine qB (K:=K) (xs:=a.map zad) (fun i rs H2=>H2=H/\rs=((zbj a m).take i).map zad) ⟨Z,lB⟩ (fun i rs H2 _ z=>by rw[z.1];exact ha)
  (fun i rs H2 hi z=>by rw[aa] at hi;rw[z.2];simp only[š,ŷ];exact oq lC) ?_ ?_
 .rintro i x rs H2 hx ⟨rfl,rfl⟩;obtain⟨u,rfl,hu⟩:=int_at hx;refine⟨_,Z,_,Z,_,_,Z,Z,hm u (ao hu),Z,?_⟩;rw[og (v:=u*m)];unfold zbj;rw[af,hu];rfl
 .rintro rs H2 ⟨rfl,rfl⟩ D hD;rw[oz (by rw[zfm,aa])];exact q D _ (lQ (lO.refl _) hD) hD lH
inductive Zf (K:zfq)(vs:ň)(H:Hp)(Q:VK)(_:XK):Prop
 | mk (r s:Addr)(a:ń)(n:Nat)(ps:ľ)(l:ĺ)(_:vs=[.ref r,.ref s])(_:mj K H r (a.map zad))(_:a.length=n)(_:1<=n)(_:n<=420)(_:zeu n ps l)(_:H s=some (.lst ((zct n l).map zad)))(_:∀t H',lO H H'->H t=none->H' t=some (.lst ((zdp n l a).map zad))->Q (.ref t) H')
def vG:Df P w K mg base 7 "kept_rest" ["load","holes"] (Zf K):=by
 refine mX T.zib Bm fun f cdv A outer s H vs Q E hr nd h=>?_;obtain⟨r,s',a,n,ps,l,rfl,ha,la,n1,n2,sS,hs,q⟩:=h;refine⟨_,(lE (mE 2 nd (mF mv (mD (FH T) hr (mT (pv 0))) lJ)) (lL (ma (oX [("left",2)] ["hole"] (mQ (pv 1)) (fun C s H fp=>⟨(qo 1),mL,(mF (qI (K:=K) Z) (pv 0) (pv 1))⟩))))),zo ?_⟩;intros;refine⟨_,Z,r,a,n,Z,ha,la,n1,n2,fun t le ro H1 b Oo l' è nS ft fl fr ht hb lb zcx bv _ _=>?_⟩;have f0:oi [zbb le,zbb ro] 0=some (.ref le):=Z;refine⟨t,_,_,_,Z,Z,mW.of ht,f0,?_⟩;have bv':∀x,zaw b x=zep n l (zaw a) x:=fun x=>by rw[bv,zcx.one sS]
 refine⟨_,Z,s',Z,⟨_,mj.of (nS _ _ hs)⟩,?_⟩;refine nT (K:=K) (xs:=(zct n l).map zad) (zdp n l a) (by rw[Ct.rL,aa]) (by rw[aa];have:=Rt.vW n l;lia) (mj.of (nS _ _ hs)) ?_ ?_
 .intro i x H2 hx nZ R kk;obtain⟨hv,rfl,eh⟩:=int_at hx;have km:=(Rt.xZ.mp (ao eh)).1;exact⟨_,Z,_,Z,le,_,_,_,Z,Z,mj.of (nZ _ _ hb),AC km.1 O,kk _ _ (lO.refl _) (by unfold zdp;rw[List.getElem?_map,eh,bv'];rfl)⟩
 intro c H2 nZ fc h2;exact q c H2 (nS.trans nZ) (nS.free fc) h2
inductive XD (vs:ň)(H:Hp)(Q:VK)(_:XK):Prop
 | mk (s wt:Addr)(W:ń)(n M:Nat)(ps:ľ)(l:ĺ)(_:vs=[.int n,.ref s,.ref wt])(_:1<=n)(_:n<=60)(_:zeu n ps l)(_:H s=some (.lst ((zct n l).map zad)))(_:H wt=some (.lst (W.map zad)))(_:W.length=(zct n l).length)(_:Bd M W)(_:∀t H' AW,lO H H'->H' t=some (.lst (AW.map zad))->AW.length=n->Bd (M+6) AW->(∀k:Nat,k<n->zaw AW k=Ct.aw n l W (zct n l).length k)->Q (.ref t) H')
def wK:Df P w K mg base 8 "all_weighings" ["n","holes","weights"] XD:=by
 refine mX T.zic wu fun f cdv A outer s H vs Q E hr nd h=>?_;obtain⟨s',wt,W,n,M,ps,l,rfl,n1,n2,sS,hs,hw,lW,bW,q⟩:=h;refine⟨_,(lE (mE 3 nd (lY re (nY (mT lJ)) (pv 0))) (lE (nh aO Z (qP lD T.zjs (mJ (pv 1) (pv 2))) (oY Z (mI (nW 4 nd) (mI (nW 5 nd) oe))) (lL (mE 3 nd (mD (FP T) hr (mJ (pv 3) (mD (wm T) hr (mJ (mD (Dr T) hr (mJ (pv 0) (pv 4))) (pv 5)))))))) (lL (ma (pv 3))))),xi ?_⟩;intros;refine⟨lI,fun lo zX=>⟨_,Z,lo,_,_,Z,Z,lH,O,O,zoj,fun p hp=>?_⟩⟩;rw[rep0];have Su:lO H (upd (upd H lo (.lst [zad 0])) p (.lst ((ş n (0:Int)).map zad))):=lQ (lQ (lO.refl _) zX) hp;have hP:upd (upd H lo (.lst [zad 0])) p (.lst ((ş n (0:Int)).map zad)) p=some (.lst ((ş n (0:Int)).map zad)):=lH;generalize upd (upd H lo (.lst [zad 0])) p (.lst ((ş n (0:Int)).map zad))=H0 at Su hP ⊢;refine⟨_,Z,_,Z,s',wt,Z,⟨_,mj.of (Su _ _ hs)⟩,⟨_,mj.of (Su _ _ hw)⟩,BO (K:=K) (xs:=(zct n l).map zad) (ys:=W.map zad) (by rw[aa,aa,lW]) (fun i σ H2=>lO H H2/\∃(oc:Addr)(AW:ń)(o1 o2:œ),σ=[some (.int n),some (.ref s'),some (.ref wt),some (.ref oc),o1,o2]/\H2 oc=some (.lst (AW.map zad))/\AW.length=n/\∀k:Nat,k<n->zaw AW k=Ct.aw n l W i k) ⟨Su,p,_,none,none,Z,hP,bq,fun k hk=>zdt (by rw[fI,aA hk];rfl)⟩ (fun i σ H2 _ z=>⟨z.1.seq (mj.of hs),z.1.seq (mj.of hw)⟩) ?_ ?_⟩
 .rintro i x y σ H2 pr hx hy ⟨sm,oc,AW,o1,o2,rfl,ho,lA,ev⟩ hpr;obtain⟨hv,rfl,eh⟩:=int_at hx;obtain⟨c,rfl,ec⟩:=int_at hy;have kp:=(Rt.xZ.mp (ao eh)).2;refine⟨pr,_,Z,mW.of lH,Z,_,_,Z,_,_,Z,Z,?_⟩;have nJ:lO H2 (upd H2 pr (.tup [.int hv,.int c])):=lQ (lO.refl _) hpr;generalize upd H2 pr (.tup [.int hv,.int c])=H3 at nJ ⊢;refine⟨_,Z,_,Z,_,Z,n,hv,ps,l,Z,n1,O,sS,kp,fun tw H4 V4 sm4 f4 h4 lV vv=>?_⟩;refine⟨_,Z,tw,V4,c,Z,mj.of h4,O,fun x hx=>?_,fun ts H5 pH f5 h5=>?_⟩
  .obtain⟨k,hk,e⟩:=ų hx;have e2:zaw V4 k=x:=zdt (by rw[<-e];exact az hk);have:=vv k O;rw[e2] at this;rcases Rt.xF l hv k with z | z | z<;>exact yW O O
  have smo:=(nJ.trans sm4).trans pH;have lS:(zbj V4 c).length=n:=by unfold zbj;rw[š];exact lV
  refine⟨oc,ts,AW,zbj V4 c,Z,mj.of (smo _ _ ho),mj.of h5,by rw[lA,lS],O,fun to H6 sR f6 h6=>?_⟩;refine⟨(sm.trans smo).trans sR,to,_,_,_,Z,h6,by rw[Ld.p9 (by rw[lA,lS])];exact lA,fun k hk=>?_⟩;rw[Ld.sF (by rw[lA,lS]) O,Ld.ur O,ev k hk,vv k hk];show _=Ct.aw n l W i k+Rt.V l (zbh (zct n l) (i:Int).toNat) k*zbh W (i:Int).toNat
  rw[ae,zdo eh,zdo ec]
 .rintro σ H2 ⟨sm,oc,AW,o1,o2,rfl,ho,lA,ev⟩;rw[aa] at ev;refine⟨_,Z,q oc H2 AW sm ho lA (fun x hx=>?_) ev⟩;obtain⟨k,hk,e⟩:=ų hx;have e2:zaw AW k=x:=zdt (by rw[<-e];exact az hk);rw[<-e2,ev k O];have kl:=Rt.vW n l;exact Ct.UF O (fun c hc=>bW _ (zcy (by rw[lW];exact hc))) _
structure Rco (n w C Cg:Nat):Prop where
 C1:1<=C
 CC:C<=Cg
 CN:Cg<2^9000
 num:∀k,k<=n->k<=w->∃B G,Nk k C Cg 9000 B G
 big:∀k,k<=n->k<=w->(2*(k*C)+1)^k*((k+1)*(zcp k Cg*Cg))<zfe Pq.S
def K6 {n w C Cg K0:Nat}(C1:1<=C)(CC:C<=Cg)(h:(ŭ K0).all (fun k=>Rx.WB k C Cg)=true)(K1:0<K0)(le:∀k,k<=n->k<=w->k<K0):Rco n w C Cg:=by
 have ck:∀k,k<K0->Rx.WB k C Cg=true:=fun k hk=>fi.mp h k (fj.mpr hk);have sp:∀k,k<K0->128*(zdy k C Cg*zdy k C Cg)*(128*(zdy k C Cg*zdy k C Cg))*2^480<=2^9000/\zek k C Cg<2^9000/\Rx.gD k C*((k+1)*(zcp k Cg*Cg))<zfe Pq.S:=fun k hk=>by
  have c:=ck k hk;unfold Rx.WB at c;rw[gX,gX] at c;exact⟨iG c.1.1,iG c.1.2,iG c.2⟩
 refine⟨C1,CC,bL (show Cg<=zek 0 C Cg by unfold zek;exact ď ..) (sp 0 K1).2.1,fun k a b=>⟨zdy k C Cg,zek k C Cg,?_,?_,?_,?_,(sp k (le k a b)).1,(sp k (le k a b)).2.1,?_,?_⟩,fun k a b=>(sp k (le k a b)).2.2⟩
 .show Rx.gD k C<=zdy k C Cg
  unfold zdy;exact ĉ (ď ..) (ā ..)
 .show Rx.gD k C<=zek k C Cg
  unfold zek;exact ĉ (ā ..) (ā ..)
 .show k*(Rx.gD k C*(zcp k C*zek k C Cg))<=zdy k C Cg
  unfold zdy;exact ĉ (ā ..) (ā ..)
 .unfold zdy;exact ď ..
 .unfold zek;exact ĉ (ď ..) (ā ..)
 .unfold zek;exact ď ..
inductive Um (C:Addr)(vs:ň)(H:Hp)(Q:VK)(_:XK):Prop
 | mk (r s:Addr)(a:ń)(bs:ĸ)(n C0 Cg:Nat)(ps:ľ)(l:ĺ)(_:vs=[.ref r,.ref s])(_:H r=some (.lst (a.map zad)))(_:nM H s bs)(_:a.length=n)(_:∀b∈bs,b.length=n)(_:1<=n)(_:n<=60)(_:bs.length<=400)(_:zeu n ps l)(_:Rco bs.length (zct n l).length C0 Cg)(_:∀b∈bs,∀z∈zdp n l b,z.natAbs<=C0)(_:∀z∈zdp n l a,z.natAbs<=Cg)(_:∀t ct H' cs,lO H H'->H' t=some (.tup [.str "way",.ref ct])->H' ct=some (.lst (cs.map zad))->cs.length=bs.length->Bd 40000 cs->zes (zct n l).length (bs.map (zdp n l)) (zbj (zdp n l a) (-1)) cs->Q (.ref t) H')(_:∀t wt H' AW W s0,lO H H'->H' t=some (.tup [.str "bar",.ref wt,.int s0])->H' wt=some (.lst (AW.map zad))->AW.length=n->0<=s0->Bd 9007 AW->W.length=(zct n l).length->(∀k:Nat,k<n->zaw AW k=Ct.aw n l W (zct n l).length k)->zea (bs.map (zdp n l)) (zbj (zdp n l a) (-1)) W s0->Q (.ref t) H')
def yy:Df P w K mg base 13 "counter" ["load","blocks"] (Um CF):=by
 refine mX T.zia ET fun f cdv A outer s H vs Q E hr nd h=>?_;obtain⟨r,s',a,bs,n,C0,Cg,ps,l,rfl,ha,hB,la,lb,n1,n2,b4,sS,rc,bC,bG,qw,qb⟩:=h;obtain⟨as,h1,pa⟩:=id hB;have lp:=mw pa;refine⟨_,(lE (nh aO Z (mQ (pv 1)) (nW 2 nd) (lL (oO (mD (qT T) hr (mJ (pv 0) (pv 2)))))) (lE (mE 3 nd (pM T.zji (pv 0))) (lE (nw (nQ uO (pv 3) (uk (v:=.int 60) lD T.zfs ⟨_,Z⟩)) Lh mR) (lE (mE 4 nd (mD (MC T) hr (mT (pv 3)))) (lE (mE 5 nd (mD (Jp T) hr (mJ (oX [("holes",4)] ["block"] (mQ (pv 1)) (fun C s H fp=>⟨(qo 1),mL,(mD (vG T) hr (mJ (pv 1) (pv 0)))⟩)) (mD (wm T) hr (mJ (mD (vG T) hr (mJ (pv 0) (pv 4))) (tD qO lJ)))))) (lE (nw (nQ pX (mF mv (pv 5) lJ) rV) (lL (ma (pv 5))) mR) (lL (ma (nE (lG rV (lG (mD (wK T) hr (lG (pv 3) (lG (pv 4) (lG (mF mv (pv 5) lJ) mB)))) (lG (mF mv (pv 5) lJ) mB)))))))))))),Wx ?_⟩;intros;rw[show start ["load","blocks","block","n","holes","told"] [zbb r,zbb s']=[some (.ref r),some (.ref s'),none,none,none,none] from Z];refine⟨_,Z,s',Z,⟨_,mj.of h1⟩,om (K:=K) (xs:=as.map zbb) (fun i σ H2=>H2=H/\∃o:œ,σ=[some (.ref r),some (.ref s'),o,none,none,none]) ⟨Z,none,Z⟩ (fun i σ H2 _ z=>by rw[z.1];exact mj.of h1) ?_ ?_⟩
 .rintro i x σ H2 hx ⟨rfl,o,rfl⟩;obtain⟨b,row,rfl,hb,nA,hh⟩:=oM pa hx;exact⟨_,Z,_,Z,r,b,_,_,Z,mj.of ha,mj.of hh,by rw[aa,aa,la,lb row (ao nA)],Z,_,Z⟩
 rintro σ H2 ⟨rfl,o,rfl⟩;refine⟨_,Z,r,_,Z,.inl (mj.of ha),?_⟩;rw[aa,la]
 try dsimp only[nu,qx,qu]
 refine⟨_,Z,_,_,Z,Z,_,Z,oQ (by simp;lia) ?_⟩;refine⟨_,Z,n,ps,l,Z,n1,O,sS,fun ho H1 nS hh1=>?_⟩
 try dsimp only[nu,qx,qu]
 refine⟨_,Z,s',Z,⟨_,mj.of (nS _ _ h1)⟩,?_⟩;refine rA (K:=K) (xs:=as.map zbb) (bs.map (zdp n l)) (by rw[aa,aa,lp]) zoh (mj.of (nS _ _ h1)) ?_ ?_
 .intro i x H3 hx nJ R kk;obtain⟨b,row,rfl,hb,nA,hh⟩:=oM pa hx;refine⟨_,Z,_,Z,b,ho,row,n,ps,l,Z,mj.of (nJ _ _ (nS _ _ hh)),lb row (ao nA),n1,O,sS,nJ _ _ hh1,fun t H4 sm4 _ h4=>kk H4 t _ sm4 (by rw[af,nA];rfl) h4⟩
 intro st H3 nJ _ uX;have rW:=nS.trans nJ;refine⟨_,Z,_,Z,r,ho,a,n,ps,l,Z,mj.of (rW _ _ ha),la,n1,O,sS,nJ _ _ hh1,fun kl H4 sm4 _ h4=>?_⟩;have kln:=Rt.vW n l;refine⟨_,Z,kl,_,-1,Z,mj.of h4,by rw[Ct.rL];lia,fun x _=>ju (gR L L),fun gl H5 pH _ h5=>?_⟩;have Mh:=sm4.trans pH;have lk:∀y∈bs.map (zdp n l),y.length=(zct n l).length:=fun y hy=>by
  obtain⟨b,_,rfl⟩:=ţ.mp hy;exact Ct.rL
 refine⟨st,gl,bs.map (zdp n l),zbj (zdp n l a) (-1),(zct n l).length,9000,C0,Cg,Z,(uX.same sm4).same pH,h5,lk,by unfold zbj;rw[š,Ct.rL],O,by rw[š];lia,L,L,rc.C1,rc.CC,rc.CN,fun y hy z hz=>?_,fun z hz=>?_,by rw[š];exact rc.num,by rw[š];exact rc.big,fun t wt H6 W s0 sR SC hw6 lW s1 bW sh=>?_,fun t ct H6 cs sR SC hc6 lc bc sh=>?_⟩
 .obtain⟨b,hb,rfl⟩:=ţ.mp hy;exact bC b hb z hz
 .unfold zbj at hz;obtain⟨x,hx,rfl⟩:=ţ.mp hz;have:=bG x hx;show (x * -1).natAbs<=Cg
  rw[jm,iI];exact this
 .have smA:=(rW.trans Mh).trans sR;have zcA:=(nJ.trans Mh).trans sR;have i0:oi [zdj "bar",zbb wt,zad s0] 0=some (.str "bar"):=Z;have i1:oi [zdj "bar",zbb wt,zad s0] 1=some (.ref wt):=Z;have i2:oi [zdj "bar",zbb wt,zad s0] 2=some (.int s0):=Z
  try dsimp only[nu,qx,qu]
  refine⟨_,Z,t,_,_,_,Z,Z,mW.of SC,i0,Z,_,Z,oQ L ?_⟩;refine⟨_,Z,_,Z,_,Z,t,_,_,_,Z,Z,mW.of SC,i1,ho,wt,W,n,9001,ps,l,Z,n1,n2,sS,zcA _ _ hh1,hw6,lW,bW,fun aw H7 AW sm7 h7 lA bA ev=>?_⟩;refine⟨_,Z,t,_,_,_,Z,Z,mW.of (sm7 _ _ SC),i2,me,fun tt uf=>?_⟩;have uz:=lQ (o:=.tup [zdj "bar",zbb aw,zad s0]) (lO.refl H7) uf;exact qb tt aw _ AW W s0 ((smA.trans sm7).trans uz) lH (uz _ _ h7) lA s1 bA lW ev sh
 .have i0:oi [zdj "way",zbb ct] 0=some (.str "way"):=Z
  try dsimp only[nu,qx,qu]
  refine⟨_,Z,t,_,_,_,Z,Z,mW.of SC,i0,Z,_,Z,rp L ?_⟩;exact⟨_,Z,qw t ct H6 cs ((rW.trans Mh).trans sR) SC hc6 (by rw[lc,aa]) bc sh⟩
inductive K2 (K:zfq)(vs:ň)(H:Hp)(Q:VK)(_:XK):Prop
 | mk (a:Addr)(ns:ń)(k:Int)(_:vs=[.ref a,.int k])(_:mj K H a (ns.map zad))(_:0<=k)(_:∀v:Int,Q (.int v) H)
def tS:Df P w K mg base 1 "_law_cell_at" ["script","k"] (K2 K):=by
 refine mX T.zil yv fun f cdv A outer s H vs Q E hr nd h=>?_;obtain⟨a,ns,k,rfl,hS,k0,q⟩:=h;refine⟨_,(lE (nw (nQ FU (pv 1) (pM T.zji (pv 0))) (lL (ma (mF mU (pv 0) (pv 1)))) mR) (lL (ma lJ))),zo ?_⟩;intros;refine⟨_,Z,_,Z,a,_,Z,.inl hS,_,_,Z,Z,_,Z,?_⟩;refine oS (fun c=>?_) (fun c=>q 0);have hk:=dec c;rw[aa] at hk;obtain⟨v,hv,_⟩:=PL k0 hk;exact⟨_,Z,_,Z,a,_,_,_,Z,Z,hS,hv,q v⟩
inductive Na (vs:ň)(H:Hp)(Q:VK)(_:XK):Prop
 | mk (i:Int)(_:vs=[.int i])(_:Q (.bl true) H)
def rQ:Df P w K mg base 1 "_law_number" ["found"] Na:=by
 refine mX T.zin zE fun f cdv A outer s H vs Q E hr nd h=>?_;obtain⟨i,rfl,q⟩:=h;refine⟨_,(lL (ma (wb (mZ pU lD T.zjj zfn (mJ (pv 0) (ut (v:=.ty "int") lD T.zjk L2.QE lD))) (B8 (Le (mZ pU lD T.zjj zfn (mJ (pv 0) (ut (v:=.ty "bool") lD T.zjl L2.Nu lD)))))))),_,Z,_,_,_,true,Z,.int i,r9 _,true,Z,Uz ?_⟩;exact⟨_,Z,_,_,_,false,Z,.int i,L2.QD,false,Z,q⟩
inductive XW (vs:ň)(H:Hp)(Q:VK)(_:XK):Prop
 | mk (n m:Int)(_:vs=[.int n,.int m])(_:0<=m)(_:m∣n->Q (.bl true) H)(_:¬m∣n->Q (.bl false) H)
def Aj:Df P w K mg base 1 "_law_by" ["number","modulus"] XW:=by
 refine mX T.zis Hc fun f cdv A outer s H vs Q E hr nd h=>?_;obtain⟨n,m,rfl,m0,q1,q2⟩:=h;have key:∀c:Bool,(c=true↔m∣n)->Q (.bl c) H:=fun c e=>by
  cases c with
  | true=>exact q1 (e.mp Z)
  | false=>exact q2 fun z=>by have:=e.mpr z;cases this
 refine⟨_,(lE (nw (nQ pX (pv 1) lJ) (lL (ma (oP pX (pv 0) lJ (pQ _)))) mR) (lL (ma (oP pX (lY m3 (pv 0) (pv 1)) lJ (pQ _))))),zo ?_⟩;intros;refine⟨_,Z,Z,_,Z,oS (fun c=>?_) (fun c=>?_)⟩
 .have z:=xt c;subst z;refine⟨_,Z,Z,key _ ⟨fun h=>?_,fun h=>?_⟩⟩
  .rw[xt h];exact bx _
  .rw[gS.mp h];exact cB Z
 .have z:=yL c;refine⟨_,Z,_,Z,_,_,Z,Z,(show 0<m by lia),Z,key _ ⟨fun h=>?_,fun h=>?_⟩⟩
  .exact aY (xt h)
  .have:n%m=0:=bB h;exact cB (cA zad this)
inductive Ri (vs:ň)(H:Hp)(Q:VK)(_:XK):Prop
 | mk (c m:Int)(_:vs=[.int c,.int m])(_:0<=m)(_:m.natAbs<2^250)(_:∀v:Int,v.natAbs<=m.natAbs->Q (.int v) H)
def xg:Df P w K mg base 1 "_law_near" ["cell","most"] Ri:=by
 refine mX T.zim Dc fun f cdv A outer s H vs Q E hr nd h=>?_;obtain⟨c,m,rfl,m0,mb,q⟩:=h;have a1:=aH c (show 2*m+1≠0 by omega);have a2:=aF c (show 0<2*m+1 by omega);refine⟨_,(lE (mE 2 nd (lY m3 (pv 0) (lY mY (lY mH lJ (pv 1)) lJ))) (lE (nw (nQ uO (pv 2) (pv 1)) (lL (ma (lY oU (pv 2) (lY mY (lY mH lJ (pv 1)) lJ)))) mR) (lL (ma (pv 2))))),xi ?_⟩;intros;refine⟨_,Z,_,Z,_,_,Z,Z,n5 L L,_,_,Z,Z,_,_,Z,Z,(show 0<2*m+1 by omega),_,Z,_,Z,_,_,Z,Z,_,Z,?_⟩;refine oS (fun d=>?_) (fun d=>?_)
 .have:=dec d;refine⟨_,Z,_,Z,_,_,Z,Z,n5 L L,_,_,Z,Z,_,_,Z,Z,q _ ?_⟩;omega
 .have:=xy d;exact⟨_,Z,q _ lC⟩
inductive MZ (K:zfq)(vs:ň)(H:Hp)(Q:VK)(_:XK):Prop
 | mk (n:Nat)(c:Addr)(ms:ń)(st most:Int)(_:vs=[.int n,.ref c,.int st,.int most])(_:mj K H c (ms.map zad))(_:ms.length<=80)(_:1<=n)(_:n<=420)(_:0<=most)(_:most.natAbs<2^250)(_:0<=st/\st<=1000)(_:∀r H' ld,lO H H'->H r=none->H' r=some (.lst (ld.map zad))->ld.length=n->zbz (80*most.natAbs) ld->Q (.ref r) H')
def wT:Df P w K mg base 2 "_law_load" ["n","cells","step","most"] (MZ K):=by
 refine mX T.ziq Cv fun f cdv A outer s H vs Q E hr nd h=>?_;obtain⟨n,c,ms,st,most,rfl,hc,ml,n1,n2,Xg,mob,stb,q⟩:=h;refine⟨_,(lE (mE 4 nd (lY re (nY (mT lJ)) (pv 0))) (lE (nh aO Z (nK lD T.zjo (mT (pM T.zji (pv 1)))) (nW 5 nd) (lE (mE 6 nd (lY m3 (lY mY (lY mH (pv 5) (pv 2)) (lY mS (mF mU (pv 1) (pv 5)) (lY mY (lY mH lJ (pv 3)) lJ))) (pv 0))) (lL (rz (lY mY (mF mU (pv 4) (pv 6)) (mD (xg T) hr (mJ (mF mU (pv 1) (pv 5)) (pv 3)))) (qZ (pv 4) (pv 6) set_list))))) (lL (ma (pv 4))))),xi ?_⟩;intros;refine⟨lI,fun l hl=>⟨_,Z,l,_,_,Z,Z,lH,lC,lC,(by show 1*_<=_;exact pO lC),fun du G3=>?_⟩⟩;rw[rep0];have OF:l≠du:=mh lH G3;have DS:H du=none:=by rwa [mi (dR OF)] at G3
 have rE:lO H (upd (upd H l (.lst [zad 0])) du (.lst ((ş n (0:Int)).map zad))):=mO (mO (lO.refl H) hl) DS;have G4:upd (upd H l (.lst [zad 0])) du (.lst ((ş n (0:Int)).map zad)) du=some (.lst ((ş n (0:Int)).map zad)):=lH;generalize upd (upd H l (.lst [zad 0])) du (.lst ((ş n (0:Int)).map zad))=H0 at rE G4 ⊢;refine⟨_,Z,c,_,Z,.inl (rE.seq hc),_,Z,by rw[aa];lia,by rw[aa];lia,?_⟩;rw[aa,ae];refine oy (fun i σ H2=>lO H H2/\∃(ld:ń)(o1 o2:œ),σ=[some (.int n),some (.ref c),some (.int st),some (.int most),some (.ref du),o1,o2]/\H2 du=some (.lst (ld.map zad))/\ld.length=n/\zbz (i*most.natAbs) ld)
  ⟨rE,ş n 0,none,none,Z,G4,lB,Ld.Qw _ _⟩ ?_ ?_
 .rintro i σ H2 hi ⟨sm,ld,o1,o2,rfl,h2,len,bd⟩;refine zo ?_;intros;have a1:oi (ms.map zad) (i:Int)=some (.int (zaw ms i)):=AC O O;have hc2:=sm.seq hc;have zcB:Gd (zaw ms i) (2*most+1):=by
   refine⟨O,?_⟩;have hn:(2*most+1).natAbs<2^252:=by
    have:(2:Nat)^252=4*2^250:=by decide +kernel
    lia
   have:=(io (show (2*most+1).natAbs≠0 by lia)).mpr hn;lia
  refine⟨_,Z,_,Z,_,_,Z,Z,n5 O O,_,Z,_,Z,c,_,_,_,Z,Z,hc2,a1,_,Z,_,_,Z,Z,n5 L L,_,_,Z,Z,_,_,Z,Z,zcB,_,_,Z,Z,_,Z,_,_,Z,Z,(show (0:Int)<(n:Int) by lia),_,Z,_,Z,du,_,_,_,Z,Z,mj.of h2,xU len O _,_,Z,_,Z,c,_,_,_,Z,Z,hc2,a1,_,Z,_,_,Z,Xg,mob,fun wv hw=>⟨_,_,Z,Z,_,Z,_,Z,du,_,_,_,Z,Z,h2,vF (v6 len) O _,?_⟩⟩;rw[set_int];refine⟨mO sm DS,_,_,_,Z,lH,by rw[cI,len],?_⟩;have b1:=zev bd ((i:Int)*st+zaw ms i/(2*most+1));refine Ld.Q1 bd (by rw[fv];lia) ?_;rw[fv];exact aS (ir ..) (k9 b1 hw)
 .rintro σ H2 ⟨sm,ld,o1,o2,rfl,h2,len,bd⟩;refine⟨_,Z,q du H2 ld sm DS h2 len (Ld.pP bd (b9 _ ml))⟩
inductive T4 (K:zfq)(vs:ň)(H:Hp)(Q:VK)(_:XK):Prop
 | mk (r s:Addr)(a b:ń)(N M:Nat)(_:vs=[.ref r,.ref s])(_:H r=some (.lst (a.map zad)))(_:H s=some (.lst (b.map zad)))(_:a.length=b.length)(_:a.length<=420)(_:Bd N a)(_:Bd M b)(_:N<=1000000)(_:M<=1000000)(_:∀H',lO H H'->Q (.int (zbr a b)) H')
def uR:Df P w K mg base 1 "_law_weighs" ["load","weights"] (T4 K):=by
 refine mX T.zir zL fun f cdv A outer s H vs Q E hr nd h=>?_;obtain⟨r,s',a,b,N,M,rfl,h1,h2,l,l4,ba,bb,N1,M1,q⟩:=h;refine⟨_,(lE (mE 2 nd lJ) (lE (nh aO Z (nK lD T.zjo (mT (pM T.zji (pv 0)))) (nW 3 nd) (lL (mE 2 nd (lY mY (pv 2) (lY mH (mF mU (pv 0) (pv 3)) (mF mU (pv 1) (pv 3))))))) (lL (ma (pv 2))))),xi ?_⟩;intros;refine⟨_,Z,r,_,Z,.inl (mj.of h1),_,Z,by rw[aa];lia,by rw[aa];lia,?_⟩;rw[aa,ae];refine oy (n:=a.length) (fun i σ H2=>H2=H/\∃o:œ,σ=[some (.ref r),some (.ref s'),some (.int (zag i fun j=>zbh a j.toNat*zbh b j.toNat)),o]) ⟨Z,none,Z⟩ ?_ ?_
 .rintro i σ H2 hi ⟨rfl,o,rfl⟩;have a1:oi (a.map zad) (i:Int)=some (.int (zbh a i)):=nV (by rw[af,zdv hi];rfl);have a2:oi (b.map zad) (i:Int)=some (.int (zbh b i)):=nV zoi;refine⟨_,Z,_,Z,_,Z,r,_,_,_,Z,Z,mj.of h1,a1,_,Z,_,Z,s',_,_,_,Z,Z,mj.of h2,a2,_,_,Z,Z,uA (ba _ (zcy (l:=a) hi)) (bb _ (zcy (l:=b) O)) N1 M1,_,_,Z,Z,Z,some (.int i),?_⟩;have e:(zag (i+1) fun j=>zbh a j.toNat*zbh b j.toNat)=(zag i fun j=>zbh a j.toNat*zbh b j.toNat)+zbh a i*zbh b i:=by
   show (zag i fun j=>zbh a j.toNat*zbh b j.toNat)+zbh a (i:Int).toNat*zbh b (i:Int).toNat=_
   rw[ae]
  rw[e];rfl
 .rintro σ H2 ⟨rfl,o,rfl⟩;refine⟨_,Z,?_⟩;rw[<-Rx.p6 Z l.symm];exact q _ (lO.refl _)
inductive Rn (K:zfq)(vs:ň)(H:Hp)(Q:VK)(_:XK):Prop
 | mk (a:Int)(r:Addr)(l:ń)(_:vs=[.int a,.ref r])(_:mj K H r (l.map zad))(_:Q (.int (Vl.Dv a l)) H)
def rG:Df P w K mg base 2 "divisor_of_all" ["first","others"] (Rn K):=by
 refine mX T.zie vP fun f cdv A outer s H vs Q E hr nd h=>?_;obtain⟨a,r,l,rfl,hl,q⟩:=h;refine⟨_,(lE (mE 2 nd (mZ qM lD T.zjr zew (mT (pv 0)))) (lE (nh aO Z (mQ (pv 1)) (nW 3 nd) (lL (mE 2 nd (mD (yS T) hr (mJ (pv 2) (pv 3)))))) (lL (ma (pv 2))))),xi ?_⟩;intros;refine⟨_,Z,_,Z,_,Z,r,Z,⟨_,hl⟩,?_⟩;refine om (xs:=l.map zad) (fun i σ H2=>H2=H/\∃o:œ,σ=[some (.int a),some (.ref r),some (.int (Vl.Dg (zex a) (l.take i))),o]) ⟨Z,none,Z⟩ (fun i σ H2 _ z=>by rw[z.1];exact hl) ?_ ?_
 .rintro i x σ H2 hx ⟨rfl,o,rfl⟩;obtain⟨u,rfl,hu⟩:=int_at hx;refine⟨_,Z,_,Z,_,_,Z,Z,some (.int u),?_⟩;rw[zcg hu,Vl.NB];rfl
 .rintro σ H2 ⟨rfl,o,rfl⟩;rw[aa,b5];exact⟨_,Z,q⟩
inductive No (K:zfq)(vs:ň)(H:Hp)(Q:VK)(_:XK):Prop
 | mk (r:Addr)(a:ń)(n B C:Nat)(b:Int)(_:vs=[.ref r,.int b])(_:mj K H r (a.map zad))(_:a.length=n)(_:1<=n)(_:n<=420)(_:b≠0)(_:b.natAbs<2^C)(_:C<=9000)(_:zbz (2^B) a)(_:∀t H' (m:Nat) ws c,lO H H'->H t=none->qJ H' t m ws c->zdq n (zaw a) b m ws c->zbz (2^(8+B)) ws->Q (.ref t) H')
def vy:Df P w K mg base 7 "value" ["load","bottom"] (No K):=by
 refine mX T.zid Lz fun f cdv A outer s H vs Q E hr nd h=>?_;obtain⟨r,a,n,B,C,β,rfl,ha,la,n1,n2,β0,βC,C9,bd,q⟩:=h;refine⟨_,(lE (nw (nQ pX (pv 1) lJ) (lL rj) mR) (lE (mE 2 nd (mF mv (mD (FH T) hr (mT (pv 0))) lJ)) (lE (mE 3 nd (pM T.zji (pv 2))) (lE (mE 4 nd (mD (rG T) hr (mJ (pv 3) (oX [] ["hole","weight"] (qE lD T.zju (mT (pv 2))) (fun C s H fp=>⟨(tQ 0 1),(xR (nQ qK (pv 1) lJ)),(pv 0)⟩))))) (lE (mE 5 nd (HV (K:=K) Z (pv 2) (pB (pv 4)))) (lE (mE 6 nd (mD (rG T) hr (mJ (pv 1) (pv 5)))) (FA (nw (nQ FU (pv 1) lJ) (lL (mE 6 nd (tD qO (pv 6)))) mR) (lL (ma (nE (lG (lY mS (pv 3) (pv 4)) (lG (pC zF lD T.zjn L2.yC (mT (oX [("by",6)] ["weight"] (mQ (pv 5)) (fun C s H fp=>⟨(qo 1),mL,(lY CW (pv 1) (pv 0))⟩)))) (lG (lY CW (pv 1) (pv 6)) mB))))))))))))),Wx ?_⟩;intros;refine⟨_,Z,Z,_,Z,?_⟩;refine oS (fun c=>absurd (xt c) β0) (fun c=>?_);refine⟨_,Z,r,a,n,Z,ha,la,n1,n2,fun tA SD roA HA bA psA lA zfZ smA ftA flA frA htA Xq Xr Wd bvA _ _=>⟨tA,_,_,_,Z,Z,mW.of htA,(show oi [zbb SD,zbb roA] 0=some (.ref SD) from Z),?_⟩⟩;have bv':∀x,zaw bA x=Vl.oj n (zaw a) x:=fun x=>by rw[Vl.oN Wd];exact bvA x
 obtain⟨s0,m,es,s1,m1,en,dn,tl⟩:=Vl.told n1 la Xr bv' β0;have sn:s0<=n:=by rw[en];exact cM _ m1
 refine⟨_,Z,SD,_,Z,.inl (mj.of Xq),?_⟩;rw[v6 Xr];refine⟨_,Z,_,Z,SD,Z,⟨_,mj.of Xq⟩,?_⟩;refine ug (K:=K) (xs:=bA.map zad) (fun i ys H2=>lO HA H2/\ys=(Vl.hs bA i).map zad) ⟨lO.refl _,Z⟩ (fun i ys H2 _ z=>z.1.seq (mj.of Xq))
  (fun i ys H2 hi z=>by rw[z.2,aa];have:=Vl.D3 bA i;rw[aa] at hi;exact oq lC) ?_ ?_
 .rintro i x ys H2 p hx ⟨sm,rfl⟩ hp;obtain⟨u,rfl,hu⟩:=int_at hx;have eu:zaw bA i=u:=zdt hu;refine⟨p,_,Z,mW.of lH,Z,_,_,Z,_,_,Z,Z,_,Z,Z,_,Z,?_⟩;refine oS (fun c=>?_) (fun c=>?_)
  .refine⟨_,Z,lQ sm hp,?_⟩;rw[Vl.Be,eu,ah (OV c),aQ];rfl
  .refine⟨lQ sm hp,?_⟩;rw[Vl.Be,eu,aA (Hu c),gH]
 rintro ys H2 ⟨nZ,rfl⟩ dd hdd;rw[v6 Xr];refine⟨_,dd,_,Z,mj.of lH,?_⟩;rw[es];have Mi:lO HA (upd H2 dd (.lst ((Vl.hs bA n).map zad))):=lQ nZ hdd;generalize upd H2 dd (.lst ((Vl.hs bA n).map zad))=HB at Mi ⊢;refine⟨_,Z,_,Z,_,Z,SD,bA,n,m,s0,Z,Z,mj.of (Mi _ _ Xq),Xr,s1,m1,en,fun wq hwq=>?_⟩;have eW:((ŭ m).map fun (t:Nat)=>zaw bA (((0:Nat):Int)+(t:Int)*s0))=zdc bA m s0:=Z;rw[eW];have Pr:lO HA (upd HB wq (.lst ((zdc bA m s0).map zad))):=lQ Mi hwq;have Xs:upd HB wq (.lst ((zdc bA m s0).map zad)) wq=some (.lst ((zdc bA m s0).map zad)):=lH;refine⟨_,Z,_,Z,β,wq,zdc bA m s0,Z,mj.of Xs,?_⟩;generalize upd HB wq (.lst ((zdc bA m s0).map zad))=HC at Pr Xs ⊢;obtain⟨hh,eh⟩:∃h:Int,h=if β<0 then -Vl.Dv β (zdc bA m s0) else Vl.Dv β (zdc bA m s0):=⟨_,Z⟩;obtain⟨h0,hβ,hw,hle,tp⟩:=tl hh eh;refine⟨fun σ H'=>H'=HC/\σ=[some (.ref r),some (.int β),some (.ref SD),some (.int n),some (.int s0),some (.ref wq),some (.int hh)],?_,?_⟩
 .refine⟨_,Z,_,_,Z,Z,_,Z,?_⟩;refine oS (fun c=>?_) (fun c=>?_)
  .refine⟨_,Z,_,Z,Z,?_⟩;rw[eh,aA (dec c)];rfl
  .refine⟨Z,?_⟩;rw[eh,ah (xy c)];rfl
 rintro σ H' ⟨rfl,rfl⟩;refine⟨_,Z,_,Z,_,_,Z,Z,m8 lC lC,?_⟩;dsimp only;rw[dn];refine⟨_,Z,wq,Z,⟨_,mj.of Xs⟩,?_⟩;refine qB (K:=K) (xs:=(zdc bA m s0).map zad) (fun i ys H2=>H2=H'/\ys=(((zdc bA m s0).map (· / hh)).take i).map zad) ⟨Z,lB⟩ (fun i ys H2 _ z=>by rw[z.1];exact mj.of Xs)
  (fun i ys H2 hi z=>by rw[z.2];simp only[š,ŷ,Vl.uq] at hi ⊢;have:m<=n:=(by rw[en];exact Nat.le_mul_of_pos_right _ s1);exact oq lC) ?_ ?_
 .rintro i x ys H2 hx ⟨rfl,rfl⟩;obtain⟨u,rfl,hu⟩:=int_at hx;refine⟨_,Z,_,Z,_,_,Z,Z,GM h0 (hw _ (ao hu)) (bL hle βC) C9,Z,?_⟩;rw[og (v:=u/hh)];rw[af,hu];rfl
 rintro ys H2 ⟨rfl,rfl⟩ dt hdt;rw[oz lB];refine⟨dt,_,Z,.inl ⟨mj.of lH,fun u hu=>?_⟩⟩;have Xp:lO H2 (upd (upd H2 dt (.lst (((zdc bA m s0).map (· / hh)).map zad))) u (.tup (((zdc bA m s0).map (· / hh)).map zad))):=lQ (lQ (lO.refl _) hdt) hu;have huD:upd (upd H2 dt (.lst (((zdc bA m s0).map (· / hh)).map zad))) u (.tup (((zdc bA m s0).map (· / hh)).map zad)) u=some (.tup (((zdc bA m s0).map (· / hh)).map zad)):=lH;generalize upd (upd H2 dt (.lst (((zdc bA m s0).map (· / hh)).map zad))) u (.tup (((zdc bA m s0).map (· / hh)).map zad))=HD at Xp huD ⊢;refine⟨_,Z,_,Z,_,_,Z,Z,GM h0 hβ (bL hle βC) C9,me,fun t ht=>?_⟩;have smE:=(smA.trans Pr).trans Xp;exact q t _ m _ _ (lQ smE ht) (smE.free ht) ⟨u,lH,(mi (mh huD ht)).trans huD⟩ tp (Vl.NT Wd n2 bd bvA hh)
inductive G8 (K:zfq)(vs:ň)(H:Hp)(Q:VK)(_:XK):Prop
 | mk (r s:Addr)(ps:ľ)(b:ń)(x:Int)(B C:Nat)(_:vs=[.ref r,.ref s,.int x])(_:Di H r ps)(_:mj K H s (b.map zad))(_:1<=b.length)(_:b.length<=420)(_:ps.length<=420)(_:∀p∈ps,p.2.natAbs<=2^B)(_:zbz (2^C) b)(_:B+C<=1000000)(_:∀H',lO H H'->Q (.int (ps.map fun p=>p.2*zaw b (x-p.1)).sum) H')
def EL:Df P w K mg base 1 "brought" ["borne","other","place"] (G8 K):=by
 refine mX T.zgg D7 fun f cdv A outer s H vs Q E hr nd h=>?_;obtain⟨r,s',ps,b,x,B,C,rfl,⟨as,hl,pr⟩,hb,b1,b2,pz,pb,bb,bc,q⟩:=h;have al:=fK pr;refine⟨_,(lE (mE 3 nd (pM T.zji (pv 1))) (lL (ma (mZ (wO Z) lD T.zjv L2.E5 (mT (oX [("other",1),("n",3),("place",2)] ["hole","weight"] (mQ (pv 0)) (fun C s H fp=>⟨(tQ 3 4),mL,(lY mH (pv 4) (mF (qI (K:=K) Z) (pv 0) (lY m3 (lY oU (pv 2) (pv 3)) (pv 1))))⟩))))))),_,Z,s',_,Z,.inl hb,_,Z,r,Z,⟨_,mj.of hl⟩,?_⟩;refine qB (K:=K) (xs:=as.map zbb) (fun i rs H2=>H2=H/\rs=((ps.take i).map fun p=>p.2*zaw b (x-p.1)).map zad) ⟨Z,lB⟩ (fun i rs H2 _ z=>by rw[z.1];exact mj.of hl)
  (fun i rs H2 hi z=>by rw[aa] at hi;rw[z.2];simp only[š,ŷ];exact oq lC) ?_ ?_
 .rintro i xv rs H2 hx ⟨rfl,rfl⟩;obtain⟨a,rfl,ea⟩:=rh hx;obtain⟨⟨hj,wj⟩,ep,ha⟩:=m9 pr ea;refine⟨a,_,Z,mW.of ha,Z,_,_,Z,_,_,Z,Z,?_⟩;have bl:(b.map zad).length=b.length:=aa _;refine⟨_,Z,_,Z,_,Z,_,Z,_,_,Z,Z,_,Z,_,_,Z,Z,by rw[bl];omega,s',_,_,_,Z,Z,hb,by rw[bl];exact xU Z lC _,_,_,Z,Z,Nr (pb _ (ao ep)) (zev bb _) bc,Z,?_⟩;rw[k5,ep,aQ,aQ];rfl
 .rintro rs H2 ⟨rfl,rfl⟩ D hD;have et:ps.take (as.map zbb).length=ps:=by rw[aa,al,b5]
  rw[et];exact⟨D,_,Z,mj.of lH,q _ (lQ (lO.refl _) hD)⟩
inductive Re (K:zfq)(vs:ň)(H:Hp)(Q:VK)(_:XK):Prop
 | mk (r s:Addr)(a b:ń)(m B C:Nat)(_:vs=[.ref r,.ref s])(_:mj K H r (a.map zad))(_:mj K H s (b.map zad))(_:a.length=m)(_:b.length=m)(_:1<=m)(_:m<=420)(_:zbz (2^B) a)(_:zbz (2^C) b)(_:B+C<=1000000)(_:∀t H',lO H H'->H t=none->H' t=some (.lst ((zef a b).map zad))->Q (.ref t) H')
def EQ:Df P w K mg base 2 "laid_on" ["one","other"] (Re K):=by
 refine mX T.zgf D8 fun f cdv A outer s H vs Q E hr nd h=>?_;obtain⟨r,s',a,b,m,B,C,rfl,ha,hb,la,lb,m1,m2,ba,bb,bc,q⟩:=h;refine⟨_,(lE (oO (mD (qT T) hr (mJ (pv 0) (pv 1)))) (lE (mE 2 nd (oX [] ["hole","weight"] (qE lD T.zju (mT (pv 0))) (fun C s H fp=>⟨(tQ 0 1),(xR (nQ qK (pv 1) lJ)),(nE (mJ (pv 0) (pv 1)))⟩))) (lL (ma (oX [("borne",2),("other",1)] ["place"] (nK lD T.zjo (mT (pM T.zji (pv 1)))) (fun C s H fp=>⟨(qo 2),mL,(mD (EL T) hr (lG (pv 0) (lG (pv 1) (lG (pv 2) mB))))⟩)))))),_,Z,_,Z,r,s',_,_,Z,ha,hb,by rw[aa,aa,la,lb],_,Z,r,Z,⟨_,ha⟩,?_⟩;refine ug (K:=K) (xs:=a.map zad) (fun i rs H2=>lO H H2/\∃as:ŋ,rs=as.map zbb/\Paired (fun c (x:Int×Int)=>H2 c=some (.tup [.int x.1,.int x.2])) as (zfg a i)) ⟨lO.refl H,[],Z,.nil⟩ (fun i rs H2 _ z=>z.1.seq ha)
  (fun i rs H2 hi z=>by
   obtain⟨_,as,rfl,pr⟩:=z;have:=fK pr;have:=Ld.Ei a i;rw[aa] at hi ⊢;exact oq lC) ?_ ?_
 .rintro i xv rs H2 p hx ⟨sm,as,rfl,pr⟩ hp;obtain⟨u,rfl,hu⟩:=int_at hx;have eu:zaw a i=u:=zdt hu;refine⟨p,_,Z,mW.of lH,Z,_,_,Z,_,_,Z,Z,_,Z,Z,_,Z,?_⟩;have keep:∀{H':Hp}{o:HO}{c:Addr},H' c=none->Paired (fun c (x:Int×Int)=>H' c=some (.tup [.int x.1,.int x.2])) as (zfg a i)->Paired (fun d (x:Int×Int)=>upd H' c o d=some (.tup [.int x.1,.int x.2])) as (zfg a i) :=
   fun hc pr=>Paired.uB pr fun d x e=>(mi (mh e hc)).trans e
  refine oS (fun c=>?_) (fun c=>?_)
  .have ne:¬u=0:=OV c;refine⟨_,Z,_,Z,lR,fun t ht=>?_⟩;refine⟨lQ (lQ sm hp) ht,as++[t],by rw[aQ];rfl,?_⟩;rw[Ld.xP,eu,ah ne];exact i6 (keep ht (keep hp pr)) lH
  .have z:u=0:=Hu c;refine⟨lQ sm hp,as,Z,?_⟩;rw[Ld.xP,eu,aA z,gH];exact keep hp pr
 rintro rs H2 ⟨sm,as,rfl,pr⟩ bo hbo;rw[aa,la] at pr;have SE:mj K (upd H2 bo (.lst (as.map zbb))) s' (b.map zad):=(lQ sm hbo).seq hb;have pa:Di (upd H2 bo (.lst (as.map zbb))) bo (zfg a m):=⟨as,lH,Paired.uB pr fun d x e=>(mi (mh e hbo)).trans e⟩;have nS:lO H (upd H2 bo (.lst (as.map zbb))):=lQ sm hbo;generalize upd H2 bo (.lst (as.map zbb))=H3 at SE pa nS ⊢;have bl:(b.map zad).length=m:=v6 lb;refine⟨_,Z,s',_,Z,.inl SE,_,Z,by rw[bl];omega,by rw[bl];omega,?_⟩;rw[bl,ae];have nl:=Ld.Ei a m;refine rH (fun i rs H4=>lO H3 H4/\rs=((zef a b).take i).map zad) ⟨lO.refl _,lB⟩
  (fun i rs H4 hi z=>by rw[z.2];simp only[š,ŷ];exact oq lC) ?_ ?_
 .rintro i rs H4 hi ⟨sm4,rfl⟩;have pa4:Di H4 bo (zfg a m):=let ⟨as,h1,h2⟩:=pa;⟨as,sm4 _ _ h1,Paired.uB h2 fun d x e=>sm4 _ _ e⟩;refine⟨_,Z,_,Z,_,Z,bo,s',_,b,_,B,C,Z,pa4,sm4.seq SE,lC,lC,lC,fun p hp=>Ld.UR ba hp,bb,bc,fun H5 pH=>⟨sm4.trans pH,?_⟩⟩;rw[Ld.LD,og (v:=zag m fun j=>zaw a j*zaw b ((i:Int)-j))];rw[Ld.Bc (by rw[Ld.oH];omega),Ld.sy lb lC]
 .rintro rs H4 ⟨sm4,rfl⟩ D hD;rw[oz (by rw[Ld.oH,lb])];exact q D _ (lQ (nS.trans sm4) hD) ((nS.trans sm4).free hD) lH
inductive N6 (K:zfq)(vs:ň)(H:Hp)(Q:VK)(_:XK):Prop
 | mk (r:Addr)(a:ń)(m q:Nat)(_:vs=[.ref r,.int q])(_:mW K H r (a.map zad))(_:a.length=m)(_:1<=m)(_:1<=q)(_:q*m<=420)(_:∀t H',lO H H'->H t=none->H' t=some (.lst ((zbm a q).map zad))->Q (.ref t) H')
def Jz:Df P w K mg base 1 "finer" ["load","many"] (N6 K):=by
 refine mX T.zgh IW fun f cdv A outer s H vs Q E hr nd h=>?_;obtain⟨r,a,m,q,rfl,ha,la,m1,q1,N2,k⟩:=h;have qle:q<=q*m:=jD _ m1;obtain⟨N,hN⟩:∃N,N=q*m:=⟨_,Z⟩;have N1:1<=N:=by rw[hN];exact dI q1 m1
 refine⟨_,(lE (mE 2 nd (lY mH (pv 1) (pM T.zji (pv 0)))) (lE (nw (nQ uO (pv 2) (uk (v:=.int 420) lD T.zft ⟨_,Z⟩)) (lL rj) mR) (lE (mE 3 nd (lY re (nY (mT lJ)) (pv 2))) (lE (nh aO Z (JY lD T.zju (mT (pv 0))) (oY Z (mI (nW 4 nd) (mI (nW 5 nd) oe))) (lL (rz (pv 5) (qZ (pv 3) (lY mH (pv 1) (pv 4)) set_list)))) (lL (ma (pv 3))))))),?_⟩;refine R4 ?_;intros;refine⟨_,Z,_,Z,r,_,Z,.inr ha,_,_,Z,Z,n5 lC lC,?_⟩;dsimp only;rw[v6 la,<-aI,<-hN];refine⟨_,Z,_,_,Z,Z,_,Z,?_⟩;refine oS (fun c=>absurd (dec c) lC) (fun c=>?_);refine⟨lI,fun l hl=>⟨_,Z,l,_,_,Z,Z,lH,lC,lC,(by show 1*_<=_;exact pO lC),fun du G3=>?_⟩⟩;rw[rep0];have OF:l≠du:=mh lH G3;have DS:H du=none:=by rwa [mi (dR OF)] at G3
 have rE:lO H (upd (upd H l (.lst [zad 0])) du (.lst ((ş N (0:Int)).map zad))):=mO (mO (lO.refl H) hl) DS;have G4:upd (upd H l (.lst [zad 0])) du (.lst ((ş N (0:Int)).map zad)) du=some (.lst ((ş N (0:Int)).map zad)):=lH;generalize upd (upd H l (.lst [zad 0])) du (.lst ((ş N (0:Int)).map zad))=H0 at rE G4 ⊢;refine⟨_,Z,r,Z,⟨_,rE.UJ ha⟩,?_⟩;refine Io (K:=K) (xs:=a.map zad) (fun i σ H2=>lO H H2/\∃(o:ń)(o1 o2:œ),σ=[some (.ref r),some (.int q),some (.int N),some (.ref du),o1,o2]/\H2 du=some (.lst (o.map zad))/\o.length=N/\(∀k:Nat,k<i->zaw o ((q:Int)*k)=zaw a k)/\(∀x:Int,(∀k:Nat,k<i->x%N≠q*k)->zaw o x=0))
  ⟨rE,ş N 0,none,none,Z,G4,lB,fun k hk=>by omega,fun x _=>Ld.Ey N x⟩ (fun i σ H2 _ z=>z.1.UJ ha) ?_ ?_
 .rintro i x σ H2 p hx ⟨sm,o,o1,o2,rfl,hd,ol,inv1,inv2⟩ hp;obtain⟨u,rfl,hu⟩:=int_at hx;have eu:zaw a i=u:=zdt hu;have hi:i<m:=by rw[<-la];exact(aJ.mp hu).1
  have qi:((q:Int)*i)%N=q*i:=by
   refine aT (bF lC lC) ?_;rw[hN,aI];exact ia lC lC
  refine⟨p,_,Z,mW.of lH,Z,_,_,Z,_,_,Z,Z,_,Z,_,Z,_,Z,_,Z,_,_,Z,Z,n5 lC lC,du,_,_,_,Z,Z,(mi (mh hd hp)).trans hd,Km (v6 ol) N1 qi,?_⟩;rw[set_int,<-eu];have ff:=Ld.Qf ol hN q1 hi inv1 inv2;exact⟨mO (lQ sm hp) DS,_,_,_,Z,lH,by rw[cI,ol],ff.1,ff.2⟩
 .rintro σ H2 ⟨sm,o,o1,o2,rfl,hd,ol,inv1,inv2⟩;rw[aa,la] at inv1 inv2;subst hN;rw[Ld.IB la m1 q1 ol inv1 inv2] at hd;exact⟨_,Z,k du H2 sm DS hd⟩
inductive Yt (vs:ň)(H:Hp)(Q:VK)(_:XK):Prop
 | mk (t:Addr)(m q:Nat)(ws:ń)(c:Int)(_:vs=[.ref t,.int ((q*m:Nat):Int)])(_:qJ H t m ws c)(_:ws.length=m)(_:1<=m)(_:1<=q)(_:q*m<=420)(_:∀r H',lO H H'->H r=none->H' r=some (.lst ((zbm ws q).map zad))->Q (.ref r) H')
def JI:Df P w K mg base 2 "on" ["x","n"] Yt:=by
 refine mX T.zig UM fun f cdv A outer s H vs Q E hr nd h=>?_;obtain⟨t,m,q,ws,cc,rfl,⟨u,ht,hu⟩,lw,m1,q1,N2,k⟩:=h;have mle:=cM m q1;have dq:((q*m:Nat):Int)/(m:Int)=q:=by rw[aI];exact gA _ lC
 have dm:((q*m:Nat):Int)%(m:Int)=0:=by rw[aI];exact kq _ _
 refine⟨_,(lE (nw (nQ qK (lY m3 (pv 1) (mF mv (pv 0) lJ)) lJ) (lL rj) mR) (lL (ma (mD (Jz T) hr (mJ (mF mv (pv 0) lJ) (lY mS (pv 1) (mF mv (pv 0) lJ))))))),zo ?_⟩;intros;refine⟨_,Z,_,Z,t,_,_,_,Z,Z,mW.of ht,FJ _ _ _,_,_,Z,Z,(show (0:Int)<(m:Int) by omega),Z,_,Z,Ar (cA zad dm) ?_⟩;refine⟨_,Z,t,_,_,_,Z,Z,mW.of ht,UA _ _ _,_,Z,_,Z,t,_,_,_,Z,Z,mW.of ht,FJ _ _ _,_,_,Z,Z,m8 lC lC,?_⟩;dsimp only;rw[dq];exact⟨u,ws,m,q,Z,mW.of hu,lw,m1,q1,N2,k⟩
inductive Kw (vs:ň)(H:Hp)(Q:VK)(_:XK):Prop
 | mk (m m':Nat)(_:vs=[.int m,.int m'])(_:1<=m)(_:1<=m')(_:m<=420)(_:m'<=420)(_:Q (.int (ă m m':Nat)) H)
def Ir:Df P w K mg base 2 "joint" ["one","other"] Kw:=by
 obtain⟨f,fd,F,rr⟩:=(CZ (P:=P) (w:=w) (base:=base) T).ex;refine⟨f,fd,F.imp fun vs H Q E h=>?_,rr⟩;obtain⟨m,m',e,m1,IV,m2,m2',q⟩:=h;have e9:(2:Int)^9=512:=L;refine⟨m,m',9,e,O,O,by rw[e9];lia,by rw[e9];lia,L,fun j j1 d1 d2 um=>?_⟩;have ej:j=(ă m m':Nat):=by
  have a:=um (ă m m':Nat) (dE.mpr (Ķ ..)) (dE.mpr (Į ..));obtain⟨J,rfl⟩:=ü (show 0<=j by lia);have b:ă m m'∣J:=Nat.lcm_dvd (dE.mp d1) (dE.mp d2);rw[Nat.dvd_antisymm (dE.mp a) b]
 rw[ej];exact q
inductive ZL (vs:ň)(H:Hp)(Q:VK)(_:XK):Prop
 | mk (t t':Addr)(m m':Nat)(ws pT:ń)(c c':Int)(_:vs=[.ref t,.ref t'])(_:qJ H t m ws c)(_:qJ H t' m' pT c')(_:1<=m)(_:1<=m')(_:m<=420)(_:m'<=420)(_:ă m m'<=420)(_:Q (.int (ă m m':Nat)) H)
def uc:Df P w K mg base 3 "joint_wheel" ["x","y"] ZL:=by
 refine mX T.zih y3 fun f cdv A outer s H vs Q E hr nd h=>?_;obtain⟨t,t',m,m',ws,pT,c,c',rfl,⟨u,ht,hu⟩,⟨u',Cj,IN⟩,m1,IV,m2,m2',l2,q⟩:=h;refine⟨_,(lE (mE 2 nd (mD (Ir T) hr (mJ (mF mv (pv 0) lJ) (mF mv (pv 1) lJ)))) (lE (nw (nQ uO (pv 2) (uk (v:=.int 420) lD T.zft ⟨_,Z⟩)) (lL rj) mR) (lL (ma (pv 2))))),xi ?_⟩;intros;refine⟨_,Z,t,_,_,_,Z,Z,mW.of ht,FJ _ _ _,_,Z,t',_,_,_,Z,Z,mW.of Cj,FJ _ _ _,m,m',Z,m1,IV,m2,m2',_,Z,_,_,Z,Z,_,Z,?_⟩;refine oS (fun c=>absurd (dec c) lC) (fun c=>?_);exact⟨_,Z,q⟩
inductive LS (vs:ň)(H:Hp)(Q:VK)(_:XK):Prop
 | mk (t t':Addr)(m q B C:Nat)(m':Int)(ws pT:ń)(c c':Int)(_:vs=[.ref t,.ref t',.int ((q*m:Nat):Int)])(_:qJ H t m ws c)(_:qJ H t' m' pT c')(_:ws.length=m)(_:1<=m)(_:1<=q)(_:q*m<=420)(_:zbz (2^B) ws)(_:c'.natAbs<=2^C)(_:B+C<=1000000)(_:∀r H',lO H H'->H r=none->H' r=some (.lst ((zbj (zbm ws q) c').map zad))->Q (.ref r) H')
def Ac:Df P w K mg base 3 "raised" ["x","y","n"] LS:=by
 refine mX T.zii He fun f cdv A outer s H vs Q E hr nd h=>?_;obtain⟨t,t',m,q,B,C,m',ws,pT,c,c',rfl,vt,Mz,lw,m1,q1,N2,bw,bc,BC,k⟩:=h;refine⟨_,(lL (ma (mD (wm T) hr (mJ (mD (JI T) hr (mJ (pv 0) (pv 2))) (mF mv (pv 1) lJ))))),_,Z,_,Z,t,m,q,ws,c,Z,vt,lw,m1,q1,N2,fun r1 H1 nS f1 h1=>?_⟩;obtain⟨u',Cj,IN⟩:=Mz.same nS;have bf:zbz (2^B) (zbm ws q):=Ld.yJ bw (by rw[lw];exact m1) q1;have lf:(zbm ws q).length=q*m:=by rw[zed,lw]
 refine⟨_,Z,t',_,_,_,Z,Z,mW.of Cj,CH _ _ _,r1,_,_,Z,mj.of h1,by rw[lf];exact N2,fun x hx=>Nr (bf x hx) bc BC,fun r2 H2 nZ f2 h2=>?_⟩;exact k r2 H2 (nS.trans nZ) (nS.free f2) h2
inductive MH (vs:ň)(H:Hp)(Q:VK)(_:XK):Prop
 | mk (t t':Addr)(J m m' B C:Nat)(ws pT:ń)(c c':Int)(f g:ř)(b d:Int)(_:vs=[.ref t,.ref t'])(_:qJ H t m ws c)(_:qJ H t' m' pT c')(_:zdq J f b m ws c)(_:zdq J g d m' pT c')(_:1<=J)(_:J<=420)(_:b≠0)(_:d≠0)(_:zbz (2^B) ws)(_:zbz (2^B) pT)(_:c.natAbs<2^C)(_:c'.natAbs<2^C)(_:B+C<=1000000)(_:C+C<=9000)(_:∀r H' (M:Nat) W D,lO H H'->H r=none->qJ H' r M W D->zdq J (fun x=>d*f x+b*g x) (b*d) M W D->zbz (2^(8+(B+C+1))) W->D.natAbs<2^(C+C)->zdq (ă m m') (zaw (zdb (zbj (zbm ws (ă m m'/m)) c') (zbj (zbm pT (ă m m'/m')) c))) (c*c') M W D->Q (.ref r) H')
def Kd:Df P w K mg base 8 "added" ["x","y"] MH:=by
 refine mX T.zij LK fun f cdv A outer s H vs Q E hr nd h=>?_;obtain⟨t,t',J,m,m',B,C,ws,pT,c,c',f',g',b,d,rfl,vt,Mz,tp,Cb,J1,J2,b0,d0,bw,Xu,cC,OG,BC,CC,k⟩:=h;obtain⟨l,p,q,q',We,l1,p1,q1,IG,el,DP,eJ⟩:=Vl.JE J1 tp.mn Cb.mn;have l2:l<=420:=aS (by rw[eJ];exact cM l p1) J2;have m1:=tp.pln.n1;have IV:=Cb.pln.n1;have c1:=tp.pln.c1;have zC:=Cb.pln.c1;have ml:m<=l:=by rw[el];exact cM m q1
 have ml':m'<=l:=by rw[DP];exact cM m' IG
 refine⟨_,(lE (mE 2 nd (mD (uc T) hr (mJ (pv 0) (pv 1)))) (lL (ma (mD (vy T) hr (mJ (mD (FP T) hr (mJ (mD (Ac T) hr (lG (pv 0) (lG (pv 1) (lG (pv 2) mB)))) (mD (Ac T) hr (lG (pv 1) (lG (pv 0) (lG (pv 2) mB)))))) (lY mH (mF mv (pv 0) lJ) (mF mv (pv 1) lJ))))))),zo ?_⟩;intros;refine⟨_,Z,_,Z,t,t',m,m',ws,pT,c,c',Z,vt,Mz,m1,IV,lC,lC,lC,?_⟩;rw[We];refine⟨_,Z,_,Z,_,Z,t,t',m,q,B,C,m',ws,pT,c,c',by rw[<-el];rfl,vt,Mz,tp.len,m1,q1,lC,bw,cK OG,BC,fun r1 H1 nS f1 h1=>?_⟩;refine⟨_,Z,_,Z,_,Z,t',t,m',q',B,C,m,pT,ws,c',c,by rw[<-DP];rfl,Mz.same nS,vt.same nS,Cb.len,IV,IG,lC,Xu,cK cC,BC,fun r2 H2 nZ f2 h2=>?_⟩;have lf:(zbj (zbm ws q) c').length=l:=by rw[zfm,zed,tp.len,el]
 have Ff:(zbj (zbm pT q') c).length=l:=by rw[zfm,zed,Cb.len,DP]
 refine⟨r1,r2,_,_,Z,mj.of (nZ _ _ h1),mj.of h2,by rw[lf,Ff],by rw[lf];exact l2,fun r3 H3 nJ f3 h3=>?_⟩;have rW:=(nS.trans nZ).trans nJ;obtain⟨u,ht,hu⟩:=vt.same rW;obtain⟨u',Cj,IN⟩:=Mz.same rW;have bp:zbz (2^(B+C+1)) (zdb (zbj (zbm ws q) c') (zbj (zbm pT q') c)):=Ld.KS (by rw[lf,Ff]) (Ld.yG (Ld.yJ bw (by rw[tp.len];exact m1) q1) (cK OG)) (Ld.yG (Ld.yJ Xu (by rw[Cb.len];exact IV) IG) (cK cC));refine⟨_,Z,t,_,_,_,Z,Z,mW.of ht,CH _ _ _,_,Z,t',_,_,_,Z,Z,mW.of Cj,CH _ _ _,_,_,Z,Z,Nr (cK cC) (cK OG) lC,r3,_,l,B+C+1,C+C,_,Z,mj.of h3,by rw[Ld.p9 (by rw[lf,Ff]),lf],l1,l2,zfh lC lC,Vl.xQ cC OG,CC,bp,fun r4 H4 M W D sm4 f4 v4 t4 b4=>?_⟩;refine k r4 H4 M W D (rW.trans sm4) (rW.free f4) v4 (tp.sum Cb l1 p1 q1 IG el DP eJ b0 d0 t4) b4 ?_ ?_
 .have dd:D.natAbs<=(c*c').natAbs:=fG (by have:=zfh (show c≠0 by omega) (show c'≠0 by omega);omega) (aU.mpr t4.cb);exact bL dd (Vl.xQ cC OG)
 .rw[We,show l/m=q by rw[el];exact ig _ m1,show l/m'=q' by rw[DP];exact ig _ IV];exact t4
inductive Nn (vs:ň)(H:Hp)(Q:VK)(_:XK):Prop
 | mk (t t':Addr)(J m m' B C:Nat)(ws pT:ń)(c c':Int)(f g:ř)(b d:Int)(_:vs=[.ref t,.ref t'])(_:qJ H t m ws c)(_:qJ H t' m' pT c')(_:zdq J f b m ws c)(_:zdq J g d m' pT c')(_:zbl J f)(_:zbl J g)(_:1<=J)(_:J<=420)(_:b≠0)(_:d≠0)(_:zbz (2^B) ws)(_:zbz (2^B) pT)(_:c.natAbs<2^C)(_:c'.natAbs<2^C)(_:B+B<=1000000)(_:C+C<=9000)(_:∀r H' (M:Nat) W D,lO H H'->H r=none->qJ H' r M W D->zdq J (zcu J f g) (b*d) M W D->zbz (2^(8+(B+B+9))) W->D.natAbs<2^(C+C)->zdq (ă m m') (zaw (zef (zbm ws (ă m m'/m)) (zbm pT (ă m m'/m')))) (c*c') M W D->Q (.ref r) H')
def KR:Df P w K mg base 8 "times" ["x","y"] Nn:=by
 refine mX T.zik Kk fun f cdv A outer s H vs Q E hr nd h=>?_;obtain⟨t,t',J,m,m',B,C,ws,pT,c,c',f',g',b,d,rfl,vt,Mz,tp,Cb,pf,pg,J1,J2,b0,d0,bw,Xu,cC,OG,BC,CC,k⟩:=h;obtain⟨l,p,q,q',We,l1,p1,q1,IG,el,DP,eJ⟩:=Vl.JE J1 tp.mn Cb.mn;have l2:l<=420:=aS (by rw[eJ];exact cM l p1) J2;have m1:=tp.pln.n1;have IV:=Cb.pln.n1;have c1:=tp.pln.c1;have zC:=Cb.pln.c1;have ml:m<=l:=by rw[el];exact cM m q1
 have ml':m'<=l:=by rw[DP];exact cM m' IG
 refine⟨_,(lE (mE 2 nd (mD (uc T) hr (mJ (pv 0) (pv 1)))) (lL (ma (mD (vy T) hr (mJ (mD (EQ T) hr (mJ (mD (JI T) hr (mJ (pv 0) (pv 2))) (mD (JI T) hr (mJ (pv 1) (pv 2))))) (lY mH (mF mv (pv 0) lJ) (mF mv (pv 1) lJ))))))),zo ?_⟩;intros;refine⟨_,Z,_,Z,t,t',m,m',ws,pT,c,c',Z,vt,Mz,m1,IV,lC,lC,lC,?_⟩;rw[We];refine⟨_,Z,_,Z,t,m,q,ws,c,by rw[<-el];rfl,vt,tp.len,m1,q1,lC,fun r1 H1 nS f1 h1=>?_⟩;refine⟨_,Z,_,Z,t',m',q',pT,c',by rw[<-DP];rfl,Mz.same nS,Cb.len,IV,IG,lC,fun r2 H2 nZ f2 h2=>?_⟩;have lf:(zbm ws q).length=l:=by rw[zed,tp.len,el]
 have Ff:(zbm pT q').length=l:=by rw[zed,Cb.len,DP]
 have bf:zbz (2^B) (zbm ws q):=Ld.yJ bw (by rw[tp.len];exact m1) q1;have bf':zbz (2^B) (zbm pT q'):=Ld.yJ Xu (by rw[Cb.len];exact IV) IG;refine⟨r1,r2,_,_,l,B,B,Z,mj.of (nZ _ _ h1),mj.of h2,lf,Ff,l1,l2,bf,bf',BC,fun r3 H3 nJ f3 h3=>?_⟩;have rW:=(nS.trans nZ).trans nJ;obtain⟨u,ht,hu⟩:=vt.same rW;obtain⟨u',Cj,IN⟩:=Mz.same rW;refine⟨_,Z,t,_,_,_,Z,Z,mW.of ht,CH _ _ _,_,Z,t',_,_,_,Z,Z,mW.of Cj,CH _ _ _,_,_,Z,Z,Nr (cK cC) (cK OG) lC,r3,_,l,B+B+9,C+C,_,Z,mj.of h3,by rw[Ld.oH,Ff],l1,l2,zfh lC lC,Vl.xQ cC OG,CC,Ld.KQ Ff l2 bf bf',fun r4 H4 M W D sm4 f4 v4 t4 b4=>?_⟩;refine k r4 H4 M W D (rW.trans sm4) (rW.free f4) v4 (tp.prod Cb pf pg l1 p1 q1 IG el DP eJ b0 d0 t4) b4 ?_ ?_
 .have dd:D.natAbs<=(c*c').natAbs:=fG (by have:=zfh (show c≠0 by omega) (show c'≠0 by omega);omega) (aU.mpr t4.cb);exact bL dd (Vl.xQ cC OG)
 .rw[We,show l/m=q by rw[el];exact ig _ m1,show l/m'=q' by rw[DP];exact ig _ IV];exact t4
inductive JN (vs:ň)(H:Hp)(Q:VK)(_:XK):Prop
 | mk (i:Int)(_:vs=[.int i])(_:∀r H',lO H H'->H r=none->qJ H' r 1 [i] 1->Q (.ref r) H')
def JW:Df P w K mg base 1 "whole" ["many"] JN:=by
 refine mX T.zif LQ fun f cdv A outer s H vs Q E hr nd h=>?_;obtain⟨i,rfl,q⟩:=h;refine⟨_,(lL (ma (nE (lG lJ (lG (nE (mT (pv 0))) (lG lJ mB)))))),_,Z,lI,fun u hu=>⟨me,fun t ht=>?_⟩⟩;have sm:lO H (upd H u (.tup [zad i])):=lQ (lO.refl _) hu;exact q t _ (lQ sm ht) (sm.free ht) ⟨u,lH,(mi (mh lH ht)).trans lH⟩
inductive Rh (K:zfq)(vs:ň)(H:Hp)(Q:VK)(_:XK):Prop
 | mk (t r s wt:Addr)(a W:ń)(bs:ĸ)(s0:Int)(n N M:Nat)(ps:ľ)(_:vs=[.ref t,.ref r,.ref s])(_:H r=some (.lst (a.map zad)))(_:nM H s bs)(_:a.length=n)(_:Bd N a)(_:∀y∈bs,y.length=n/\Bd N y)(_:1<=n)(_:n<=60)(_:N<=1000000)(_:M<=1000000)(_:zcs n ps)(_:H t=some (.tup [.str "bar",.ref wt,.int s0]))(_:H wt=some (.lst (W.map zad)))(_:W.length=n)(_:0<=s0)(_:Bd M W)(_:∀p st:Nat,((p:Nat):Int)∈ps.map ű->0<st->n=p*st->∀s:Int,0<=s->s<st->zag p (fun t=>zaw W (s+t*st))=0)(_:∀b∈bs,s0∣zbr b W)(_:¬s0∣zbr a W)(_:∀H',lO H H'->Q (.bl true) H')
def EN:Df P w K mg base 3 "_law_bar" ["told","load","blocks"] (Rh K):=by
 refine mX T.zit Ew fun f cdv A outer s H vs Q E hr nd h=>?_;obtain⟨t,r,s',wt,a,W,bs,s0,n,N,M,ps,rfl,ha,hS,la,bA,lb,n1,n2,N1,M1,hp,ht,hw,lW,s1,bW,zr,dv,ndv,q⟩:=h;obtain⟨as,h1,pa⟩:=id hS;have lp:=mw pa;have i1:oi [zdj "bar",zbb wt,zad s0] 1=some (.ref wt):=Z;have i2:oi [zdj "bar",zbb wt,zad s0] 2=some (.int s0):=Z;have ne1:s0≠1:=fun z=>ndv (by rw[z];exact g7 _);refine⟨_,(lE (mE 3 nd (pM T.zji (pv 1))) (lE (nw (PW.pt (vw (nQ qK (pM T.zji (pv 0)) lJ) (vw (qD (pJ (mZ pU lD T.zjj zfn (mJ (mF mv (pv 0) lJ) (ut (v:=.ty "list") lD T.zjm zee lD))))) (vw (nQ qK (pM T.zji (mF mv (pv 0) lJ)) (pv 3)) (yF (qD (pJ (mD (rQ T) hr (mT (mF mv (pv 0) lJ)))))))))) (lL (ma uV)) mR) (lE (nh aO Z (mQ (mF mv (pv 0) lJ)) (nW 4 nd) (lL (nw (qD (pJ (mD (rQ T) hr (mT (pv 4))))) (lL (ma uV)) mR))) (lE (nh aO Z (mQ (mD (uK T) hr (mT (pv 3)))) (nW 5 nd) (lL (nh aO Z (nK lD T.zjo (mT (lY mS (pv 3) (pv 5)))) (nW 6 nd) (lL (nw (nQ qK (mZ (wO Z) lD T.zjv L2.E5 (mT (oX [("told",0),("hole",6),("n",3),("p",5)] ["k"] (nK lD T.zjo (mT (pv 5))) (fun C s H fp=>⟨(qo 4),mL,(mF (qI (K:=K) Z) (mF (vQ (K:=K) Z) (pv 0) lJ) (lY mY (pv 1) (lY mH (pv 4) (lY mS (pv 2) (pv 3)))))⟩)))) lJ) (lL (ma uV)) mR))))) (lE (nh aO Z (mQ (pv 2)) (nW 7 nd) (lL (nw (qD (pJ (mD (Aj T) hr (mJ (mD (uR T) hr (mJ (pv 7) (mF mv (pv 0) lJ))) (mF mv (pv 0) lJ))))) (lL (ma uV)) mR))) (lL (ma (wb (oP OK (mF mv (pv 0) lJ) lJ (pQ _)) (wb (oP qK (mF mv (pv 0) lJ) lJ (pQ _)) (B8 (Le (mD (Aj T) hr (mJ (mD (uR T) hr (mJ (pv 1) (mF mv (pv 0) lJ))) (mF mv (pv 0) lJ)))))))))))))),R4 ?_⟩;intros;refine⟨_,Z,r,_,Z,.inl (mj.of ha),?_⟩;rw[aa,la]
 try dsimp only[nu,qx,qu]
 refine⟨_,Z,t,_,Z,.inr (mW.of ht),Z,_,Z,oQ (by show ¬(!decide (zad 3=zad 3))=true;simp) ?_⟩;refine⟨_,Z,t,_,_,_,Z,Z,mW.of ht,i1,_,_,_,true,Z,.lst hw,r9 _,true,Z,G6 ?_⟩;refine⟨_,Z,t,_,_,_,Z,Z,mW.of ht,i1,wt,_,Z,.inl (mj.of hw),_,Z,Z,_,Z,Ar (by rw[aa,lW]) ?_⟩;refine⟨_,Z,t,_,_,_,Z,Z,mW.of ht,i2,s0,Z,⟨_,Z,oQ L ?_⟩⟩;refine⟨_,Z,t,_,_,_,Z,Z,mW.of ht,i1,wt,Z,⟨_,mj.of hw⟩,om (xs:=W.map zad) (fun i σ H3=>H3=H/\∃o:œ,σ=[some (.ref t),some (.ref r),some (.ref s'),some (.int n),o,none,none,none]) ⟨Z,none,Z⟩ (fun i σ H3 _ z=>by rw[z.1];exact mj.of hw) ?_ ?_⟩
 .rintro i xv σ H3 hx ⟨rfl,o,rfl⟩;obtain⟨u,rfl,hu⟩:=int_at hx;exact⟨_,Z,u,Z,⟨_,Z,oQ L ⟨Z,_,Z⟩⟩⟩
 rintro σ H1 ⟨rfl,oo,rfl⟩;refine⟨_,Z,n,Z,n1,O,fun r1 H2 Ce oG f2 h2 VD=>⟨r1,Z,⟨_,mj.of h2⟩,?_⟩⟩;have RW:=Pt.se VD hp;subst RW;refine om (xs:=(Ce.map ű).map zad) (fun i σ H3=>lO H2 H3/\∃(o1 o2:œ),σ=[some (.ref t),some (.ref r),some (.ref s'),some (.int n),oo,o1,o2,none]) ⟨lO.refl _,none,none,Z⟩ (fun i σ H3 _ z=>z.1.seq (mj.of h2)) ?_ ?_
 .rintro i xv σ H3 hx ⟨nJ,o1,o2,rfl⟩;refine R5 ?_;intros;obtain⟨p,rfl,ep⟩:=int_at hx;have pm:p∈Ce.map ű:=ao ep;obtain⟨y,hy,ey⟩:=ţ.mp pm;have pd:p∣(n:Int):=by rw[<-ey];exact((zeb hp y).mp hy).2.1
  have p2:2<=p:=by rw[<-ey];exact(hp.row y hy).pr.1
  have pn:=aW O pd;obtain⟨st,AX,GZ,Ml,_⟩:=Rg.Bw n1 p2 pd;have stn:(st:Int)<=n:=by rw[<-AX];exact cx _ O
  refine⟨_,Z,_,Z,_,_,Z,Z,m8 O O,st,cA (fun z=>[zad z]) AX,O,O,?_⟩;refine oy (n:=st) (fun j σ H4=>lO H2 H4/\∃(o2:œ),σ=[some (.ref t),some (.ref r),some (.ref s'),some (.int n),oo,some (.int p),o2,none]) ⟨nJ,_,Z⟩ ?_ ?_
  .rintro j σ H4 hj ⟨sm4,o2,rfl⟩;have smW:=oG.trans sm4;have hW4:=smW _ _ hw;refine⟨_,Z,p.toNat,(by rw[cR O]),O,O,?_⟩;refine Ko (lo:=0) (n:=p.toNat) ((ŭ p.toNat).map fun (t:Nat)=>zaw W ((j:Int)+(t:Int)*st)) (by rw[aa,fZ]) O ?_ ?_
   .intro k H5 hk pH R kk;rw[eI];have bd:(j:Int)+(k:Int)*st<n:=by
     have a1:=ar (show (k:Int)<=p-1 by lia) (show 0<=(st:Int) by lia);have a2:(n:Int)=p*st:=by rw[Ml,aI,cR O]
     rw[cZ] at a1;lia
    have bd0:0<=(k:Int)*st:=bF O O;refine⟨_,Z,t,_,_,_,Z,Z,mW.of (pH _ _ (smW _ _ ht)),i1,_,Z,_,Z,_,Z,_,Z,_,_,Z,Z,m8 O O,_,_,Z,Z,n5 O O,_,_,Z,Z,?_⟩
    try dsimp only
    rw[AX];exact⟨wt,_,_,_,Z,Z,mj.of (pH _ _ hW4),AC O O,kk _ _ (lO.refl _) (by rw[af,dj hk];rfl)⟩
   .intro D H5 pH _ h5;refine⟨D,_,Z,mj.of h5,?_⟩;rw[Pl.LH (fun t=>zaw W ((j:Int)+t*st)),zr p.toNat st (by rw[cR O];exact pm) GZ Ml j O O];exact⟨Z,_,Z,Ar Z ⟨sm4.trans pH,_,Z⟩⟩
  .rintro σ H4 ⟨sm4,o2,rfl⟩;exact⟨sm4,_,_,Z⟩
 rintro σ H3 ⟨nJ,o1,o2,rfl⟩;have rW:=oG.trans nJ;refine⟨_,Z,s',Z,⟨_,mj.of (rW _ _ h1)⟩,om (K:=K) (xs:=as.map zbb) (fun i σ H4=>lO H1 H4/\∃o4:œ,σ=[some (.ref t),some (.ref r),some (.ref s'),some (.int n),oo,o1,o2,o4]) ⟨rW,_,Z⟩ (fun i σ H4 _ z=>z.1.seq (mj.of h1)) ?_ ?_⟩
 .rintro i x σ H4 hx ⟨sm,o,rfl⟩;obtain⟨b,row,rfl,hb,nA,hh⟩:=oM pa hx;have rm:=ao nA;have rl:=lb row rm;refine⟨_,Z,_,Z,t,_,_,_,Z,Z,mW.of (sm _ _ ht),i1,b,wt,row,W,N,M,Z,sm _ _ hh,sm _ _ hw,by rw[rl.1,lW],by rw[rl.1];lia,rl.2,bW,N1,M1,fun H5 pH=>?_⟩;exact⟨_,Z,t,_,_,_,Z,Z,mW.of (pH _ _ (sm _ _ ht)),i2,zbr row W,s0,Z,s1,fun _=>⟨_,Z,oQ L ⟨sm.trans pH,_,Z⟩⟩,fun WA=>absurd (dv row rm) WA⟩
 .rintro σ H4 ⟨sm,o,rfl⟩;refine⟨_,Z,t,_,_,_,Z,Z,mW.of (sm _ _ ht),i2,_,_,Z,Z,_,Z,rp (by simpa using s1) ?_⟩;refine⟨_,Z,t,_,_,_,Z,Z,mW.of (sm _ _ ht),i2,Z,_,Z,rp (by simpa using ne1) ?_⟩;refine⟨_,Z,_,Z,t,_,_,_,Z,Z,mW.of (sm _ _ ht),i1,r,wt,a,W,N,M,Z,sm _ _ ha,sm _ _ hw,by rw[la,lW],by rw[la];lia,bA,bW,N1,M1,fun H5 pH=>?_⟩;exact⟨_,Z,t,_,_,_,Z,Z,mW.of (pH _ _ (sm _ _ ht)),i2,zbr a W,s0,Z,s1,fun d=>absurd d ndv,fun _=>⟨_,Z,q H5 (sm.trans pH)⟩⟩
def Va.one {H:Hp}{J:Nat}{f:ř}{B C:Nat}{t:Addr}(v:Va H J f 1 B C t):Va H J f 1 B 1 t :=
 let ⟨m,ws,c,h,tp,bd,_,p,b0⟩:=v
 ⟨m,ws,c,h,tp,bd,Vl.OR tp b0 L,p,b0⟩
inductive PY (K:zfq)(vs:ň)(H:Hp)(Q:VK)(_:XK):Prop
 | mk (t r s ct:Addr)(a cs:ń)(bs:ĸ)(J:Nat)(ps:ľ)(l:ĺ)(_:vs=[.ref t,.ref r,.ref s])(_:H r=some (.lst (a.map zad)))(_:nM H s bs)(_:a.length=J)(_:zbz (2^400) a)(_:∀y∈bs,y.length=J/\zbz (2^400) y)(_:1<=J)(_:J<=60)(_:bs.length<=5)(_:zeu J ps l)(_:H t=some (.tup [.str "way",.ref ct]))(_:H ct=some (.lst (cs.map zad)))(_:cs.length=bs.length)(_:Bd 40000 cs)(_:Rt.Zn J l (zfp a bs cs bs.length))(_:∀H',lO H H'->Q (.bl true) H')
def yM:Df P w K mg base 9 "_law_way" ["told","load","blocks"] (PY K):=by
 refine mX T.ziu Ej fun f cdv A outer s H vs Q E hr nd h=>?_;obtain⟨t,r,s',ct,a,cs,bs,J,ps,l,rfl,ha,hS,la,ba,lb,J1,J2,b4,sS,ht,hc,lc,bc,zn,q⟩:=h;have J3:J<=420:=O;refine⟨_,(lE (nw (PW.pt (vw (nQ qK (pM T.zji (pv 0)) lJ) (vw (qD (pJ (mZ pU lD T.zjj zfn (mJ (mF mv (pv 0) lJ) (ut (v:=.ty "list") lD T.zjm zee lD))))) (yF (nQ qK (pM T.zji (mF mv (pv 0) lJ)) (pM T.zji (pv 2))))))) (lL (ma uV)) mR) (lE (mE 3 nd (mD (vy T) hr (mJ (pC oE lD T.zjm zee (mT (pv 1))) lJ))) (lE (nh aO Z (nK lD T.zjo (mT (pM T.zji (pv 2)))) (nW 4 nd) (lE (nw (qD (pJ (mD (rQ T) hr (mT (mF mU (mF mv (pv 0) lJ) (pv 4)))))) (lL (ma uV)) mR) (lL (mE 3 nd (mD (Kd T) hr (mJ (pv 3) (mD (KR T) hr (mJ (mD (JW T) hr (mT (mF mU (mF mv (pv 0) lJ) (pv 4)))) (mD (vy T) hr (mJ (pC oE lD T.zjm zee (mT (mF mU (pv 2) (pv 4)))) lJ)))))))))) (lL (ma (oP (JH (Of hr)) (pv 3) (nE (lG lJ (lG (nE (mT lJ)) (lG lJ mB)))) (pQ _))))))),II ?_⟩;intros;obtain⟨as,h1,pa⟩:=id hS;have lp:=mw pa;have i1:oi [zdj "way",zbb ct] 1=some (.ref ct):=Z;refine⟨_,Z,t,_,Z,.inr (mW.of ht),Z,_,Z,oQ (by show ¬(!decide (zad 2=zad 2))=true;simp) ?_⟩;refine⟨_,Z,t,_,_,_,Z,Z,mW.of ht,i1,_,_,_,true,Z,.lst hc,r9 _,true,Z,G6 ?_⟩;refine⟨_,Z,t,_,_,_,Z,Z,mW.of ht,i1,ct,_,Z,.inl (mj.of hc),_,Z,s',_,Z,.inl (mj.of h1),Z,_,Z,Ar (by rw[aa,aa,lp,lc]) ?_⟩;refine⟨_,Z,r,_,Z,.inl (mj.of ha),fun d hd=>?_⟩;have nS:=lQ (o:=.lst (a.map zad)) (lO.refl H) hd;have RY:upd H d (.lst (a.map zad)) d=some (.lst (a.map zad)):=lH;generalize upd H d (.lst (a.map zad))=H1 at nS RY ⊢;refine⟨_,_,_,_,_,_,Z,(mj.of RY),la,J1,J3,L,(show (1:Int).natAbs<2^1 by decide),L,ba,fun t0 H2 m_1 zlS c_1 nZ zlT v_1 t_1 b_1=>?_⟩;have w0:=Va.DC v_1 t_1 b_1 la J1 J1 (gO J).symm (aG 1) L (show (1:Int).natAbs<2^1 by decide);have oG:=nS.trans nZ
 try dsimp only[nu,qx,qu]
 refine⟨_,Z,s',_,Z,.inl (mj.of (oG _ _ h1)),_,Z,by rw[aa];lia,by rw[aa];lia,?_⟩;rw[aa,ae];refine oy (n:=as.length) (fun i σ H3=>lO H H3/\∃(tx:Addr)(f:ř)(o:œ),σ=[some (.ref t),some (.ref r),some (.ref s'),some (.ref tx),o]/\Va H3 J f 1 (80100+100*i) 1 tx/\∀x,f x=zfp a bs cs i x) ⟨oG,t0,_,none,Z,w0.mono O O,fun x=>by rw[Vl.wE];exact(dL _).symm⟩ ?_ ?_
 .rintro i σ H3 hi ⟨sm,tx,f',o,rfl,vx,ev⟩;refine zo ?_;intros;obtain⟨b,hb⟩:∃b,as[i]?=some b:=⟨_,List.getElem?_eq_getElem hi⟩;obtain⟨row,nA,hh⟩:=m9 pa hb;have rl:=lb row (ao nA);have ic:i<cs.length:=O;have ec:oi (cs.map zad) (i:Int)=some (.int (zbh cs i)):=nV (by rw[af,zdv ic];rfl);have eb:oi (as.map zbb) (i:Int)=some (.ref b):=nV (by rw[af,hb];rfl);refine⟨_,Z,t,_,_,_,Z,Z,mW.of (sm _ _ ht),i1,_,Z,ct,_,_,_,Z,Z,mj.of (sm _ _ hc),ec,zbh cs i,Z,⟨_,Z,oQ L ?_⟩⟩;refine⟨_,Z,_,Z,t,_,_,_,Z,Z,mW.of (sm _ _ ht),i1,_,Z,ct,_,_,_,Z,Z,mj.of (sm _ _ hc),ec,_,Z,fun tw H4 sm4 zlX v_2=>?_⟩;have ww:=Va.whole (J:=J) (B:=40000) J1 v_2 (cK (bc _ (zcy (l:=cs) ic)));have smA:=sm.trans sm4;refine⟨_,Z,_,Z,s',_,_,_,Z,Z,mj.of (smA _ _ h1),eb,b,_,Z,.inl (mj.of (smA _ _ hh)),fun d2 hd2=>?_⟩;have pH:=lQ (o:=.lst (row.map zad)) (lO.refl H4) hd2;have hd5:upd H4 d2 (.lst (row.map zad)) d2=some (.lst (row.map zad)):=lH;generalize upd H4 d2 (.lst (row.map zad))=H5 at pH hd5 ⊢;refine⟨_,_,_,_,_,_,Z,(mj.of hd5),rl.1,J1,J3,L,(show (1:Int).natAbs<2^1 by decide),L,rl.2,fun tv H6 m_3 zlZ c_3 sR zma v_3 t_3 b_3=>?_⟩;have wv:=Va.DC v_3 t_3 b_3 rl.1 J1 J1 (gO J).symm (aG 1) L (show (1:Int).natAbs<2^1 by decide);have Mi:=pH.trans sR;obtain⟨m_4,zcE,c_4,h_4,zcF,zcG,zcH,zcI,z_4⟩:=id (ww.same Mi);obtain⟨n_4,zcJ,d_4,g_4,zcK,zcL,zcM,Wf,y_4⟩:=id (wv.mono (B':=40000) (C':=1) L L);refine⟨_,_,J,m_4,n_4,_,_,zcE,zcJ,c_4,d_4,_,_,_,_,Z,h_4,g_4,zcF,zcK,zcI,Wf,J1,J3,z_4,y_4,zcG,zcL,zcH,zcM,L,L,fun tz H7 M_4 W_4 D_4 sm7 zmk v_4 t_4 b_4 e_4 _=>?_⟩;have wz:=Va.mk v_4 t_4 b_4 e_4 (Vl.PV Wf) (zfh z_4 y_4);have Pr:=(sm4.trans Mi).trans sm7;obtain⟨m_5,zcN,c_5,h_5,zcO,zcP,zcQ,zcR,z_5⟩:=id (vx.same Pr);obtain⟨n_5,zcS,d_5,g_5,zcT,zcU,zcV,zcW,y_5⟩:=id ((Va.one wz).mono (B':=80100+100*i) (C':=1) O L);refine⟨_,_,J,m_5,n_5,_,_,zcN,zcS,c_5,d_5,_,_,_,_,Z,h_5,g_5,zcO,zcT,J1,J3,z_5,y_5,zcP,zcU,zcQ,zcV,O,L,fun tn H8 M_5 W_5 D_5 uz zmv v_5 t_5 b_5 e_5 _=>?_⟩;have wn:=Va.mk v_5 t_5 b_5 e_5 (Vl.Gf zcR zcW _ _) (zfh z_5 y_5);refine⟨(sm.trans Pr).trans uz,tn,_,_,Z,(Va.one wn).mono O O,fun x=>?_⟩;rw[Vl.wE,Vl.xX J1 (Vl.Du J _) (zcv rl.1),Vl.Qn J1 (zcv rl.1),ev x];show _=zaw a x+((zag i fun j=>zbh cs j.toNat*zaw (bs.getD j.toNat []) x)+zbh cs (i:Int).toNat*zaw (bs.getD (i:Int).toNat []) x)
  rw[ae,zeg nA];unfold zfp;grind
 .rintro σ H3 ⟨sm,tx,f',o,rfl,vx,ev⟩;rw[lp] at ev;refine⟨_,Z,lI,fun u hu=>⟨me,fun tq htq=>?_⟩⟩;have su:lO H3 (upd H3 u (.tup [zad 0])):=lQ (lO.refl _) hu;have st:lO H3 (upd (upd H3 u (.tup [zad 0])) tq (.tup [zad 1,zbb u,zad 1])):=lQ su htq;have vt:qJ (upd (upd H3 u (.tup [zad 0])) tq (.tup [zad 1,zbb u,zad 1])) tq 1 [0] 1:=⟨u,lH,(mi (mh lH htq)).trans lH⟩;generalize upd (upd H3 u (.tup [zad 0])) tq (.tup [zad 1,zbb u,zad 1])=H6 at st vt ⊢;have ef:f'=zfp a bs cs bs.length:=funext ev;subst ef;refine Va.iff (vx.same st) (Va.whole (J:=J) (B:=1) J1 vt L) J1 ?_ (q _ (sm.trans st));have e1:Vl.oj J (zfp a bs cs bs.length)=fun _=>0:=by rw[Vl.oN sS];exact funext zn
  have e2:Vl.oj J (fun x=>0*Vl.HM J 0 x)=fun _=>0:=by rw[show (fun x=>0*Vl.HM J 0 x)=fun _=>(0:Int) from funext fun x=>aZ _];exact Vl.JB J1
  show (fun x=>1*Rt.fF J (Vl.oj J (zfp a bs cs bs.length)) x)=fun x=>1*Rt.fF J (Vl.oj J (fun x=>0*Vl.HM J 0 x)) x
  rw[e1,e2]
def O8 {n B:Nat}{b:ń}(lb:b.length=n){f:ř}(h:∀x,zaw b x=f x)(hf:∀x,(f x).natAbs<=B):∀x∈b,x.natAbs<=B:=fun x hx=>by
 obtain⟨k,hk,e⟩:=ų hx;have e2:zaw b k=x:=zdt (by rw[<-e];exact az hk);rw[<-e2,h];exact hf k
def GO {n:Int}{M:Nat}:∀{è:ļ},(∀t∈è,t.2.2.natAbs<=M)->∀x,(zdd n è x).natAbs<=è.length*M
 | [],_,x=>by simp[zdd]
 | t::r,h,x=>by
  have a:(zcr n t x).natAbs<=M:=by have:=h t av;unfold zcr;split<;>lia
  have b:=GO (n:=n) (è:=r) (fun y hy=>h y (aq _ hy)) x;have e:zdd n (t::r) x=zcr n t x+zdd n r x:=by unfold zdd;rw[ĕ,List.sum_cons]
  rw[e,bJ,fv,iW];exact aS (ir ..) (k9 b a)
def OJ:(ŭ 6).all (fun k=>Rx.WB k (2^78) (2^78))=true:=by decide +kernel
def nM.push {H:Hp}{D c:Addr}{z:ń}(hD:H D=some (.lst (as.map zbb)))(pa:Paired (fun a (x:ń)=>H a=some (.lst (x.map zad))) as è)(hc:H c=some (.lst (z.map zad)))(ne:∀r∈è,r≠[])(nz:z≠[]):upd H D (.lst (as.map zbb++[.ref c])) D=some (.lst ((as++[c]).map zbb))/\Paired (fun a (x:ń)=>upd H D (.lst (as.map zbb++[.ref c])) a=some (.lst (x.map zad))) (as++[c]) (è++[z]):=by
 have key:∀{a:Addr}{x:ń},x≠[]->H a=some (.lst (x.map zad))->a≠D:=fun {a x} nx ha e=>by
  rw[e,hD] at ha;have e2:as.map zbb=x.map zad:=by injection ha with e;injection e
  cases x with
  | nil=>exact nx Z
  | cons y r =>
   cases as with
   | nil=>cases e2
   | cons b r'=>injection e2 with e3;cases e3
 refine⟨by rw[lH,aQ];rfl,i6 ?_ ((mi (key nz hc)).trans hc)⟩;generalize HO.lst (as.map zbb++[zbb c])=zof;clear hD hc
 induction pa with
 | nil=>exact .nil
 | cons h _ ih=>exact .cons ((mi (key (ne _ av) h)).trans h) (ih fun r hr=>ne r (aq _ hr))
def QQ{f:Addr}{fd:FuncData}(F:Fw K "law" "law" JO f fd):tH P w K mg base GQ 14 f fd ["script"] (GE K):=by
 refine F.ok Ja (fun vs H Q E h=>?_) (fun cdv A outer s H vs Q E hr h=>?_)
 .obtain⟨_,_,rfl,_⟩:=h;rfl
 obtain⟨a,ns,rfl,hS,h63,q⟩:=h;have nd:=Ja.nd;refine pkD ?_;intro D_;refine xT 14 (lL (ma (wb (mZ pU lD T.zjj zfn (mJ (pv 14) (ut (v:=.ty "tuple") lD T.zjn L2.yC lD))) (wb (oP pX (mF mv (pv 14) lJ) rV (pQ _)) (B8 (mD (yM T) hr (lG (pv 14) (lG (pv 7) (lG (pv 13) mB))))))))) ?_;intro b h;refine xT 13 (lE (mE 14 nd (mD (yy T) hr (mJ (pC oE lD T.zjm zee (mT (pv 7))) (pv 13)))) h) ?_;intro b h;refine xT 12 (lE (mE 13 nd (lY tP (nY (mT (pC oE lD T.zjm zee (mT (pv 7))))) (oX [] ["block"] (mQ (pv 5)) (fun C s H fp=>⟨(qo 0),mL,(pC (uP (K:=K) Z) lD T.zjm zee (mT (pv 0)))⟩)))) h) ?_;intro zcX h;refine xT 11 (lE (nw (nQ pX (mF mv (pv 12) lJ) rV) (lL (nw (qD (pJ (mD (yM T) hr (lG (pv 12) (lG (pv 7) (lG (pv 5) mB)))))) (lL (ma uV)) mR)) (lL (nw (PW.pt (vw (pJ (pv 8)) (vw (nQ qK (mF mv (pv 12) lJ) rV) (yF (qD (pJ (mD (EN T) hr (lG (pv 12) (lG (pv 7) (lG (pv 5) mB)))))))))) (lL (ma uV)) mR))) h) ?_;intro b h;refine xT 10 (lE (nw (PW.pt (vw (qD (pJ (mZ pU lD T.zjj zfn (mJ (pv 12) (ut (v:=.ty "tuple") lD T.zjn L2.yC lD))))) (yF (nQ FU (pM T.zji (pv 12)) lJ)))) (lL (ma uV)) mR) h) ?_;intro b h;refine xT 9 (lE (mE 12 nd (mD (yy T) hr (mJ (pC oE lD T.zjm zee (mT (pv 7))) (oX [] ["block"] (mQ (pv 5)) (fun C s H fp=>⟨(qo 0),mL,(pC (uP (K:=K) Z) lD T.zjm zee (mT (pv 0)))⟩))))) h) ?_;intro b h;refine xT 8 (FA (nw (pJ (pv 8)) (lE (mE 7 nd (lY re (nY (mT lJ)) (pv 1))) (lE (nh aO Z (nK lD T.zjo (mT (pv 3))) (nW 6 nd) (lE (mE 9 nd (mD (xg T) hr (mJ (lY mH (lY mS (pv 2) lJ) (lY mY (pv 6) lJ)) (lY Ba lJ lJ)))) (lL (xm 7 [("often",9)] ["one","other"] nd (qP lD T.zjs (mJ (pv 7) (mF mU (pv 5) (pv 6)))) (fun C s H fp=>⟨(tQ 1 2),mL,(lY mY (pv 1) (lY mH (pv 0) (pv 2)))⟩))))) (lL (nh aO Z (mQ (mD (uK T) hr (mT (pv 1)))) (nW 10 nd) (lL (nh aO Z (nK lD T.zjo (mT (pv 10))) (nW 6 nd) (lE (mE 11 nd (lY m3 (lY mY (pv 2) (lY mH (pv 6) (lY mS (pv 1) (pv 10)))) (pv 1))) (lL (rz (lY oU (lY mY (mF mU (pv 7) (pv 11)) (pv 10)) lJ) (qZ (pv 7) (pv 11) set_list)))))))))) mR) h) ?_;intro b h;refine xT 7 (lE (mE 8 nd (oP pX (lY m3 (lY mS (pv 2) lJ) lJ) lJ (pQ _))) h) ?_;intro b h;refine xT 6 (lE (mE 7 nd (mD (wT T) hr (lG (pv 1) (lG (Ah (K:=K) Z (pv 4) (pB (pv 3)) (pB (lY mY (pv 3) lJ))) (lG (lY mY lJ (lY m3 (lY mS (pv 2) lJ) lJ)) (lG (lY Ba lJ lJ) mB)))))) h) ?_;intro b h;refine xT 5 (lE (nh aO Z (nK lD T.zjo (mT (pv 3))) (nW 6 nd) (lL (oO (vX cW cO cP o5 (pv 5) (mT (mD (wT T) hr (lG (pv 1) (lG (Ah (K:=K) Z (pv 4) (pB (pv 6)) (pB (lY mY (pv 3) lJ))) (lG (lY mY lJ (lY m3 (lY mS (pv 2) lJ) lJ)) (lG (lY Ba lJ lJ) mB)))))))))) h) ?_;intro b h;refine xT 4 (lE (mE 5 nd (nY mB)) h) ?_;intro b h;refine xT 3 (lE (mE 4 nd (tU v3 (pv 0) (pB lJ) (pB lJ))) h) ?_;intro b h;refine xT 2 (lE (mE 3 nd (lY m3 (pv 2) lJ)) h) ?_;intro b h;refine xT 1 (lE (mE 2 nd (mD (tS T) hr (mJ (pv 0) lJ))) h) ?_;intro b h;refine⟨_,lE (mE 1 nd (lY mY lJ (lY m3 (mD (tS T) hr (mJ (pv 0) lJ)) lJ))) h,?_⟩;rw[show start ["script","n","cell","many","cells","blocks","k","load","made","often","p","at","told","more","again"] [zbb a]=[some (.ref a),none,none,none,none,none,none,none,none,none,none,none,none,none,none] from Z]
 -- n
 refine⟨_,Z,a,ns,0,Z,hS,eL 0,fun v0=>⟨_,_,Z,Z,(show (0:Int)<24 by decide),_,_,Z,Z,?_⟩⟩;obtain⟨n,en⟩:∃n:Nat,1+v0%24=(n:Int):=⟨(1+v0%24).toNat,O⟩;have n1:1<=n:=O;have n2:n<=24:=O
 try dsimp only[nu,qx,qu]
 rw[en];clear en
 -- cell,ë
 refine⟨_,Z,a,ns,1,Z,hS,L,fun ce=>?_⟩
 try dsimp only[nu,qx,qu]
 refine⟨_,Z,_,_,Z,Z,(show (0:Int)<5 by decide),?_⟩;obtain⟨ë,em⟩:∃ë:Nat,ce%5=(ë:Int):=⟨(ce%5).toNat,O⟩;have m4:ë<=4:=O
 try dsimp only[nu,qx,qu]
 rw[em];clear em
 -- cells
 obtain⟨ms,ec,lm⟩:=NF ns (some 2) (some 62);refine⟨_,Z,_,Z,_,Z,a,_,Z,hS,fun c hc=>?_⟩;rw[ec];have nS:=lQ (o:=.lst (ms.map zad)) (lO.refl H) hc;have RC:upd H c (.lst (ms.map zad)) c=some (.lst (ms.map zad)):=lH;generalize upd H c (.lst (ms.map zad))=H1 at nS RC ⊢
 try dsimp only[nu,qx,qu]
 -- blocks
 refine⟨dW _,fun bl hbl=>?_⟩;have nZ:=lQ (o:=.lst []) (lO.refl H1) hbl;have SE:upd H1 bl (.lst []) bl=some (.lst []):=lH;generalize upd H1 bl (.lst [])=H2 at nZ SE ⊢
 try dsimp only[nu,qx,qu]
 have pw:SX 10 9:=⟨L,L,L⟩;have e9:(10:Int)^(9:Int).toNat=10^9:=Z;refine⟨_,Z,ë,Z,O,O,?_⟩;refine oy (n:=ë) (fun i σ H5=>lO H1 H5/\∃(as:ŋ)(bs:ĸ)(o6:œ),σ=[some (.ref a),some (.int n),some (.int ce),some (.int ë),some (.ref c),some (.ref bl),o6,none,none,none,none,none,none,none,none]/\H5 bl=some (.lst (as.map zbb))/\Paired (fun a (x:ń)=>H5 a=some (.lst (x.map zad))) as bs/\bs.length=i/\∀z∈bs,z.length=n/\zbz (80*10^9) z) ⟨nZ,[],[],none,Z,SE,.nil,Z,fun z hz=>nomatch hz⟩ ?_ ?_
 .rintro i σ H5 hi ⟨pH,as,bs,o6,rfl,Xv,pa,RG,bb⟩;refine R5 ?_;intros;have hc5:=pH _ _ RC;refine⟨_,Z,.inl ⟨Z,_,mj.of Xv⟩,_,Z,_,Z,_,Z,_,Z,_,Z,_,_,Z,Z,_,Z,c,ms,ë+1,Z,Z,mj.of hc5,O,fun c3 Wg hc3 lm3=>?_⟩;have sR:=lQ (o:=.lst (Wg.map zad)) (lO.refl H5) hc3;refine⟨_,Z,_,_,Z,Z,m8 L L,_,_,Z,Z,(show (0:Int)<7 by decide),_,_,Z,Z,_,_,Z,Z,pw,n,c3,Wg,_,_,Z,mj.of lH,O,n1,O,lh,lh,⟨O,O⟩,fun r1 H7 ld sm7 f7 h7 l7 b7=>?_⟩;have sm57:=sR.trans sm7;have Fk:=sm57 _ _ Xv;have SF:=Paired.uB pa fun d x e=>sm57 _ _ e;refine⟨bl,_,_,Z,Z,Fk,by rw[aa,mw pa];exact oq O,?_⟩;obtain⟨ha',SA⟩:=nM.push Fk SF h7 (fun r hr z=>by have:=(bb r hr).1;rw[z] at this;have:(0:Nat)=n:=this;lia) (fun z=>by rw[z] at l7;have:(0:Nat)=n:=l7;lia);refine⟨mO (pH.trans sm57) hbl,as++[r1],bs++[ld],_,Z,ha',SA,by rw[aP,RG];rfl,fun z hz=>?_⟩;rcases ŵ.mp hz with y | y
  .exact bb z y
  .rw[cm.mp y];exact⟨l7,b7⟩
 rintro σ H5 ⟨pH,as,bs,o6,rfl,Xv,pa,RG,bb⟩
 try dsimp only[nu,qx,qu]
 -- load
 have hc5:=pH _ _ RC;refine⟨_,Z,_,Z,_,Z,_,Z,_,Z,_,_,Z,Z,_,Z,c,ms,ë+1,Z,Z,mj.of hc5,O,fun c3 Wg hc3 lm3=>?_⟩;have sR:=lQ (o:=.lst (Wg.map zad)) (lO.refl H5) hc3;refine⟨_,Z,_,_,Z,Z,m8 L L,_,_,Z,Z,(show (0:Int)<7 by decide),_,_,Z,Z,_,_,Z,Z,pw,n,c3,Wg,_,_,Z,mj.of lH,O,n1,O,lh,lh,⟨O,O⟩,fun lo H6 ld0 sm7 flo zX l0 bl0=>?_⟩;have sm56:=sR.trans sm7;have OD:=sm56 _ _ Xv;have WU:=Paired.uB pa fun d x e=>sm56 _ _ e
 try dsimp only[nu,qx,qu]
 -- made
 refine⟨_,Z,_,_,Z,Z,m8 L L,_,_,Z,Z,(show (0:Int)<3 by decide),Z,?_⟩
 try dsimp only[nu,qx,qu]
 obtain⟨mb,hmb⟩:∃mb:Bool,mb=decide (zad (ce/245%3)=zad 1):=⟨_,Z⟩;rw[<-hmb];clear hmb;obtain⟨ps,PJ⟩:=Pl.DE (n:=(n:Int)) O;obtain⟨l,sS⟩:=Rt.pY.ex n1 PJ;have Wh:=mw pa;refine⟨fun σ H7=>lO H6 H7/\∃(la:Addr)(ld:ń)(o6 o9 Mv GY:œ),σ=[some (.ref a),some (.int n),some (.int ce),some (.int ë),some (.ref c),some (.ref bl),o6,some (.ref la),some (.bl mb),o9,Mv,GY,none,none,none]/\H7 la=some (.lst (ld.map zad))/\ld.length=n/\(∀x∈ld,x.natAbs<=2^70)/\(mb=true->∃os:ń,os.length=bs.length/\∀x,zep n l (zaw ld) x=zag bs.length fun j=>zbh os j.toNat*zep n l (zaw (bs.getD j.toNat [])) x),?_,?_⟩
 .refine⟨_,Z,mb,Z,oS (fun mt=>?_) (fun mt=>⟨lO.refl _,lo,ld0,_,none,none,none,Z,zX,l0,fun x hx=>aS (bl0 x hx) L,fun z=>absurd z mt⟩)⟩;refine xi ?_;intros;refine⟨lI,fun lz hlz=>⟨_,Z,lz,_,_,Z,Z,lH,O,O,zoj,fun du G3=>?_⟩⟩;rw[rep0];have OF:lz≠du:=mh lH G3;have DS:H6 du=none:=by rwa [mi (dR OF)] at G3
  have rE:lO H6 (upd (upd H6 lz (.lst [zad 0])) du (.lst ((ş n (0:Int)).map zad))):=mO (mO (lO.refl H6) hlz) DS;have G4:upd (upd H6 lz (.lst [zad 0])) du (.lst ((ş n (0:Int)).map zad)) du=some (.lst ((ş n (0:Int)).map zad)):=lH;generalize upd (upd H6 lz (.lst [zad 0])) du (.lst ((ş n (0:Int)).map zad))=H0 at rE G4 ⊢
  try dsimp only[nu,qx,qu]
  refine⟨_,Z,ë,Z,O,O,?_⟩;refine oy (n:=ë) (fun i σ H8=>lO H6 H8/\∃(la:Addr)(ld os:ń)(o6 o9:œ),σ=[some (.ref a),some (.int n),some (.int ce),some (.int ë),some (.ref c),some (.ref bl),o6,some (.ref la),some (.bl mb),o9,none,none,none,none,none]/\H8 la=some (.lst (ld.map zad))/\H6 la=none/\ld.length=n/\os.length=i/\(∀x∈ld,x.natAbs<=i*(80*10^18))/\∀x,zep n l (zaw ld) x=zag i fun j=>zbh os j.toNat*zep n l (zaw (bs.getD j.toNat [])) x)
   ⟨rE,du,ş n 0,[],_,none,Z,G4,DS,bq,Z,fun x hx=>by rw[(gJ.mp hx).2];exact dW _,fun x=>by rw[show zaw (ş n (0:Int))=fun _=>0 from funext fun y=>Ld.Ey ..];exact Rt.vi n l (fun _=>Z) x⟩ ?_ ?_
  .rintro i σ H8 hi ⟨uz,la,ld,os,o6,o9,rfl,h8,fla,ll,Wi,MA,ev⟩;refine zo ?_;intros;obtain⟨b,hb⟩:∃b,as[i]?=some b:=⟨_,List.getElem?_eq_getElem O⟩;obtain⟨row,nA,hh⟩:=m9 WU hb;have rl:=bb row (ao nA);have eb:oi (as.map zbb) (i:Int)=some (.ref b):=nV (by rw[af,hb];rfl);refine⟨_,Z,_,_,Z,Z,m8 L L,_,Z,_,_,Z,Z,_,_,Z,Z,ju (gR O O),_,_,Z,Z,pw,_,_,Z,lh,lh,fun DT hof=>?_⟩;have zda:DT.natAbs<=10^9:=hof
   try dsimp only[nu,qx,qu]
   refine⟨_,Z,_,Z,_,Z,bl,_,_,_,Z,Z,mj.of (uz _ _ OD),eb,la,b,Z,⟨_,mj.of h8⟩,⟨_,mj.of (uz _ _ hh)⟩,?_⟩;have lso:(zbj row DT).length=n:=by unfold zbj;rw[š];exact rl.1
   have lz':(zdb ld (zbj row DT)).length=n:=by rw[Ld.p9 (by rw[ll,lso])];exact ll
   refine qY (K:=K) (xs:=ld.map zad) (ys:=row.map zad) (zdb ld (zbj row DT)) (by rw[aa,aa,ll,rl.1]) (by rw[lz',aa,ll]) zoh (mj.of h8) (mj.of (uz _ _ hh)) ?_ ?_
   .intro j u v H9 pp hu hv vj Cd R kk;obtain⟨u',rfl,eu⟩:=int_at hu;obtain⟨v',rfl,Sf⟩:=int_at hv;refine⟨pp,_,Z,mW.of lH,Z,_,_,Z,_,_,Z,Z,_,Z,_,Z,_,Z,_,_,Z,Z,yW O O,_,_,Z,Z,kk _ _ (lQ (lO.refl _) Cd) ?_⟩;unfold zdb zbj;rw[cy,eu,af,Sf];exact cA some (show u'+v'*DT=u'+DT*v' by rw[ay v' DT])
   intro lb H9 vj flb h9;refine⟨uz.trans vj,lb,_,os++[DT],_,_,Z,h9,uz.free flb,lz',by rw[aP,Wi];rfl,fun x hx=>?_,fun x=>?_⟩
   .refine O8 lz' (f:=fun x=>zaw ld x+zaw row x*DT) (fun y=>by rw[Ld.sF (by rw[ll,lso]) O,Ld.ur O]) (fun x=>?_) x hx;have c1:=zev (B:=i*(80*10^18)) MA x;have c2:=cU (zev rl.2 x) zda;have c4:=ir (zaw ld x) (zaw row x*DT);rw[aR] at c4;rw[fv];lia
   .have e1:zaw (zdb ld (zbj row DT))=fun x=>zaw ld x+zaw row x*DT:=funext fun y=>by
     rw[Ld.sF (by rw[ll,lso]) O,Ld.ur O]
    rw[e1,Rt.uF,Rt.FF,ev x];show _=(zag i fun j=>zbh (os++[DT]) j.toNat*zep n l (zaw (bs.getD j.toNat [])) x)+zbh (os++[DT]) (i:Int).toNat*zep n l (zaw (bs.getD (i:Int).toNat [])) x
    rw[ae,zdo (l:=os++[DT]) (i:=i) (v:=DT) (by rw[dH O,Wi,iY];rfl),zeg nA,ay DT];congr 1;refine zbc fun j hj=>?_;rw[ae];congr 1;unfold zbh;rw[ak,ak,dM O]
  rintro σ H8 ⟨uz,la,ld,os,o6',o9,rfl,h8,fla,ll,Wi,MA,ev⟩
  try dsimp only[nu,qx,qu]
  refine⟨_,Z,n,Z,n1,O,fun r1 H9 Ce vj f9 h9 hp9=>⟨r1,Z,⟨_,mj.of h9⟩,?_⟩⟩;have RW:=Pt.se hp9 PJ;subst RW;obtain⟨è,hrw⟩:∃è:ļ,è=(Ce.map ű).map fun p=>(p,ce,p-7):=⟨_,Z⟩;have nr:r1≠la:=fun z=>by rw[z,h8] at f9;cases f9
  have zde:è.length=Ce.length:=by rw[hrw,aa,aa]
  refine om (xs:=(Ce.map ű).map zad) (fun i σ xD=>lO H6 xD/\xD r1=some (.lst ((Ce.map ű).map zad))/\∃(b:ń)(o6 Mv GY:œ),σ=[some (.ref a),some (.int n),some (.int ce),some (.int ë),some (.ref c),some (.ref bl),o6,some (.ref la),some (.bl mb),o9,Mv,GY,none,none,none]/\xD la=some (.lst (b.map zad))/\b.length=n/\∀x,zaw b x=zaw ld x+zdd n (è.take i) x)
   ⟨uz.trans vj,h9,ld,_,none,none,Z,vj _ _ h8,ll,fun x=>by rw[jt];unfold zdd;simp⟩ (fun i σ xD _ z=>mj.of z.2.1) ?_ ?_
  .rintro i xv σ xD hx ⟨wR,OA,b,o6,Mv,GY,rfl,IM,Xw,inv⟩;refine R5 ?_;intros;obtain⟨p,rfl,ep⟩:=int_at hx;have pm:p∈Ce.map ű:=ao ep;obtain⟨y,hy,ey⟩:=ţ.mp pm;have pd:p∣(n:Int):=by rw[<-ey];exact((zeb PJ y).mp hy).2.1
   have p2:2<=p:=by rw[<-ey];exact(PJ.row y hy).pr.1
   have pn:=aW O pd;obtain⟨st,AX,GZ,Ml,_⟩:=Rg.Bw n1 p2 pd;have er:è[i]?=some (p,ce,p-7):=by rw[hrw,af,ep];rfl
   refine⟨_,Z,_,Z,O,O,?_⟩;refine oy (fun k σ IR=>lO H6 IR/\IR r1=some (.lst ((Ce.map ű).map zad))/\∃(b':ń)(o6 GY:œ),σ=[some (.ref a),some (.int n),some (.int ce),some (.int ë),some (.ref c),some (.ref bl),o6,some (.ref la),some (.bl mb),o9,some (.int p),GY,none,none,none]/\IR la=some (.lst (b'.map zad))/\b'.length=n/\∀x:Int,zaw b' x=zaw b x+(if (x-ce)%st=0/\((x-ce)%n)/st<(k:Int) then p-7 else 0))
    ⟨wR,OA,b,_,_,Z,IM,Xw,Rg.YF O GZ ce (p-7) b⟩ ?_ ?_
   .rintro k σ IR hk ⟨xE,RZ,b',o6,GY,rfl,Xx,SG,R0⟩;refine zo ?_;intros;have kp:(k:Int)<p:=O;refine⟨_,Z,_,Z,_,Z,_,Z,_,_,Z,Z,m8 O O,_,_,Z,Z,n5 O O,_,_,Z,Z,_,Z,_,_,Z,Z,(show (0:Int)<n by lia),?_⟩
    try dsimp only
    rw[AX];refine⟨_,Z,_,Z,la,_,_,_,Z,Z,mj.of Xx,xU SG O _,_,Z,_,_,Z,Z,_,_,Z,Z,_,Z,_,Z,la,_,_,_,Z,Z,Xx,vF (v6 SG) O _,?_⟩
    try dsimp only
    rw[Int.add_sub_assoc,set_int];exact⟨mO xE fla,(mi nr).trans RZ,_,_,_,Z,lH,by rw[cI,SG],Rg.zax GZ Ml O SG R0⟩
   .rintro σ IR ⟨xE,RZ,b',o6,GY,rfl,Xx,SG,R0⟩;refine⟨xE,RZ,b',_,_,_,Z,Xx,SG,fun x=>?_⟩;rw[Rg.ZM GZ (show 0<p.toNat by lia) Ml R0,inv,zcg er,Rg.DN,Int.add_assoc];unfold zcr;rw[AX]
  .rintro σ xD ⟨wR,OA,b,o6,Mv,GY,rfl,IM,Xw,inv⟩;rw[aa,aa,<-zde,b5] at inv;have rok:∀t∈è,t.1∈Ce.map ű/\t.2.2.natAbs<=17:=fun t ht=>by
    rw[hrw] at ht;obtain⟨p,hp,rfl⟩:=ţ.mp ht;obtain⟨y,hy,ey⟩:=ţ.mp hp;have pd:p∣(n:Int):=by rw[<-ey];exact((zeb PJ y).mp hy).2.1
    have p2:2<=p:=by rw[<-ey];exact(PJ.row y hy).pr.1
    have pn:=aW O pd;exact⟨hp,by show (p-7).natAbs<=17;lia⟩
   refine⟨wR,la,b,_,_,_,_,Z,IM,Xw,fun x hx=>?_,fun _=>⟨os,O,fun x=>?_⟩⟩
   .refine O8 Xw inv (fun x=>?_) x hx;have c1:=zev (B:=ë*(80*10^18)) MA x;have c2:=GO (n:=(n:Int)) (M:=17) (fun t ht=>(rok t ht).2) x;have c3:=Rt.ux PJ O;have c4:=ir (zaw ld x) (zdd n è x);have c5:=b9 (80*10^18) m4;have c6:=b9 17 (show è.length<=8 by lia);have c7:4*(80*10^18)+8*17<=2^70:=L;lia
   .rw[show zaw b=fun x=>zaw ld x+zdd n è x from funext inv,Rt.uF,sS.wP (fun t ht=>(rok t ht).1) x,dL,ev x,RG]
 rintro σ H7 ⟨sm7,la,ld,o6',o9,Mv,GY,rfl,SH,ll,MA,evm⟩;have Fk:=sm7 _ _ OD;have SF:=Paired.uB WU fun d x e=>sm7 _ _ e;have bbl:∀b∈bs,b.length=n:=fun b hb=>(bb b hb).1;have kln:=Rt.vW n l;have SI:∀z∈bs,z.length=n/\∀x∈z,x.natAbs<=2^70:=fun z hz=>⟨(bb z hz).1,fun x hx=>aS ((bb z hz).2 x hx) L⟩;have G5:(2:Nat)^70<=2^400:=by decide +kernel
 try dsimp only[nu,qx,qu]
 have tl:∀(t:Addr)(Mw:Hp),lO H7 Mw->zcX D_ [some (.ref a),some (.int n),some (.int ce),some (.int ë),some (.ref c),some (.ref bl),o6',some (.ref la),some (.bl mb),o9,Mv,GY,some (.ref t),none,none] Mw:=by
  intro t Mw Sq;refine⟨_,Z,la,_,Z,.inl (mj.of (Sq _ _ SH)),fun d1 RY=>⟨lI,fun d2 hd2=>?_⟩⟩;have sA:=lQ (o:=.lst (ld.map zad)) (lO.refl Mw) RY;have hA:upd Mw d1 (.lst (ld.map zad)) d1=some (.lst (ld.map zad)):=lH;generalize upd Mw d1 (.lst (ld.map zad))=PC at sA hA hd2 ⊢;have sB:=lQ (o:=.lst [zbb d1]) (lO.refl PC) hd2;have hB:upd PC d2 (.lst [zbb d1]) d2=some (.lst [zbb d1]):=lH;generalize upd PC d2 (.lst [zbb d1])=H14 at sB hB ⊢;have OH:=(Sq.trans sA).trans sB;refine⟨_,Z,bl,Z,⟨_,mj.of (OH _ _ Fk)⟩,?_⟩;refine rA (K:=K) (xs:=as.map zbb) bs (by rw[aa,Wh]) zoh (mj.of (OH _ _ Fk)) ?_ ?_
  .intro i x V0 hx DQ R kk;obtain⟨b,row,rfl,hb,nA,hh⟩:=oM SF hx;exact⟨_,Z,b,_,Z,.inl (mj.of (DQ _ _ (OH _ _ hh))),fun l hl=>kk _ l row (lQ (lO.refl _) hl) nA lH⟩
  intro GS V0 DQ _ zdg;obtain⟨uE,h15,Wj⟩:=id zdg;refine⟨d2,GS,_,_,Z,Z,DQ _ _ hB,h15,(by show 1+(uE.map zbb).length<=sizeLine;rw[aa,mw Wj];exact aS (show 1+bs.length<=8 by lia) (by show 8<=sizeLine;decide)),fun mo hmo=>?_⟩;have sC:=lQ (o:=.lst ([zbb d1]++uE.map zbb)) (lO.refl V0) hmo;have Wk:upd V0 mo (.lst ([zbb d1]++uE.map zbb)) mo=some (.lst ((d1::uE).map zbb)):=lH;generalize upd V0 mo (.lst ([zbb d1]++uE.map zbb))=OB at sC Wk ⊢;have Wl:=(OH.trans DQ).trans sC;have RM:nM OB mo (ld::bs):=⟨d1::uE,Wk,.cons ((sB.trans (DQ.trans sC)) _ _ hA) (Paired.uB Wj fun d x e=>sC _ _ e)⟩
  try dsimp only[nu,qx,qu]
  refine⟨_,Z,la,_,Z,.inl (mj.of (Wl _ _ SH)),fun ag hag=>?_⟩;have sD:=lQ (o:=.lst (ld.map zad)) (lO.refl OB) hag;have Wm:upd OB ag (.lst (ld.map zad)) ag=some (.lst (ld.map zad)):=lH;generalize upd OB ag (.lst (ld.map zad))=H17 at sD Wm ⊢;have Wn:∀z∈ld::bs,z.length=n/\∀x∈z,x.natAbs<=2^70:=fun z hz=>by
   rcases ũ.mp hz with e | e
   .rw[e];exact⟨ll,MA⟩
   .exact SI z e
  have ln8:(ld::bs).length=bs.length+1:=Z;have rc2:Rco (ld::bs).length (zct n l).length (2^78) (2^78):=K6 L L OJ L fun k _ _=>by lia
  refine⟨_,Z,ag,mo,ld,ld::bs,n,2^78,2^78,ps,l,Z,Wm,RM.same sD,ll,fun b hb=>(Wn b hb).1,n1,O,O,sS,rc2,fun b hb z hz=>aS (Ct.Gk sS O (Wn b hb).2 z hz) L,fun z hz=>aS (Ct.Gk sS O MA z hz) L,fun t2 ct2 Sz cs2 zZ Xy h19 lc2 bc2 sh2=>?_,fun t2 wt2 Sz AW2 W2 s2 zZ Xy h19 lA2 s12 bA2 lW2 ev2 sh2=>?_⟩
  .try dsimp only[nu,qx,qu]
   have i0':oi [zdj "way",zbb ct2] 0=some (.str "way"):=Z;refine⟨_,Z,_,_,_,true,Z,.tup Xy,r9 _,true,Z,Uz ?_⟩;refine⟨_,Z,t2,_,_,_,Z,Z,mW.of Xy,i0',Z,_,Z,rp L ?_⟩;have zdi:=(Wl.trans sD).trans zZ;exact⟨_,Z,_,Z,_,Z,t2,la,mo,ct2,ld,cs2,ld::bs,n,ps,l,Z,zdi _ _ SH,(RM.same sD).same zZ,ll,fun x hx=>aS (MA x hx) G5,fun z hz=>⟨(Wn z hz).1,fun x hx=>aS ((Wn z hz).2 x hx) G5⟩,n1,O,O,sS,Xy,h19,lc2,bc2,Ct.way sS n1 ll (fun b hb=>(Wn b hb).1) sh2,fun H19 _=>q H19⟩
  .refine(Ct.KA (os:=1::ş bs.length 0) (by rw[bJ,bq];rfl) (fun x=>?_) lW2 sh2).elim;have e0:(zag (ld::bs).length fun j=>zbh (1::ş bs.length 0) j.toNat*zep n l (zaw ((ld::bs).getD j.toNat [])) x)=zag (ld::bs).length fun j=>if j=0 then zep n l (zaw ld) x else 0:=zbc fun j hj=>by
    rw[ae];cases j with
    | zero=>rw[aA (show ((0:Nat):Int)=0 from Z)];exact cY _
    | succ k =>
     rw[ah O];have:zbh (1::ş bs.length 0) (k+1)=0:=by
      show (ş bs.length (0:Int)).getD k 0=0
      rw[ak,fI];split<;>rfl
     rw[this,aZ]
   rw[e0,Ld.vn (eL 0),aA O]
 -- told
 refine⟨_,Z,la,_,Z,.inl (mj.of SH),fun ai hai=>?_⟩;have uz:=lQ (o:=.lst (ld.map zad)) (lO.refl H7) hai;have Wo:upd H7 ai (.lst (ld.map zad)) ai=some (.lst (ld.map zad)):=lH;generalize upd H7 ai (.lst (ld.map zad))=H8 at uz Wo ⊢;refine⟨_,Z,bl,Z,⟨_,mj.of (uz _ _ Fk)⟩,?_⟩;refine rA (K:=K) (xs:=as.map zbb) bs (by rw[aa,Wh]) zoh (mj.of (uz _ _ Fk)) ?_ ?_
 .intro i x H9 hx vj R kk;obtain⟨b,row,rfl,hb,nA,hh⟩:=oM SF hx;exact⟨_,Z,b,_,Z,.inl (mj.of (vj _ _ (uz _ _ hh))),fun l hl=>kk _ l row (lQ (lO.refl _) hl) nA lH⟩
 intro hd H9 vj _ hhd;have Wp:=uz.trans vj;have rc:Rco bs.length (zct n l).length (2^78) (2^78):=K6 L L OJ L fun k _ _=>by lia
 refine⟨ai,hd,ld,bs,n,2^78,2^78,ps,l,Z,vj _ _ Wo,hhd,ll,bbl,n1,O,O,sS,rc,fun b hb z hz=>aS (Ct.Gk sS O (SI b hb).2 z hz) L,fun z hz=>aS (Ct.Gk sS O MA z hz) L,fun t ct IR cs xE MB h12 lc bc sh=>?way,fun t wt IR AW W s0 xE MB h12 lA s1 bA lW Sf sh=>?bar⟩
 case way =>
  try dsimp only[nu,qx,qu]
  have smA:=Wp.trans xE;have i0:oi [zdj "way",zbb ct] 0=some (.str "way"):=Z;refine⟨_,Z,_,_,_,true,Z,.tup MB,r9 _,true,Z,G6 ?_⟩;refine⟨_,Z,t,_,Z,.inr (mW.of MB),_,_,Z,Z,_,Z,oQ (by show ¬decide ((2:Int)<2)=true;decide) ?_⟩;refine⟨_,Z,t,_,_,_,Z,Z,mW.of MB,i0,Z,_,Z,rp L ?_⟩;refine⟨_,Z,_,Z,_,Z,t,la,bl,ct,ld,cs,bs,n,ps,l,Z,smA _ _ SH,⟨as,smA _ _ Fk,Paired.uB SF fun d x e=>smA _ _ e⟩,ll,fun x hx=>aS (MA x hx) G5,fun z hz=>⟨(SI z hz).1,fun x hx=>aS ((SI z hz).2 x hx) G5⟩,n1,O,O,sS,MB,h12,lc,bc,Ct.way sS n1 ll bbl sh,fun Mw oG=>⟨_,Z,oQ L (tl _ _ (smA.trans oG))⟩⟩
 case bar =>
  try dsimp only[nu,qx,qu]
  have smA:=Wp.trans xE;have i0:oi [zdj "bar",zbb wt,zad s0] 0=some (.str "bar"):=Z;have mf:mb=false:=by
   cases mb with
   | false=>rfl
   | true =>
    obtain⟨os,Wi,ev⟩:=evm Z;exact(Ct.KA Wi ev lW sh).elim
  have br:=Ct.bar sS ll bbl lW sh lA Sf;refine⟨_,Z,_,_,_,true,Z,.tup MB,r9 _,true,Z,G6 ?_⟩;refine⟨_,Z,t,_,Z,.inr (mW.of MB),_,_,Z,Z,_,Z,oQ (by show ¬decide ((3:Int)<2)=true;decide) ?_⟩;refine⟨_,Z,t,_,_,_,Z,Z,mW.of MB,i0,Z,_,Z,oQ L ?_⟩;refine⟨_,Z,mb,Z,oQ (by rw[mf];decide) ?_⟩;refine⟨_,Z,t,_,_,_,Z,Z,mW.of MB,i0,Z,_,Z,Ar Z ?_⟩;refine⟨_,Z,_,Z,_,Z,t,la,bl,wt,ld,AW,bs,s0,n,400,9007,ps,Z,smA _ _ SH,⟨as,smA _ _ Fk,Paired.uB SF fun d x e=>smA _ _ e⟩,ll,fun x hx=>bL (MA x hx) lh,fun z hz=>⟨(SI z hz).1,fun x hx=>bL ((SI z hz).2 x hx) lh⟩,n1,O,L,L,PJ,MB,h12,lA,s1,bA,fun p' st pm GZ en Sm z0 z1=>?_,br.1,br.2,fun Mw oG=>⟨_,Z,oQ L (tl _ _ (smA.trans oG))⟩⟩;rw[<-Ct.NZ sS (W:=W) pm GZ en z0 z1];refine zbc fun t' Cj=>?_;have pos:0<=(t':Int)*st:=bF O O;have bd:Sm+(t':Int)*st<n:=by
   have a1:=ar (show (t':Int)<=p'-1 by lia) (show 0<=(st:Int) by lia);have a2:(n:Int)=p'*st:=by rw[en,aI]
   rw[cZ] at a1;lia
  have:=Sf (Sm+(t':Int)*st).toNat O;rwa [cR O] at this
end
def all_mk {w:World}{K:zfq}{h:Heap}{mg:ś}{fa:Addr}(X:K.In h)(G:h.Ns mainGlobals mg)(hfa:mg "law"=some (.ref fa)){CF:Addr}{cN:Nat->Nat}(T:Txt K mg CF cN)(a:Fa K "law" JO)
 : ∃fd:FuncData,(∀(s:Shared)(v:Value),BindsTo s fd ⟨[v],[]⟩ [("script",v)])/\∀base:Heap,K.In base->base.Ns mainGlobals mg->tH l.prog w K mg base GQ 14 fa fd ["script"] (GE K):=by
  obtain⟨fd,F⟩:=a.law X G hfa;exact⟨fd,F.to (ba1 Z fun _ _ _ _ _ _ _=>Z),fun base _ _=>QQ T F⟩
def walk {q:Program}{loose:ō}{XP:(Str->Option Value)->Heap->Prop}{YP:World->Heap->Prop}{d:DefRec}{K:Params->zfq}(hn:l.most=some 63)(U5:d.params.defaults=[])
 (hY:∀(w:World)(h:Heap),YP w h->(K w.params).In h)
 (F:∀(w:World)(mg:ś)(fa:Addr)(h:Heap),(K w.params).In h->h.Ns mainGlobals mg->mg d.name=some (.ref fa) ->
 ∃fd:FuncData,(∀(s:Shared)(u:Value),BindsTo s fd ⟨[u],[]⟩ [("script",u)])/\∀base:Heap,(K w.params).In base->base.Ns mainGlobals mg->tH l.prog w (K w.params) mg base GQ 14 fa fd ["script"] (GE (K w.params))) :
    PySem.W.WalkO q loose XP YP l.row.toRowW d [] (fun f vs=>PySem.call f vs) :=
  L2.Oh (n:=63) (k:=14) (x:="script") (CX:=fun _=>GQ) (sp:=fun w=>GE (K w.params)) hn L U5 ⟨Z,L,L⟩ hY F (fun _ _ a ns hl _ hS=>⟨a,ns,Z,hS,hl,fun _=>Z⟩) fun _ _ _ _ _ z=>z
end K94
namespace PwT
noncomputable section
open PySem
abbrev S:=Str.ofString
def mM (l:ō):Nat->Str:=@List.rec Str (fun _=>Nat->Str) (fun _=>⟨#[]⟩) (fun a _ ih n=>@Nat.rec (fun _=>Str) a (fun m _=>ih m) n) l
noncomputable def A:ō:=[S "_law_primes",S "n",S "made",S "left",S "p",S "append",S "_law_load",S "cells",S "step",S "most",S "load",S "k",S "range",S "len",S "at",S "_law_near",S "_law_weighs",S "weights",S "total",S "_law_by",S "number",S "modulus",S "_law_bar",S "told",S "blocks",S "isinstance",S "list",S "_law_number",S "one",S "hole",S "sum",S ".0",S "block",S "fast",S "_law_way",S "x",S "value",S "added",S "times",S "whole",S "law",S "script",S "_law_cell_at",S "cell",S "many",S "often",S "other",S "zip",S "counter",S "tuple",S "way",S "bar",S "more",S "again",S "y",S "joint_wheel",S "plus",S "raised",S "laid_on",S "on",S "__name__",S "law_evenhub_k94_whole_counterweights_as_valu",S "found",S "int",S "bool",S "evenhub.tellings",S "bottom",S "NoNumber",S "a load is not divided by 0",S "rest",S "divisor_of_all",S "weight",S "enumerate",S "by",S "first",S "others",S "outcome",S "abs",S "divisor",S "NoWheel",S "the number of holes of the value's own wheel doesn't divide that of the other",S "finer",S "joint",S "MOST_HOLES",S "TooWide",S "the joint wheel of both values would have more than ",S " holes",S "scaled",S "inner_bar",S "frame",S "amounts",S "evenhub.counters",S "MOST_HOLES_COUNTERED",S "check_fit",S "counterweights are sought on wheels of at most ",S "holes",S "kept",S "reach",S "kept_rest",S "all_weighings",S "weighing",S "sought_within",S "steps",S "goal_made",S "sought_with",S "first_unbarred",S "counts",S "rows",S "whole_counts",S "goal",S "leads",S "leads_of",S "column",S "lead",S "barring",S "lessened",S "taken",S "centred",S "spared",S "summed",S "spread",S "chosen",S "top",S "size",S "hung",S "row",S "entered",S "euclid",S "mixed",S "beyond",S "place",S "later",S "weighed",S "next_prime",S "parts",S "is_shown",S "divides",S "sought",S "prime",S "Frame",S "missed",S "column_of",S "picked",S "fractions",S "rests",S "scale",S "bits",S "bit_length",S "least_bottom",S "evenhub.steps",S "FIRST_PRIME",S "first_filled",S "less",S "taken_times",S "undone_rows",S "back",S "solved",S "undoing",S "is_solution",S "count",S "all",S "__init__",S "self",S "corners",S "columns",S "cleared",S "flipped",S "things",S "places",S "numbers",S "dropped",S "q",S "first_dropped",S "evenhub.papers",S "is_kept",S "NoHole",S "the hole isn't kept",S "factors",S "part_weighing",S "share",S "kept_share",S "evenhub.frames",S "ring_holes",S "evenhub.rests",S "lay_ring",S "evenhub.primes",S "prime_power",S "NoTurn",S "the divisor of the step and the number isn't 1",S "evenhub.rings",S "NoFit",S "the loads have unlike numbers of holes",S "borne",S "brought",S "the finer wheel would have more than ",S "turn",S "next_turn",S "turned_on",S "pair",S "length",S "min",S "LEAD_BITS",S "behind",S "sure_turn",S "later_rest",S "new_rest",S "further",S "doubt",S "max",S "evenhub.loads",S "HubError",S "evenhub.wholes",S "great",S "small",S "evenhub.errors",S "ValueError",S "/claim/cut.py",S "<module>",S "__main__",S "__doc__",S "__package__",S "__loader__",S "__spec__",S "__annotations__",S "__builtins__",S "__file__",S "__cached__",S "__module__",S "__qualname__",S "__firstlineno__",S "__static_attributes__",S "__weakref__",S "Frame.__init__",S "Frame.missed",S "Frame.counts",S "Frame.weights",S "__dict__"]
set_option maxRecDepth 100000 in
noncomputable def BB:{b:ō // A=b}:=by
 refine⟨?b,?h⟩
 case h =>
  delta A
  repeat (refine cc (PySem.W.Fast.ofString_ofList _) (by dsimp only[List.map,Char.reduceToNat];exact Z) ?_)
  exact Z
def p (i:Nat):Str:=mM BB.1 i
theorem a0:S "_law_primes"=mM A 0:=rfl
theorem a1:S "n"=mM A 1:=rfl
theorem a2:S "made"=mM A 2:=rfl
theorem a3:S "left"=mM A 3:=rfl
theorem a4:S "p"=mM A 4:=rfl
theorem a5:S "append"=mM A 5:=rfl
theorem a6:S "_law_load"=mM A 6:=rfl
theorem a7:S "cells"=mM A 7:=rfl
theorem a8:S "step"=mM A 8:=rfl
theorem a9:S "most"=mM A 9:=rfl
theorem TY:S "load"=mM A 10:=rfl
theorem Ts:S "k"=mM A 11:=rfl
theorem TM:S "range"=mM A 12:=rfl
theorem UQ:S "len"=mM A 13:=rfl
theorem UH:S "at"=mM A 14:=rfl
theorem Tj:S "_law_near"=mM A 15:=rfl
theorem X5:S "_law_weighs"=mM A 16:=rfl
theorem XM:S "weights"=mM A 17:=rfl
theorem XZ:S "total"=mM A 18:=rfl
theorem a19:S "_law_by"=mM A 19:=rfl
theorem a20:S "number"=mM A 20:=rfl
theorem a21:S "modulus"=mM A 21:=rfl
theorem a22:S "_law_bar"=mM A 22:=rfl
theorem a23:S "told"=mM A 23:=rfl
theorem a24:S "blocks"=mM A 24:=rfl
theorem a25:S "isinstance"=mM A 25:=rfl
theorem a26:S "list"=mM A 26:=rfl
theorem a27:S "_law_number"=mM A 27:=rfl
theorem a28:S "one"=mM A 28:=rfl
theorem a29:S "hole"=mM A 29:=rfl
theorem a30:S "sum"=mM A 30:=rfl
theorem a31:S ".0"=mM A 31:=rfl
theorem a32:S "block"=mM A 32:=rfl
theorem a33:S "fast"=mM A 33:=rfl
theorem a34:S "_law_way"=mM A 34:=rfl
theorem a35:S "x"=mM A 35:=rfl
theorem a36:S "value"=mM A 36:=rfl
theorem a37:S "added"=mM A 37:=rfl
theorem a38:S "times"=mM A 38:=rfl
theorem a39:S "whole"=mM A 39:=rfl
theorem a40:S "law"=mM A 40:=rfl
theorem a41:S "script"=mM A 41:=rfl
theorem a42:S "_law_cell_at"=mM A 42:=rfl
theorem a43:S "cell"=mM A 43:=rfl
theorem a44:S "many"=mM A 44:=rfl
theorem a45:S "often"=mM A 45:=rfl
theorem a46:S "other"=mM A 46:=rfl
theorem a47:S "zip"=mM A 47:=rfl
theorem a48:S "counter"=mM A 48:=rfl
theorem a49:S "tuple"=mM A 49:=rfl
theorem a50:S "way"=mM A 50:=rfl
theorem a51:S "bar"=mM A 51:=rfl
theorem a52:S "more"=mM A 52:=rfl
theorem a53:S "again"=mM A 53:=rfl
theorem a54:S "y"=mM A 54:=rfl
theorem a55:S "joint_wheel"=mM A 55:=rfl
theorem a56:S "plus"=mM A 56:=rfl
theorem a57:S "raised"=mM A 57:=rfl
theorem a58:S "laid_on"=mM A 58:=rfl
theorem a59:S "on"=mM A 59:=rfl
theorem a60:S "__name__"=mM A 60:=rfl
theorem a61:S "law_evenhub_k94_whole_counterweights_as_valu"=mM A 61:=rfl
theorem a62:S "found"=mM A 62:=rfl
theorem a63:S "int"=mM A 63:=rfl
theorem a64:S "bool"=mM A 64:=rfl
theorem a65:S "evenhub.tellings"=mM A 65:=rfl
theorem a66:S "bottom"=mM A 66:=rfl
theorem a67:S "NoNumber"=mM A 67:=rfl
theorem a68:S "a load is not divided by 0"=mM A 68:=rfl
theorem a69:S "rest"=mM A 69:=rfl
theorem a70:S "divisor_of_all"=mM A 70:=rfl
theorem a71:S "weight"=mM A 71:=rfl
theorem a72:S "enumerate"=mM A 72:=rfl
theorem a73:S "by"=mM A 73:=rfl
theorem a74:S "first"=mM A 74:=rfl
theorem a75:S "others"=mM A 75:=rfl
theorem a76:S "outcome"=mM A 76:=rfl
theorem a77:S "abs"=mM A 77:=rfl
theorem a78:S "divisor"=mM A 78:=rfl
theorem a79:S "NoWheel"=mM A 79:=rfl
theorem a80:S "the number of holes of the value's own wheel doesn't divide that of the other"=mM A 80:=rfl
theorem a81:S "finer"=mM A 81:=rfl
theorem a82:S "joint"=mM A 82:=rfl
theorem a83:S "MOST_HOLES"=mM A 83:=rfl
theorem a84:S "TooWide"=mM A 84:=rfl
theorem a85:S "the joint wheel of both values would have more than "=mM A 85:=rfl
theorem a86:S " holes"=mM A 86:=rfl
theorem a87:S "scaled"=mM A 87:=rfl
theorem a88:S "inner_bar"=mM A 88:=rfl
theorem a89:S "frame"=mM A 89:=rfl
theorem a90:S "amounts"=mM A 90:=rfl
theorem a91:S "evenhub.counters"=mM A 91:=rfl
theorem a92:S "MOST_HOLES_COUNTERED"=mM A 92:=rfl
theorem a93:S "check_fit"=mM A 93:=rfl
theorem a94:S "counterweights are sought on wheels of at most "=mM A 94:=rfl
theorem a95:S "holes"=mM A 95:=rfl
theorem a96:S "kept"=mM A 96:=rfl
theorem a97:S "reach"=mM A 97:=rfl
theorem a98:S "kept_rest"=mM A 98:=rfl
theorem a99:S "all_weighings"=mM A 99:=rfl
theorem Ys:S "weighing"=mM A 100:=rfl
theorem Zb:S "sought_within"=mM A 101:=rfl
theorem Yd:S "steps"=mM A 102:=rfl
theorem zae:S "goal_made"=mM A 103:=rfl
theorem ZI:S "sought_with"=mM A 104:=rfl
theorem YY:S "first_unbarred"=mM A 105:=rfl
theorem Zj:S "counts"=mM A 106:=rfl
theorem Zy:S "rows"=mM A 107:=rfl
theorem XS:S "whole_counts"=mM A 108:=rfl
theorem Zp:S "goal"=mM A 109:=rfl
theorem Yy:S "leads"=mM A 110:=rfl
theorem Zg:S "leads_of"=mM A 111:=rfl
theorem YB:S "column"=mM A 112:=rfl
theorem Zw:S "lead"=mM A 113:=rfl
theorem Z1:S "barring"=mM A 114:=rfl
theorem XT:S "lessened"=mM A 115:=rfl
theorem X8:S "taken"=mM A 116:=rfl
theorem Y4:S "centred"=mM A 117:=rfl
theorem Zi:S "spared"=mM A 118:=rfl
theorem zah:S "summed"=mM A 119:=rfl
theorem Zx:S "spread"=mM A 120:=rfl
theorem ZF:S "chosen"=mM A 121:=rfl
theorem ZP:S "top"=mM A 122:=rfl
theorem XF:S "size"=mM A 123:=rfl
theorem XG:S "hung"=mM A 124:=rfl
theorem zak:S "row"=mM A 125:=rfl
theorem Zm:S "entered"=mM A 126:=rfl
theorem ZV:S "euclid"=mM A 127:=rfl
theorem X9:S "mixed"=mM A 128:=rfl
theorem YA:S "beyond"=mM A 129:=rfl
theorem ZQ:S "place"=mM A 130:=rfl
theorem XV:S "later"=mM A 131:=rfl
theorem zan:S "weighed"=mM A 132:=rfl
theorem zac:S "next_prime"=mM A 133:=rfl
theorem YQ:S "parts"=mM A 134:=rfl
theorem Y1:S "is_shown"=mM A 135:=rfl
theorem ZN:S "divides"=mM A 136:=rfl
theorem zat:S "sought"=mM A 137:=rfl
theorem YV:S "prime"=mM A 138:=rfl
theorem Yq:S "Frame"=mM A 139:=rfl
theorem ZO:S "missed"=mM A 140:=rfl
theorem Zo:S "column_of"=mM A 141:=rfl
theorem Zk:S "picked"=mM A 142:=rfl
theorem Yc:S "fractions"=mM A 143:=rfl
theorem Y5:S "rests"=mM A 144:=rfl
theorem zaf:S "scale"=mM A 145:=rfl
theorem Z5:S "bits"=mM A 146:=rfl
theorem ZD:S "bit_length"=mM A 147:=rfl
theorem YG:S "least_bottom"=mM A 148:=rfl
theorem zal:S "evenhub.steps"=mM A 149:=rfl
theorem ZH:S "FIRST_PRIME"=mM A 150:=rfl
theorem Zr:S "first_filled"=mM A 151:=rfl
theorem zaz:S "less"=mM A 152:=rfl
theorem Ze:S "taken_times"=mM A 153:=rfl
theorem ZG:S "undone_rows"=mM A 154:=rfl
theorem zav:S "back"=mM A 155:=rfl
theorem Z8:S "solved"=mM A 156:=rfl
theorem XJ:S "undoing"=mM A 157:=rfl
theorem Yu:S "is_solution"=mM A 158:=rfl
theorem Zh:S "count"=mM A 159:=rfl
theorem Y0:S "all"=mM A 160:=rfl
theorem YH:S "__init__"=mM A 161:=rfl
theorem Y7:S "self"=mM A 162:=rfl
theorem zab:S "corners"=mM A 163:=rfl
theorem X1:S "columns"=mM A 164:=rfl
theorem Zc:S "cleared"=mM A 165:=rfl
theorem Yw:S "flipped"=mM A 166:=rfl
theorem YK:S "things"=mM A 167:=rfl
theorem Y9:S "places"=mM A 168:=rfl
theorem zaC:S "numbers"=mM A 169:=rfl
theorem Yb:S "dropped"=mM A 170:=rfl
theorem zau:S "q"=mM A 171:=rfl
theorem XN:S "first_dropped"=mM A 172:=rfl
theorem Xz:S "evenhub.papers"=mM A 173:=rfl
theorem XB:S "is_kept"=mM A 174:=rfl
theorem Y2:S "NoHole"=mM A 175:=rfl
theorem XO:S "the hole isn't kept"=mM A 176:=rfl
theorem zam:S "factors"=mM A 177:=rfl
theorem ZB:S "part_weighing"=mM A 178:=rfl
theorem Z6:S "share"=mM A 179:=rfl
theorem zay:S "kept_share"=mM A 180:=rfl
theorem Yk:S "evenhub.frames"=mM A 181:=rfl
theorem YE:S "ring_holes"=mM A 182:=rfl
theorem Z2:S "evenhub.rests"=mM A 183:=rfl
theorem Y8:S "lay_ring"=mM A 184:=rfl
theorem YN:S "evenhub.primes"=mM A 185:=rfl
theorem Z7:S "prime_power"=mM A 186:=rfl
theorem Zt:S "NoTurn"=mM A 187:=rfl
theorem YD:S "the divisor of the step and the number isn't 1"=mM A 188:=rfl
theorem Zq:S "evenhub.rings"=mM A 189:=rfl
theorem Z3:S "NoFit"=mM A 190:=rfl
theorem Ye:S "the loads have unlike numbers of holes"=mM A 191:=rfl
theorem zaq:S "borne"=mM A 192:=rfl
theorem Zs:S "brought"=mM A 193:=rfl
theorem Ym:S "the finer wheel would have more than "=mM A 194:=rfl
theorem X7:S "turn"=mM A 195:=rfl
theorem Y3:S "next_turn"=mM A 196:=rfl
theorem ZY:S "turned_on"=mM A 197:=rfl
theorem XH:S "pair"=mM A 198:=rfl
theorem Zv:S "length"=mM A 199:=rfl
theorem Yn:S "min"=mM A 200:=rfl
theorem ZW:S "LEAD_BITS"=mM A 201:=rfl
theorem X4:S "behind"=mM A 202:=rfl
theorem Yi:S "sure_turn"=mM A 203:=rfl
theorem Yv:S "later_rest"=mM A 204:=rfl
theorem zaD:S "new_rest"=mM A 205:=rfl
theorem zap:S "further"=mM A 206:=rfl
theorem zaE:S "doubt"=mM A 207:=rfl
theorem XC:S "max"=mM A 208:=rfl
theorem XR:S "evenhub.loads"=mM A 209:=rfl
theorem ZE:S "HubError"=mM A 210:=rfl
theorem Zu:S "evenhub.wholes"=mM A 211:=rfl
theorem YZ:S "great"=mM A 212:=rfl
theorem XQ:S "small"=mM A 213:=rfl
theorem ZS:S "evenhub.errors"=mM A 214:=rfl
theorem YJ:S "ValueError"=mM A 215:=rfl
theorem Yp:S "/claim/cut.py"=mM A 216:=rfl
abbrev Ph (_ _:Program):Prop:=jd
theorem ph (a:Program):Ph a a:=trivial
set_option maxRecDepth 100000 in
noncomputable def G:ō->Program:=by
 refine(?F:(g:ō->Program)->Ph PySem.Challenge.pw_evenhub_k94_whole_counterweights_as_valu (g A)->ō->Program) ?g ?h
 case h =>
  delta PySem.Challenge.pw_evenhub_k94_whole_counterweights_as_valu
  dsimp only[a0,a1,a2,a3,a4,a5,a6,a7,a8,a9,TY,Ts,TM,UQ,UH,Tj,X5,XM,XZ,a19,a20,a21,a22,a23,a24,a25,a26,a27,a28,a29,a30,a31,a32,a33,a34,a35,a36,a37,a38,a39,a40,a41,a42,a43,a44,a45,a46,a47,a48,a49,a50,a51,a52,a53,a54,a55,a56,a57,a58,a59,a60,a61,a62,a63,a64,a65,a66,a67,a68,a69,a70,a71,a72,a73,a74,a75,a76,a77,a78,a79,a80,a81,a82,a83,a84,a85,a86,a87,a88,a89,a90,a91,a92,a93,a94,a95,a96,a97,a98,a99,Ys,Zb,Yd,zae,ZI,YY,Zj,Zy,XS,Zp,Yy,Zg,YB,Zw,Z1,XT,X8,Y4,Zi,zah,Zx,ZF,ZP,XF,XG,zak,Zm,ZV,X9,YA,ZQ,XV,zan,zac,YQ,Y1,ZN,zat,YV,Yq,ZO,Zo,Zk,Yc,Y5,zaf,Z5,ZD,YG,zal,ZH,Zr,zaz,Ze,ZG,zav,Z8,XJ,Yu,Zh,Y0,YH,Y7,zab,X1,Zc,Yw,YK,Y9,zaC,Yb,zau,XN,Xz,XB,Y2,XO,zam,ZB,Z6,zay,Yk,YE,Z2,Y8,YN,Z7,Zt,YD,Zq,Z3,Ye,zaq,Zs,Ym,X7,Y3,ZY,XH,Zv,Yn,ZW,X4,Yi,Yv,zaD,zap,zaE,XC,XR,ZE,Zu,YZ,XQ,ZS,YJ,Yp];generalize A=f;exact ph _
 case F=>exact fun g _=>g
end
end PwT
noncomputable def PySem.W.Fast.tw4304036444129990871:PySem.Program:=PwT.G PwT.BB.1
set_option maxRecDepth 100000 in
theorem PySem.W.Fast.te4304036444129990871:PySem.Challenge.pw_evenhub_k94_whole_counterweights_as_valu=PySem.W.Fast.tw4304036444129990871:=Eq.trans (b:=PwT.G PwT.A) zok (cA PwT.G PwT.BB.2)
namespace Hd
noncomputable section
open PySem PySem.W PwT PySem.W.Fast
abbrev PO:=Params->Obj
abbrev PB:=Params->BT
abbrev LF:Life:=(PySem.Life.mk [] [] [] 0 [] [] ú ⟨[]⟩ [] 0 ú ú ú (Ă 0) [(Ă 2000),(Ă 10),(Ă 10)] ú 0 đ [] [] 0 ú)
def nN (a:PO)(l r:PB):PB:=fun P=>.node (a P) (l P) (r P)
def nL (a:PO):PB:=fun P=>.node (a P) .nil .nil
abbrev TW:PySem.Program:=PySem.W.Fast.tw4304036444129990871
def tp (i:Nat):PySem.Stmt:=TW.main.body.getD i (.Pass ⟨0,0,0,0⟩)
abbrev E (P:Params)(q:PySem.Str)(t:Nat)(v:Value):DictEntry:=⟨PyData.keyHash P q,.str q t,v⟩
abbrev I (n t:Nat):Value:=.int (Ă n) t
noncomputable abbrev l0:String:=SL.s2766695959194262286x5
def o0:PO:=fun P=>Obj.mk (.type l0) none (.seq ⟨[]⟩ 0) ⟨[]⟩
def o2:PO:=fun P=>Obj.mk .none none (.fields ⟨[]⟩) ⟨[]⟩
noncomputable abbrev l1:String:=SL.s5856160107412720595x4
def ha (a:Str)(b:Nat)(c:Nat)(d:Nat):PO:=fun _=>Obj.mk (.type l1) none (.fields ⟨[(.str a b),(.str a (b+1)),(.str (p 216) (b+2)),(I c 0),(I 0 0),(I 0 0),(I 0 0),(I 0 0),(.ref d),(.bool ú),(I 181 0),(.ref (d+1)),.none,.none,.none,.none,(I (b+3) 0),(I c 0),(.str (p 216) (b+4))]⟩) ⟨[]⟩
def o3:PO:=ha (p 217) 182 1 11
noncomputable abbrev l2:String:=SL.s658472552662922059x5
def hb (a:Nat)(b:Nat)(c:Str)(d:Nat):PO:=fun _=>Obj.mk (.type l2) none .plain ⟨[(some (.ref a)),(some (.ref 3)),(some (.ref b)),none,(some (.str c d)),none,(some (.ref 0))]⟩
def o7:PO:=hb 13 3 (p 218) 164
def Ta:PB:=(nN boot_o_0 (nN boot_o_1 (nN boot_o_3 (nL boot_o_7) (nL o0)) (nN boot_o_5 (nL boot_o_9) (nL o3))) (nN boot_o_2 (nN boot_o_4 (nL boot_o_8) (nL o2)) (nN boot_o_6 (nL boot_o_10) (nL o7))))
def Sta (w:PySem.World)(os:PySem.OsState):PySem.W.SharedT:=PySem.W.SharedT.mk (Ta w.params) 15 LF (þ []) (PySem.Drawn.mk 0 0 0 0) 187 os
def Tb:PB:=Ta
def Uh (w:PySem.World)(os:PySem.OsState):PySem.W.SharedT:=PySem.W.SharedT.mk (Tb w.params) 15 LF (þ []) (PySem.Drawn.mk 0 0 0 0) 187 os
noncomputable def env:PySem.Env:={ scope:=TW.main.scope,locals:=PySem.mainNs,globals:=PySem.mainNs,cells:=[],code:=(.ref 13),frame:=some 14 }
abbrev ann:Option PySem.Value:=(some (.ref 6))
abbrev m0:Nat:=11
noncomputable abbrev Bs:List PySem.Frame:=[PySem.W.topFrame (PySem.Pos.mk 0 0 0 0)]
abbrev cE:PySem.Code:=.body (behindTheImports TW) env
abbrev Ur:PySem.Pos:=(PySem.Pos.mk 0 0 0 0)
abbrev posB:PySem.Pos:=(PySem.Pos.mk 0 0 0 0)
abbrev kA:Nat:=12
abbrev kB:Nat:=0
abbrev kF:Nat:=1
noncomputable abbrev l3:String:=SL.s14018661285674007319x4
noncomputable abbrev l4:String:=SL.s7097527257260152453x26
noncomputable abbrev l5:String:=SL.s6070975301684473832x10
noncomputable abbrev l6:String:=SL.s11030030927630378310x26
noncomputable abbrev l7:String:=SL.s10062305145149207511x16
noncomputable abbrev l8:String:=SL.s17162191345867700912x4
def Ux:PO:=fun P=>Obj.mk (.type l6) none (.fields ⟨[(.builtin l7),(.type l8)]⟩) ⟨[]⟩
noncomputable abbrev l9:String:=SL.s5946037652744460706x9
noncomputable abbrev l10:String:=SL.s4278001404047624695x13
noncomputable abbrev Wr:String:=SL.s2742458400755230247x6
noncomputable abbrev l12:String:=SL.s4209523147560561109x18
noncomputable abbrev ZK:String:=SL.s14755015743595814543x17
noncomputable abbrev l14:String:=SL.s10220274742760427390x26
noncomputable abbrev l15:String:=SL.s4290257624100764138x5
def hc (a:Nat):PO:=fun _=>Obj.mk (.type l15) none (.fields ⟨[(.ref a),(.ref a),(.ref a)]⟩) ⟨[]⟩
noncomputable abbrev l16:String:=SL.s4860613602091757760x24
def hd (a:Nat):PO:=fun _=>Obj.mk (.type l6) none (.fields ⟨[(.builtin l16),(.ref a)]⟩) ⟨[]⟩
def YO:PO:=fun P=>Obj.mk (.type l0) none (.seq ⟨[(.ref 24)]⟩ 0) ⟨[]⟩
def he (a:Str)(b:Nat)(c:Nat)(d:Nat)(e:Nat):PO:=fun _=>Obj.mk (.type l8) none (.cls (PySem.ClassData.mk a [(.ref 24)] [(.ref b),(.ref 24),(.type l5),(.type l9),(.type l10),(.type Wr)] c a đ [] [] ú none ú)) ⟨[(some (.ref d)),none,(some (.str a e)),(some (.str a (e+8))),(some (.builtin l12)),(some (.bool đ))]⟩
def hg (a:Str)(b:Nat):PO:=fun _=>Obj.mk .none none (.func { fnOf a a (L2.n9 (tp b)) (L2.nH (tp b)) (L2.lU (tp b)) .none .none .none .none none .none .none with globals:=0,builtins:=0 }) ⟨[]⟩
def hh (a:Str)(b:Nat)(c:Str)(d:Nat)(e:Nat)(f:Nat)(g:Value)(h:Value)(i:Nat)(j:Nat):PO:=fun _=>Obj.mk (.type l1) none (.fields ⟨[(.str a b),(.str c (b+1)),(.str (p 216) (b+2)),(I d 0),(I e 0),(I 0 0),(I 0 0),(I 3 0),(.ref f),(.bool đ),(I 181 0),(.ref (f+1)),.none,g,h,(.ref i),(I j 0),(I d 0),(.str (p 216) (j+1))]⟩) ⟨[]⟩
noncomputable abbrev X6:String:=SL.s7174869446012820540x8
def hi (a:Str)(b:Nat)(c:Str)(d:Nat)(e:Nat):PO:=fun _=>Obj.mk (.type X6) none (.func (fnOf a a (L2.n9 (tp b)) (L2.nH (tp b)) (L2.lU (tp b)) .none .none .none (.str c d) none (.ref e) .none)) ⟨[]⟩
def hj (a:Str)(b:Nat)(c:Str):PO:=fun _=>Obj.mk (.type l0) none (.seq ⟨[(.str a b),(.str c (b+1))]⟩ 0) ⟨[]⟩
def hn (a:Str)(b:Nat)(c:Str)(d:Str):PO:=fun _=>Obj.mk (.type l0) none (.seq ⟨[(.str a b),(.str c (b+1)),(.str d (b+2))]⟩ 0) ⟨[]⟩
def ho (a:Str)(b:Str)(c:Nat):PO:=fun _=>Obj.mk .none none (.func { fnOf a b (L2.n9 (zdm (tp 44) c)) (L2.nH (zdm (tp 44) c)) (L2.lU (zdm (tp 44) c)) .none .none .none .none none .none .none with globals:=0,builtins:=0 }) ⟨[]⟩
def hp (a:Str)(b:Str)(c:Nat)(d:Nat):PO:=fun _=>Obj.mk (.type X6) none (.func (fnOf a b (L2.n9 (zdm (tp 44) c)) (L2.nH (zdm (tp 44) c)) (L2.lU (zdm (tp 44) c)) .none .none .none (.str (p 181) 558) none (.ref d) .none)) ⟨[]⟩
noncomputable abbrev l18:String:=SL.s11443829558043349243x14
noncomputable abbrev l19:String:=SL.s6511155373996960695x17
noncomputable abbrev l20:String:=SL.s12411053484034534018x21
def sv:Nat->ŏ->ņ
 | _,[]=>[]
 | t,x::l=>.str (p x) t::sv (t+1) l
abbrev DD:=List (Nat×Nat×Nat×ŏ)
def gd (M m:Nat):Nat->Nat->Nat->DD->List PO->List PO
 | _,_,_,[],r=>r
 | i,a,t,(n,c,k,[])::l,r=>o0::o2::hg (p n) i::hh (p n) t (p n) c k a .none .none (a+2) (t+3)::hi (p n) i (p M) m (a+3)::gd M m (i+1) (a+5) (t+6) l r
 | i,a,t,(n,c,k,y::v)::l,r=>o0::o2::(fun _=>Obj.mk (.type l0) none (.seq ⟨sv (t+3) (y::v)⟩ 0) ⟨[]⟩)::o0::hg (p n) i::hh (p n) t (p n) c k a (.ref (a+2)) (.ref (a+3)) (a+4) (t+4+v.length)::hi (p n) i (p M) m (a+5)::gd M m (i+1) (a+7) (t+7+v.length) l r
def gq (P:Params):Nat->Nat->DD->List DictEntry->List DictEntry
 | _,_,[],r=>r
 | a,t,(n,_,_,[])::l,r=>E P (p n) (t+5) (.ref (a+4))::gq P (a+5) (t+6) l r
 | a,t,(n,_,_,_::v)::l,r=>E P (p n) (t+6+v.length) (.ref (a+6))::gq P (a+7) (t+7+v.length) l r
def gc:Nat->DD->ņ->ņ
 | _,[],r=>r
 | a,(_,c,_,[])::l,r=>I c 0::I 0 0 :: .ref (a+3)::gc (a+5) l r
 | a,(_,c,_,_::_)::l,r=>I c 0::I 0 0 :: .ref (a+5)::gc (a+7) l r
def gx:Nat->Nat->Nat->ŏ->List PO->List PO
 | _,_,_,[],r=>r
 | a,t,c,n::l,r=>YO::Ux::(fun P=>Obj.mk (.type l3) none (.dict ⟨[E P (p 227) (t+7) (.str (p 214) 187),E P (p 228) (t+9) (.str (p n) (t+8)),E P (p 229) (t+11) (I c (t+10)),E P (p 230) (t+12) (.ref (a+7))]⟩ 4) ⟨[]⟩)::o0::o2::ha (p n) (t+2) c (a+3)::hb (a+5) (a+2) (p 214) 187::o0::(fun P=>Obj.mk (.type l3) none (.dict ⟨[E P (p 227) (t+7) (.str (p 214) 187),E P (p 229) (t+11) (I c (t+10)),E P (p 230) (t+12) (.ref (a+7)),E P (p 219) (t+13) .none]⟩ 2) ⟨[]⟩)::he (p n) (a+9) (a+8) a t::hc (a+9)::hd (a+9)::gx (a+12) (t+16) (c+2) l r
def gy (P:Params):Nat->Nat->ŏ->List DictEntry->List DictEntry
 | _,_,[],r=>r
 | a,t,n::l,r=>E P (p n) (t+15) (.ref (a+9))::gy P (a+12) (t+16) l r
def gw:Nat->Nat->ŏ->ņ->ņ
 | _,_,[],r=>r
 | a,c,_::l,r=>I c 0::I 0 0 :: .ref (a+5)::gw (a+12) (c+2) l r
noncomputable abbrev d0:DD:=[(78,18,2,[28,46,212,213,3]),(82,26,2,[28,46]),(127,28,3,[28,46,146,144,106,195]),(197,36,2,[198,195]),(196,38,2,[144,146,199,202,195]),(203,46,2,[69,204,195,44,205,206,207])]
noncomputable abbrev d1:DD:=[(124,61,3,[1,29,71,76]),(56,65,2,[]),(93,68,2,[28,46]),(87,71,2,[]),(58,73,2,[]),(193,77,3,[]),(81,80,2,[10,44,1,76,29,71])]
noncomputable abbrev d2:DD:=[(134,89,1,[1,62,3,4,171]),(186,102,2,[1,4,171]),(155,107,2,[8,1,23])]
noncomputable abbrev d3:DD:=[(184,113,4,[10,4,29,44,130]),(182,116,3,[1,4,29,8])]
noncomputable abbrev d4:DD:=[(179,120,3,[1,171,29]),(174,122,2,[]),(172,124,2,[4,171]),(96,126,1,[]),(69,128,1,[10,1,3,107,4,171,29,44]),(170,139,3,[])]
noncomputable abbrev d5:DD:=[(132,143,2,[]),(100,146,2,[]),(178,155,3,[4,171,180,8,177])]
noncomputable abbrev d6:DD:=[(142,183,2,[]),(120,185,3,[123,168,169,76,130,20]),(166,190,1,[]),(141,192,2,[]),(163,194,2,[102,138,62,20,8,3,112]),(165,202,3,[]),(151,207,1,[125,112,20]),(115,212,4,[]),(153,216,3,[]),(154,218,2,[]),(156,226,4,[])]
noncomputable abbrev d7:DD:=[(142,183,2,[]),(120,185,3,[123,168,169,76,130,20]),(166,190,1,[]),(141,192,2,[]),(163,194,2,[102,138,62,20,8,3,112]),(165,202,3,[]),(151,207,1,[125,112,20]),(115,212,4,[]),(153,216,3,[]),(154,218,2,[]),(156,226,4,[]),(158,241,3,[]),(143,245,2,[]),(148,253,3,[20,145,146]),(117,255,2,[20,145,69])]
noncomputable abbrev d8:DD:=[(97,260,2,[102,109,138,23]),(133,267,1,[20,62]),(135,272,3,[102,109,23]),(119,276,3,[]),(105,281,2,[102,51,20,8]),(136,286,2,[21,20]),(137,290,3,[]),(101,299,3,[102,89,103,75,23,20]),(104,309,4,[]),(108,325,2,[]),(111,327,3,[]),(126,332,3,[]),(128,344,5,[]),(114,346,3,[110,112,21,90,130,113,131]),(88,353,2,[])]
noncomputable abbrev d9:DD:=[(48,358,2,[]),(98,369,2,[]),(99,372,3,[1,95,17,76,29,44])]
noncomputable abbrev d10:DD:=[(36,378,2,[]),(70,389,2,[74,75,76,20]),(39,394,1,[44]),(59,396,2,[35,1]),(55,400,2,[35,54,1]),(57,405,3,[35,54,1]),(37,407,2,[35,54,1]),(38,410,2,[35,54,1])]
noncomputable abbrev ZR:DD:=[(42,414,2,[41,11]),(15,418,2,[43,9,3]),(27,423,1,[62]),(0,425,1,[1,2,3,4]),(6,436,4,[1,7,8,9,10,11,14]),(16,442,2,[10,17,18,11]),(19,447,2,[20,21]),(22,451,3,[]),(34,466,3,[23,10,24,35,11]),(40,475,1,[])]
noncomputable abbrev e0:ŏ:=[187,190,84,175,79,67]
def al:Bool->List PO->List PO
 | _,[]=>[]
 | true,x::l=>x::al false l
 | false,_::l=>al true l
def bt:Nat->List PO->PB
 | k+1,x::l=>nN x (bt k (al true l)) (bt k (al false l))
 | _,_=>fun _=>.nil
def u0:PO:=ha (p 217) 182 1 11
def u1:PO:=hb 13 3 (p 218) 164
def u2:PO:=fun P=>Obj.mk (.type l0) none (.seq ⟨[(.type l5)]⟩ 0) ⟨[]⟩
def u3:PO:=fun P=>Obj.mk (.type l3) none (.dict ⟨[(E P (p 227) 196 (.str (p 214) 187)),(E P (p 228) 198 (.str (p 210) 197)),(E P (p 229) 200 (I 2 199)),(E P (p 230) 201 (.ref 22))]⟩ 4) ⟨[]⟩
def u4:PO:=ha (p 210) 191 2 18
def u5:PO:=hb 20 17 (p 214) 187
def u6:PO:=fun P=>Obj.mk (.type l3) none (.dict ⟨[(E P (p 227) 196 (.str (p 214) 187)),(E P (p 229) 200 (I 2 199)),(E P (p 230) 201 (.ref 22)),(E P (p 231) 203 (.ref 25)),(E P (p 219) 204 .none)]⟩ 3) ⟨[]⟩
def u7:PO:=fun P=>Obj.mk (.type l8) none (.cls (PySem.ClassData.mk (p 210) [(.type l5)] [(.ref 24),(.type l5),(.type l9),(.type l10),(.type Wr)] 23 (p 210) đ [] [(.ref 37),(.ref 49),(.ref 61),(.ref 73),(.ref 85),(.ref 97)] ú none ú)) ⟨[(some (.ref 15)),none,(some (.str (p 210) 189)),(some (.str (p 210) 197)),(some (.builtin l12)),(some (.bool đ))]⟩
def u8:PO:=fun P=>Obj.mk (.type ZK) none (.fields ⟨[(.str (p 231) 202),(.ref 24),(.builtin l14),.none]⟩) ⟨[]⟩
def u9:PO:=fun P=>Obj.mk (.type l3) none (.dict ⟨[(E P (p 227) 567 (.str (p 181) 558)),(E P (p 228) 569 (.str (p 139) 568)),(E P (p 229) 571 (I 162 570)),(E P (p 161) 577 (.ref 282)),(E P (p 140) 585 (.ref 289)),(E P (p 106) 593 (.ref 296)),(E P (p 17) 602 (.ref 303)),(E P (p 230) 611 (.ref 304))]⟩ 8) ⟨[]⟩
def u10:PO:=fun P=>Obj.mk .none none (.fields ⟨[(I 164 0),(I 4 0),(.ref 281),(I 174 0),(I 4 0),(.ref 288),(I 177 0),(I 4 0),(.ref 295),(I 180 0),(I 4 0),(.ref 302)]⟩) ⟨[]⟩
def u11:PO:=ha (p 139) 562 162 274
def u12:PO:=hb 276 273 (p 181) 558
def u13:PO:=ho (p 161) (p 232) 0
def u14:PO:=hh (p 161) 572 (p 232) 164 4 278 .none .none 280 575
def u15:PO:=hp (p 161) (p 232) 0 281
def u16:PO:=hj (p 162) 581 (p 109)
def u17:PO:=ho (p 140) (p 233) 1
def u18:PO:=hh (p 140) 578 (p 233) 174 2 283 (.ref 285) (.ref 286) 287 583
def u19:PO:=hp (p 140) (p 233) 1 288
def u20:PO:=hj (p 162) 589 (p 109)
def u21:PO:=ho (p 106) (p 234) 2
def u22:PO:=hh (p 106) 586 (p 234) 177 2 290 (.ref 292) (.ref 293) 294 591
def u23:PO:=hp (p 106) (p 234) 2 295
def u24:PO:=hn (p 162) 597 (p 90) (p 23)
def u25:PO:=ho (p 17) (p 235) 3
def u26:PO:=hh (p 17) 594 (p 235) 180 2 297 (.ref 299) (.ref 300) 301 600
def u27:PO:=hp (p 17) (p 235) 3 302
def u28:PO:=fun P=>Obj.mk (.type l0) none (.seq ⟨[(.str (p 121) 603),(.str (p 164) 604),(.str (p 62) 605),(.str (p 21) 606),(.str (p 138) 607),(.str (p 107) 608),(.str (p 123) 609),(.str (p 157) 610)]⟩ 0) ⟨[]⟩
def u29:PO:=fun P=>Obj.mk (.type l3) none (.dict ⟨[(E P (p 227) 567 (.str (p 181) 558)),(E P (p 229) 571 (I 162 570)),(E P (p 161) 577 (.ref 282)),(E P (p 140) 585 (.ref 289)),(E P (p 106) 593 (.ref 296)),(E P (p 17) 602 (.ref 303)),(E P (p 230) 611 (.ref 304)),(E P (p 236) 613 (.ref 307)),(E P (p 231) 615 (.ref 308)),(E P (p 219) 616 .none)]⟩ 4) ⟨[]⟩
def u30:PO:=fun P=>Obj.mk (.type l8) none (.cls (PySem.ClassData.mk (p 139) [(.type Wr)] [(.ref 306),(.type Wr)] 305 (p 139) đ [] [] ú none ú)) ⟨[none,none,(some (.str (p 139) 560)),(some (.str (p 139) 568)),(some (.builtin l18)),(some (.bool đ))]⟩
def u31:PO:=fun P=>Obj.mk (.type ZK) none (.fields ⟨[(.str (p 236) 612),(.ref 306),(.builtin l19),(.builtin l20)]⟩) ⟨[]⟩
def u32:PO:=fun P=>Obj.mk (.type ZK) none (.fields ⟨[(.str (p 231) 614),(.ref 306),(.builtin l14),.none]⟩) ⟨[]⟩
def o24:PO:=fun P=>Obj.mk (.type l3) none (.dict ⟨(E P (p 60) 165 (.str (p 181) 558))::(E P (p 219) 166 .none)::(E P (p 220) 167 .none)::(E P (p 221) 168 (.builtin l4))::(E P (p 222) 169 .none)::(E P (p 223) 170 (.ref 6))::(E P (p 224) 171 (.ref 4))::(E P (p 225) 173 (.str (p 216) 172))::(E P (p 226) 174 .none)::(E P (p 210) 206 (.ref 24))::gy P 28 207 e0 ((E P (p 201) 306 (I 128 305))::gq P 100 307 d0 ((E P (p 83) 373 (I 420 372))::gq P 142 374 d1 (gq P 183 430 d2 (gq P 204 461 d3 (gq P 218 484 d4 (gq P 254 535 d5 ((E P (p 139) 618 (.ref 306))::gq P 311 619 d6 ([]))))))))⟩ 57) ⟨[]⟩
def o85:PO:=fun P=>Obj.mk .none none (.fields ⟨(I 2 0)::(I 0 0)::(.ref 20)::gw 28 4 e0 (gc 100 d0 (gc 142 d1 (gc 183 d2 (gc 204 d3 (gc 218 d4 (gc 254 d5 ((I 162 0)::(I 0 0)::(.ref 276)::gc 311 d6 ([]))))))))⟩) ⟨[]⟩
def T0:PB:=bt 9 (boot_o_0::boot_o_1::boot_o_2::o24::boot_o_4::boot_o_5::boot_o_6::boot_o_7::boot_o_8::boot_o_9::boot_o_10::o0::o85::u0::u1::u2::Ux::u3::o0::o2::u4::u5::o0::u6::u7::u8::(hc 24)::(hd 24)::gx 28 207 4 e0 (gd 211 303 10 100 307 d0 (gd 209 370 18 142 374 d1 (gd 185 428 26 183 430 d2 (gd 189 459 30 204 461 d3 (gd 183 482 33 218 484 d4 (gd 173 533 40 254 535 d5 (o0::Ux::u9::o0::u10::u11::u12::o0::o2::u13::u14::u15::o0::o2::u16::o0::u17::u18::u19::o0::o2::u20::o0::u21::u22::u23::o0::o2::u24::o0::u25::u26::u27::u28::u29::u30::u31::u32::(hc 306)::(hd 306)::gd 181 558 45 311 619 d6 ([])))))))))
def St0 (w:PySem.World)(os:PySem.OsState):PySem.W.SharedT:=PySem.W.SharedT.mk (T0 w.params) 372 LF (þ []) (PySem.Drawn.mk 0 0 0 0) 701 os
def ZX:PO:=fun P=>Obj.mk (.type l3) none (.dict ⟨(E P (p 60) 165 (.str (p 61) 950))::(E P (p 219) 166 .none)::(E P (p 220) 167 .none)::(E P (p 221) 168 (.builtin l4))::(E P (p 222) 169 .none)::(E P (p 223) 170 (.ref 6))::(E P (p 224) 171 (.ref 4))::(E P (p 225) 173 (.str (p 216) 172))::(E P (p 226) 174 .none)::(E P (p 210) 206 (.ref 24))::gy P 28 207 e0 ((E P (p 201) 306 (I 128 305))::gq P 100 307 d0 ((E P (p 83) 373 (I 420 372))::gq P 142 374 d1 (gq P 183 430 d2 (gq P 204 461 d3 (gq P 218 484 d4 (gq P 254 535 d5 ((E P (p 139) 618 (.ref 306))::gq P 311 619 d7 ((E P (p 150) 734 (I 1000000007 733))::gq P 396 735 d8 ((E P (p 92) 856 (I 60 855))::gq P 485 857 d9 (gq P 502 883 d10 (gq P 556 952 ZR ([]))))))))))))⟩ 99) ⟨[]⟩
def Z0:PO:=fun P=>Obj.mk .none none (.fields ⟨(I 2 0)::(I 0 0)::(.ref 20)::gw 28 4 e0 (gc 100 d0 (gc 142 d1 (gc 183 d2 (gc 204 d3 (gc 218 d4 (gc 254 d5 ((I 162 0)::(I 0 0)::(.ref 276)::gc 311 d7 (gc 396 d8 (gc 485 d9 (gc 502 d10 (gc 556 ZR ([]))))))))))))⟩) ⟨[]⟩
def T1:PB:=bt 10 (boot_o_0::boot_o_1::boot_o_2::ZX::boot_o_4::boot_o_5::boot_o_6::boot_o_7::boot_o_8::boot_o_9::boot_o_10::o0::Z0::u0::u1::u2::Ux::u3::o0::o2::u4::u5::o0::u6::u7::u8::(hc 24)::(hd 24)::gx 28 207 4 e0 (gd 211 303 10 100 307 d0 (gd 209 370 18 142 374 d1 (gd 185 428 26 183 430 d2 (gd 189 459 30 204 461 d3 (gd 183 482 33 218 484 d4 (gd 173 533 40 254 535 d5 (o0::Ux::u9::o0::u10::u11::u12::o0::o2::u13::u14::u15::o0::o2::u16::o0::u17::u18::u19::o0::o2::u20::o0::u21::u22::u23::o0::o2::u24::o0::u25::u26::u27::u28::u29::u30::u31::u32::(hc 306)::(hd 306)::gd 181 558 45 311 619 d7 (gd 149 731 62 396 735 d8 (gd 91 853 79 485 857 d9 (gd 65 881 83 502 883 d10 (gd 61 950 92 556 952 ZR ([])))))))))))))
def St1 (w:PySem.World)(os:PySem.OsState):PySem.W.SharedT:=PySem.W.SharedT.mk (T1 w.params) 622 LF (þ []) (PySem.Drawn.mk 0 0 0 0) 1040 os
def Tf:PB:=T1
def Wz (w:PySem.World)(os:PySem.OsState):PySem.W.SharedT:=PySem.W.SharedT.mk (Tf w.params) 622 LF (þ []) (PySem.Drawn.mk 0 0 0 0) 1040 os
noncomputable abbrev AS:List PySem.Addr:=ĵ 0 16++[22,23,24,25,28,35,36,37,40,47,48,49,52,59,60,61,64,71,72,73,76,83,84,85,88,95,96,97]++ĵ 100 171++ĵ 278 31++ĵ 311 311
def KF:Params->Frag:=fun P=>AS.map fun a=>(a,((Tf P).get a).getD (o0 P))
noncomputable abbrev keep:ŏ:=[1,2,3,4,5,6,7,9,10,11,12,13,14,15,17,18,19,20,21,22,23,24,26,27,28,30,31,33,34,35,36,37,38,40,41,42,44,45,46,47,48,49,50,51,52,53,54,55,56,57,58,59,61,62,63,64,65,66,67,68,69,70,71,72,73,74,75,76,78,79,80,81,83,84,85,86,87,88,89,90,92,93,94,95,96,97,98,99,100,101]
noncomputable abbrev loose:List PySem.Str:=[]
abbrev QK:List PySem.Stmt:=((behindTheImports TW).drop 0).take 56
abbrev Te:PySem.Pos:=(PySem.Pos.mk 226 0 240 15)
abbrev PN:List PySem.Stmt:=((behindTheImports TW).drop 56).take 46
abbrev UI:PySem.Pos:=(PySem.Pos.mk 475 0 504 89)
theorem pre (w:World):(fun os=>topGo treeTable TW w m0 ann kA ⟨boot_heap w.params,þ [],boot_drawn,boot_toks,os⟩ (topStub TW))=fun os=>some ((Sta w os).abs,⟨denote treeTable cE,cE,Ur,Bs⟩):=by
 rw[te15667345088766844465,te14364793385576792824,te11892475500146522536]
 kernel_rfl
theorem blk (w:World):(fun os=>segRunT treeTable TW w m0 ann 1 (kB+1) (Sta w os) (blockOf (behindTheImports TW) env cE Ur Bs))=fun os=>some (Flow.next,Uh w os,cE,posB):=by
 rw[te10110043849684766642,te14364793385576792824]
 kernel_rfl
theorem pc0 (w:World):(fun os=>segRunT treeTable TW w m0 ann 1 3000 (Uh w os) (piecesOf QK env cE posB Bs))=fun os=>some (Flow.next,St0 w os,cE,Te):=by
 rw[te10110043849684766642,te14364793385576792824]
 kernel_rfl
theorem pc1 (w:World):(fun os=>segRunT treeTable TW w m0 ann 1 1232 (St0 w os) (piecesOf PN env cE Te Bs))=fun os=>some (Flow.next,St1 w os,cE,UI):=by
 rw[te10110043849684766642,te14364793385576792824]
 kernel_rfl
theorem fin (w:World):(fun os=>topRun treeTable TW w m0 ann (kF+1) (St1 w os).abs ⟨doneF Flow.next,cE,UI,Bs⟩)=fun os=>some (Wz w os).abs:=by
 rw[te14082659384304107361,te14364793385576792824]
 kernel_rfl
theorem cut:behindTheImports TW=QK++(PN++[]):=by kernel_rfl
theorem rest (w:World)(os:OsState):topRun treeTable TW w m0 ann (3000+(1232+(kF+1))) (Uh w os).abs (restOf (behindTheImports TW) env cE posB Bs)=some (Wz w os).abs:=by
 have h:topRun treeTable TW w m0 ann (3000+(1232+(kF+1))) (Uh w os).abs (restOf (QK++(PN++[])) env cE posB Bs)=some (Wz w os).abs:=piece_app (segRun_of (eR (pc0 w) os)) (piece_app (segRun_of (eR (pc1 w) os)) (piece_nil (eR (fin w) os)));exact(cA (fun b=>topRun treeTable TW w m0 ann (3000+(1232+(kF+1))) (Uh w os).abs (restOf b env cE posB Bs)) cut).trans h
theorem run (w:World)(os:OsState):topRun treeTable TW w m0 ann (kA+(kB+1+(3000+(1232+(kF+1))))) ⟨boot_heap w.params,þ [],boot_drawn,boot_toks,os⟩ (topStub TW)=some (Wz w os).abs:=go_top (eR (pre w) os) (piece_block (segRun_of (eR (blk w) os)) (rest w os))
theorem opn:opening TW=plainProg TW.main.scope.names:=by
 kernel_rfl
theorem fence (s:Shared):fenceModules? TW s=some s:=by
 try rw[te14289696077712309145]
 kernel_rfl
theorem size (w:World):((boot_heap w.params).isNs mainGlobals && (þ []:Array GenState).size == 0,(boot_heap w.params).objs.size,(boot_heap w.params).nsMap mainGlobals "__annotations__")=(true,m0,ann):=by
 try rw[te8920871248978507458]
 kernel_rfl
abbrev Q:PySem.Program:=view TW keep
def Hf (P:Params):Heap:=absHeap (Tf P) 622 LF
abbrev Xt (s:Shared):Bool:=xlAt Q [] s && recOk (RowW.records (OpenRow.toRowW (OpenLaw.row PySem.Challenge.rw_evenhub_k94_whole_counterweights_as_valu))) s
abbrev Os (w:World)(os:OsState):=openSeen Q loose (importedModules TW.main.body) Xt true ⟨Hf w.params,(þ []),(PySem.Drawn.mk 0 0 0 0),1040,os⟩
theorem lk0 (w:World)(os:OsState):(staticsOk (importedModules TW.main.body) (boot_heap w.params) (Hf w.params) && namesBound TW (Hf w.params) && gensDone ⟨Hf w.params,(þ []),(PySem.Drawn.mk 0 0 0 0),1040,os⟩ && laidKept (boot_heap w.params) (Hf w.params))=true:=by
 rw[te5923862056798008813];kernel_rfl
theorem lq0 (w:World)(os:OsState):(Os w os).1=(openGood Q loose).1:=by
 unfold Os openSeen openGood;dsimp only;rw[te5160383126252970620,te3399658132070893891,te5991557255702980513];kernel_rfl
theorem lq1 (w:World)(os:OsState):(Os w os).2.1=(openGood Q loose).2.1:=by
 unfold Os openSeen openGood;dsimp only
 kernel_rfl
theorem lq2 (w:World)(os:OsState):(Os w os).2.2.1=(openGood Q loose).2.2.1:=by
 unfold Os openSeen openGood;dsimp only;rw[te5923862056798008813,te3399658132070893891,te10880121769531294198,te821141287760084731,te7409074990110511671,te13664370479719496447,te14722251495701143533,te10994771534591457954];kernel_rfl
theorem lq3 (w:World)(os:OsState):(Os w os).2.2.2.1=(openGood Q loose).2.2.2.1:=by
 unfold Os openSeen openGood;dsimp only;rw[te479339242167458305];kernel_rfl
theorem lq4 (w:World)(os:OsState):(Os w os).2.2.2.2.1=(openGood Q loose).2.2.2.2.1:=by
 unfold Os openSeen openGood;dsimp only;rw[te16090120013241838585,te3247288618530077131];kernel_rfl
theorem lq5 (w:World)(os:OsState):(Os w os).2.2.2.2.2.1=(openGood Q loose).2.2.2.2.2.1:=by
 unfold Os openSeen openGood;dsimp only;rw[te821141287760084731,te2386780881361962483];kernel_rfl
theorem lq6 (w:World)(os:OsState):(Os w os).2.2.2.2.2.2.1=(openGood Q loose).2.2.2.2.2.2.1:=by
 unfold Os openSeen openGood;dsimp only;rw[te11698064438423848299];kernel_rfl
theorem lq7 (w:World)(os:OsState):(Os w os).2.2.2.2.2.2.2.1=(openGood Q loose).2.2.2.2.2.2.2.1:=by
 unfold Os openSeen openGood;dsimp only;rw[te7317090234206586261];kernel_rfl
theorem lq8 (w:World)(os:OsState):(Os w os).2.2.2.2.2.2.2.2=(openGood Q loose).2.2.2.2.2.2.2.2:=by
 unfold Os openSeen openGood;dsimp only;rw[te7369524293546568484];kernel_rfl
theorem lk1 (w:World)(os:OsState):Os w os=openGood Q loose:=g6 (lq0 w os) ( g6 (lq1 w os) ( g6 (lq2 w os) ( g6 (lq3 w os) ( g6 (lq4 w os) ( g6 (lq5 w os) ( g6 (lq6 w os) ( g6 (lq7 w os) (lq8 w os))))))))
theorem lk2 (w:World)(os:OsState):X.obsZ AS ⟨Hf w.params,(þ []),(PySem.Drawn.mk 0 0 0 0),1040,os⟩=X.valZ KF 622 1040 w:=by kernel_rfl
theorem left:LeftO TW Q loose Xt (X.obsZ AS) (X.valZ KF 622 1040) 8586 :=
 LeftO.of_pieces (H₀:=boot_heap) (H₁:=Hf) (gs₀:=þ []) (gs₁:=(þ [])) (d₀:=boot_drawn) (d₁:=(PySem.Drawn.mk 0 0 0 0)) (k₀:=boot_toks) (k₁:=1040) (m₀:=m0) (ann:=ann) (M:=kA+(kB+1+(3000+(1232+(kF+1)))))
  (boot_open opn lh fence) size run lh (fun w=>funext fun os=>looks_pair (lk0 w os) (looks_pair (lk1 w os) (lk2 w os)))
theorem qA:LeftO PySem.Challenge.pw_evenhub_k94_whole_counterweights_as_valu (view PySem.Challenge.pw_evenhub_k94_whole_counterweights_as_valu keep) loose (fun s=>xlAt (view PySem.Challenge.pw_evenhub_k94_whole_counterweights_as_valu keep) [] s && recOk (RowW.records (OpenRow.toRowW (OpenLaw.row PySem.Challenge.rw_evenhub_k94_whole_counterweights_as_valu))) s) (X.obsZ AS) (X.valZ KF 622 1040) 8586:=by
 rw[te4304036444129990871];exact left
end
end Hd
theorem PySem.W.X.walkX_of {q:PySem.Program}{loose:List PySem.Str}{XP:(PySem.Str->Option PySem.Value)->PySem.Heap->Prop}{K:PySem.Params->zfq}{as:List PySem.Addr}{n t:Nat}{r:PySem.W.RowW}{d:PySem.DefRec}{kwd:List (PySem.Str×PySem.Expr)}{run:PySem.Value->List PySem.Value->PySem.Sem PySem.Value}
  (e:∀P,as=(K P).map (·.1))(W:PySem.W.WalkO q loose XP (fun w h=>(K w.params).In h) r d kwd run):PySem.W.WalkX q loose XP (PySem.W.X.obsZ as) (PySem.W.X.valZ K n t) r d kwd run :=
 fun w s₀ s₁ mg mb G y a o pm cd doc dV kV ho hd GT hD Rw hg args vals asx zog ID U6 hrd U4 zX =>
  W w s₀ s₁ mg mb G (PySem.W.InK.keeps w _ _ (PySem.W.X.z_facts e y).2.1 zog.keeps) a o pm cd doc dV kV ho hd GT hD Rw hg args vals asx ID U6 hrd U4 zX
namespace Hd
open PySem PySem.W L2
variable {K:Frag}{x m q:Str}{st:Stmt}{C:Addr}{v:Option (Option Value)}
def aV:Option (Option Value)->Addr
 | some (some (.ref f))=>f
 | _=>0
def mV (K:Frag)(f:Addr):Value:=match K.lookup f with
 | some ⟨_,_,.func d,_⟩=>d.pyModule
 | _=>.none
abbrev FQ (K:Frag)(x q:Str)(st:Stmt)(v:Option (Option Value)):Prop:=(v,K.lookup (aV v),codeIn K (.ref (aV v-1)) q,keepIn K (.ref (aV v)),isFn K (.ref (aV v)))=(some (some (.ref (aV v))),some ⟨(.type X6),none,.func (fnOf x q (n9 st) (nH st) (lU st) .none .none .none (mV K (aV v)) none (.ref (aV v-1)) .none),⟨[]⟩⟩,true,true,true)
theorem fA (e:FQ K x x st (nsIn K mainGlobals x):=by delta FQ;kernel_rfl):Fa K x st:=by
 simp only[Prod.mk.injEq] at e;exact .of e.1 e.2.1 e.2.2.1 e.2.2.2.1
theorem fM (e:FQ K m q st (findIn K (.ref C) m):=by delta FQ;kernel_rfl):Fm K C m q st:=by
 simp only[Prod.mk.injEq] at e;exact .of e.1 e.2.2.2.2 e.2.1 e.2.2.1 e.2.2.2.1
end Hd
open PySem PySem.W PySem.W.X PyProof.Rows Hd PwT in
set_option maxRecDepth 100000 in
set_option maxHeartbeats 0 in
theorem PySem.Challenge.cw_evenhub_k94_whole_counterweights_as_valu_holds : PySem.Challenge.rw_evenhub_k94_whole_counterweights_as_valu.Holds := by
 w_on;o_law
 refine holds_openX (q:=(view PySem.Challenge.pw_evenhub_k94_whole_counterweights_as_valu keep)) (loose:=loose) (Xt:=fun s=>xlAt (view PySem.Challenge.pw_evenhub_k94_whole_counterweights_as_valu keep) [] s && recOk (RowW.records (OpenRow.toRowW (OpenLaw.row PySem.Challenge.rw_evenhub_k94_whole_counterweights_as_valu))) s) (XP:=XL (view PySem.Challenge.pw_evenhub_k94_whole_counterweights_as_valu keep) []) (Yf:=X.obsZ AS) (Ya:=X.valZ KF 622 1040) (N:=8586) qA (fun s e=>xl_of s (g5.mp e).1) XL.keeps lD lD lD (fun s e=>recFacts_of (g5.mp e).2) lD (by first | assumption | decide +kernel) lh ⟨Z,Z,Z,Z,Z,lh⟩ ?hw ?hc
 case hw=>w_witness2
 refine PySem.W.X.walkX_of (fun _=>by kernel_rfl) (K94.walk (l:=PySem.Challenge.rw_evenhub_k94_whole_counterweights_as_valu) Z Z (fun w h Y=>Y) ?F);intro w mg fa h KX G Rw;refine K94.all_mk (CF:=306) (cN:=fun i=>[305,733,855,372].getD i 0) KX G Rw ?_ fA;constructor<;>first | refine L2.Fa.dn fA KX G ?_ | exact mg_of KX G zok | exact mg_none_of KX G zok | refine L2.Fm.mn fM ?_ | refine L2.Fm.kn fM zok zok (mg_of KX G zok) ?_ | exact L2.IK.mk zok zok zok zok | (show _=_;kernel_rfl)
 all_goals first | exact L2.ba1 Z fun _ _ _ _ _ _ _=>Z | exact L2.ba2 Z fun _ _ _ _ _ _ _ _=>Z | exact L2.ba3 Z fun _ _ _ _ _ _ _ _ _=>Z | exact L2.ba4 Z fun _ _ _ _ _ _ _ _ _ _=>Z | exact L2.ba5 Z fun _ _ _ _ _ _ _ _ _ _ _=>Z
