import PyProof.Rows.All
import Wide.All
import OpenK.AllK
import Wide.FinOn
import Lean
import PyProof.EqAt
import PyProof.EqKinds
import PyProof.TupleCall
import KE.KMinKey
import PySem.Challenge.RW_evenhub_k38_blocks_or_a_bar
set_option Elab.async false
set_option linter.all false
set_option maxRecDepth 100000
theorem J{p:Prop}(h:p:=by lia):p:=h
theorem O{p:Prop}(h:p:=by decide):p:=h
theorem jC{p:Prop}(h:p:=by rfl):p:=h
theorem L{p:Prop}(h:p:=by decide +kernel):p:=h
theorem jD{p:Prop}(h:p:=by omega):p:=h
theorem jB{p:Prop}(h:p:=by simp):p:=h
theorem jI{p:Prop}(h:p:=by show 2 ≤ PySem.sizeLine; decide):p:=h
theorem jL{p:Prop}(h:p:=by show 1 ≤ PySem.sizeLine; decide):p:=h
theorem jU{p:Prop}(h:p:=by show 3 ≤ PySem.sizeLine; decide):p:=h
theorem j4{p:Prop}(h:p:=by show 4 ≤ PySem.sizeLine; decide):p:=h
theorem zfM{p:Prop}(h:p:=by rw [aa]; lia):p:=h
theorem zfN{p:Prop}(h:p:=by rw [af, Rx.lL J]; rfl):p:=h
theorem zfO{p:Prop}(h:p:=by show 1 * _ ≤ _; exact mW J):p:=h
theorem zfP{p:Prop}(h:p:=by rw [aa, aa]):p:=h
theorem zfQ{p:Prop}(h:p:=by rw [cv]; exact bi _):p:=h
theorem zfR{p:Prop}(h:p:=by rw [aa, Rx.nX]; lia):p:=h
theorem Z{α:Sort _}{a:α}:a=a:=rfl
def aa:=@List.length_map
def ae:=@Int.toNat_natCast
def af:=@List.getElem?_map
def ah:=@List.mem_of_getElem?
def ak:=@if_neg
def ao:=@List.getD_eq_getElem?_getD
def aq:=@Int.mul_le_mul_of_nonneg_right
def ar:=@List.mem_cons_of_mem
def av:=@List.mem_cons_self
def ax:=@Int.dvd_mul_of_dvd_right
def ay:=@Int.mul_le_mul_of_nonneg_left
def az:=@Int.emod_lt_of_pos
def aA:=@List.getElem?_eq_getElem
def aB:=@Int.mul_comm
def aC:=@if_pos
def aD:=@Int.emod_nonneg
def aE:=@Int.dvd_mul_of_dvd_left
def aF:=@List.getElem?_eq_some_iff
def aG:=@Int.mul_ediv_cancel_left
def aH:=@Nat.le_refl
def aI:=@PySem.PassesOwn.never
def aJ:=@List.length_append
def aK:=@Int.mul_assoc
def aL:=@Int.emod_eq_emod_iff_emod_sub_eq_zero
def aM:=@Int.natAbs_mul
def aO:=@Int.natCast_mul
def aP:=@PySem.Heap.get?_push_of_some
def aQ:=@List.map_append
def aR:=@List.length_replicate
def aS:=@Int.eq_of_mul_eq_mul_left
def aT:=@Int.le_of_dvd
def aU:=@Int.emod_eq_of_lt
def aV:=@Classical.byContradiction
def aW:=@Int.emod_emod_of_dvd
def aX:=@Int.natAbs_dvd_natAbs
def aY:=@Int.zero_mul
def aZ:=@Int.dvd_sub
def bf:=@Bool.false_ne_true
def bi:=@Int.dvd_zero
def bj:=@Nat.lt_of_lt_of_le
def bp:=@List.mem_append_right
def bq:=@Int.pow_succ
def bu:=@Int.mul_zero
def bw:=@List.length_cons
def bx:=@Int.mul_nonneg
def bB:=@Int.dvd_trans
def bE:=@Nat.not_lt_zero
def bF:=@Nat.lt_succ_of_lt
def bI:=@Option.some.inj
def bJ:=@Nat.lt_succ_self
def bK:=@Int.emod_add_mul_ediv
def bL:=@PySem.Heap.lt_size
def bO:=@Int.dvd_of_emod_eq_zero
def bP:=@Int.emod_eq_zero_of_dvd
def bQ:=@Int.dvd_add
def bR:=@Nat.le_trans
def bS:=@Nat.pow_le_pow_right
def bT:=@List.take_length
def bU:=@Int.toNat_of_nonneg
def bV:=@Int.mul_one
def bX:=@PySem.Heap.get?_push_size
def bY:=@List.getElem?_zipWith
def bZ:=@Nat.lt_of_le_of_lt
def b3:=@List.mem_singleton
def b5:=@PySem.W.mg_none_of
def b8:=@Int.ediv_le_self
def b9:=@decide_eq_true
def cf:=@List.length_set
def cm:=@List.getElem_mem
def cq:=@List.size_toArray
def cv:=@Int.sub_self
def cx:=@Int.natAbs_natCast
def cy:=@PyProof.Rows.callWith_type1
def cA:=@List.getElem?_eq_none
def cB:=@PySem.wpAny_bind
def cC:=@List.length_drop
def cD:=@List.mem_append_left
def cF:=@Nat.ne_of_lt
def cG:=@Int.ediv_nonneg
def cH:=@Int.mul_le_mul
def cI:=@Nat.mul_le_mul
def cJ:=@List.length_take
def cK:=@PySem.F.slot_list_append
def cL:=@PySem.F.type_list_append
def cM:=@Int.mul_sub
def cN:=@Int.sub_mul
def cO:=@PySem.F.plainAttrs_list
def cP:=@Int.fmod_eq_emod_of_nonneg
def cQ:=@Int.one_mul
def cR:=@Int.mul_ediv_cancel'
def cS:=@Nat.mul_le_mul_right
def cT:=@Int.dvd_refl
def cU:=@congrArg
def cV:=@List.pairwise_iff_getElem
def cW:=@List.replicate_succ
def cX:=@List.take_add_one
def cY:=@Int.dvd_mul_right
def cZ:=@List.map_cons
def c5:=@Int.sub_zero
def c7:=@Ne.symm
def c9:=@List.getElem?_append_right
def de:=@Int.add_mul_emod_self_left
def df:=@Int.add_zero
def dh:=@List.getElem?_range
def dj:=@List.getElem?_append_left
def dr:=@List.length_singleton
def dC:=@List.all_eq_true
def dD:=@Int.zero_add
def dE:=@Nat.pow_succ
def dF:=@List.mem_map
def dH:=@Nat.zero_le
def dI:=@PySem.wpAny_pure
def dJ:=@List.getElem?_cons_succ
def dM:=@Int.natCast_pow
def dO:=@Nat.mul_le_mul_left
def dQ:=@List.length_zipWith
def dR:=@Nat.zero_add
def dS:=@PySem.F.slot_int_bit_length
def dU:=@PySem.F.type_int_bit_length
def dW:=@Int.le_refl
def dX:=@List.mem_range
def dY:=@Int.fdiv_eq_ediv_of_nonneg
def dZ:=@False
def d4:=@decide_eq_false
def d5:=@Nat.le_of_lt
def d6:=@Int.dvd_neg
def d7:=@Nat.lt_irrefl
def d8:=@Int.zero_emod
def d9:=@Nat.Coprime.dvd_of_dvd_mul_left
def ef:=@PySem.wpAny_mono
def eC:=@Int.pow_add
def eD:=@Int.add_mul
def eI:=@Int.pow_zero
def eJ:=@Int.sub_emod
def eL:=@List.mem_replicate
def eM:=@PySem.F.plainAttrs_int
def eO:=@Bool.eq_iff_iff
def eQ:=@List.nodup_cons
def eR:=@List.flatten_cons
def eT:=@of_decide_eq_true
def eU:=@Int.add_mul_emod_self_right
def eV:=@PySem.wpAny_passesOwn
def eY:=@List.pairwise_append
def eZ:=@Int.mul_add
def e8:=@Nat.pow_pos
def e9:=@PySem.Paired.length
def fe:=@Bool.and_eq_true
def fi:=@Nat.le_of_not_lt
def fj:=@PySem.wpAny_truthy_bool
def fq:=@PySem.mem_of_lookup
def fv:=@List.mem_cons
def fD:=@PySem.W.mg_of
def fE:=@PySem.W.kia_one
def fF:=@List.pairwise_cons
def fG:=@decide_eq_true_iff
def fH:=@PySem.W.looks_pair
def fI:=@List.getElem?_replicate
def fJ:=@Int.mul_neg
def fK:=@Nat.mul_pos
def fL:=@Int.pow_pos
def fM:=@List.getElem?_set_self
def fO:=@PySem.intBits_le_64
def fQ:=@Nat.mul_comm
def fR:=@Nat.min_self
def fS:=@PySem.wpAny_Call_Name_kw
def fT:=@Int.dvd_mul_left
def fU:=@List.getElem?_set_ne
def fV:=@Bool.and_eq_true_iff
def fW:=@Int.one_dvd
def fX:=@List.mem_of_mem_take
def fY:=@beq_eq_false_iff_ne
def fZ:=@PySem.W.shaped_ints
def f7:=@Int.ediv_mul_cancel
def f9:=@Nat.succ_mul
def ga:=@Int.zero_dvd
def gc:=@Int.dvd_natAbs
def ge:=@List.map_singleton
def gf:=@Nat.eq_of_mul_eq_mul_left
def gg:=@Nat.le_succ
def gh:=@List.append_assoc
def gi:=@List.length_range
def gk:=@Nat.le_of_dvd
def gn:=@Nat.mul_assoc
def gq:=@List.pairwise_singleton
def gu:=@Int.mul_emod
def gx:=@Nat.mod_lt
def gy:=@Int.ediv_eq_zero_of_lt
def gz:=@List.mem_append
def gA:=@List.append_nil
def gC:=@Nat.div_add_mod
def gE:=@Int.mul_eq_zero
def gF:=@Int.ediv_lt_of_lt_mul
def gH:=@Nat.le_of_ble_eq_true
def gI:=@Nat.div_lt_of_lt_mul
def gJ:=@Int.natAbs_neg
def gK:=@Nat.pow_add
def gL:=@List.mem_of_mem_drop
def gN:=@PySem.W.plainGet_of
def gO:=@Nat.pow_le_pow_left
def gP:=@Int.mul_ediv_cancel
def gQ:=@PySem.wpAny_execs_nil
def gR:=@beq_iff_eq
def gS:=@PySem.W.callWith_K
def gT:=@PySem.Heap.size_push
def gU:=@Int.le_of_lt
def gV:=@List.ext_getElem?
def gX:=@Nat.pow_zero
def gY:=@List.getElem_take
def gZ:=@List.nodup_append
def g3:=@List.lookup_cons
def g4:=@Int.gcd_mul_left
def g5:=@Nat.mod_eq_of_lt
def g6:=@Nat.log2_lt
def g7:=@Nat.mul_one
def g8:=@List.eq_nil_of_length_eq_zero
def g9:=@Int.mul_pos
def hE:=@List.mem_filter
def hI:=@List.nil_append
def hV:=@Nat.min_eq_left
def hZ:=@Int.natCast_add
def h8:=@Int.dvd_of_mul_dvd_mul_left
def ia:=@True
def ib:=@PySem.codeAny_mono
def ic:=@PySem.IntMulOk.of_right
def ie:=@Nat.le_of_mul_le_mul_left
def ig:=@List.drop_eq_getElem_cons
def ii:=@PySem.wpAny_execs_cons
def io:=@Option.isSome_iff_exists
def ip:=@List.getElem?_take_of_lt
def ir:=@List.all_cons
def iu:=@List.any_cons
def iw:=@Nat.dvd_mul_left_of_dvd
def ix:=@PySem.Paired.snoc
def iy:=@Nat.ne_of_gt
def iz:=@Nat.le_of_eq
def iA:=@PySem.W.cellsFrom_some
def iB:=@List.map_nil
def iC:=@List.take_of_length_le
def iD:=@List.map_map
def iE:=@PyProof.noPylong_small
def iF:=@Nat.lt_trans
def iG:=@List.drop_of_length_le
def iH:=@Nat.gcd_comm
def iI:=@Int.emod_def
def iJ:=@Nat.succ_pos
def iK:=@Nat.div_div_eq_div_mul
def iL:=@Nat.dvd_refl
def iM:=@Nat.sub_self
def iN:=@Int.add_mul_ediv_right
def iO:=@Int.add_mul_ediv_left
def iP:=@PySem.Calls.Name_function_global
def iQ:=@Nat.Coprime.pow_left
def iR:=@Int.neg_mul
def iS:=@Nat.add_mul_div_left
def iT:=@Nat.mod_mod
def iU:=@List.replicate_succ'
def iV:=@congrFun
def iW:=@Nat.pow_lt_pow_left
def iX:=@Array.append_assoc
def iY:=@PySem.wpAny_holding
def iZ:=@PySem.wpAny_standAt
def i4:=@Int.natCast_nonneg
def i5:=@Int.ofNat_dvd_left
def i6:=@Int.mul_emod_right
def i7:=@PySem.W.kitx_list
def i8:=@PySem.W.kitx_dict
def i9:=@Int.mul_left_comm
def ja:=@Int.emod_add_emod
def jb:=@PySem.wpAny_pyNext_range_end
def jc:=@PySem.wpAny_pyIter_rangeiter
def jd:=@PySem.seqIndex_neg
def je:=@PySem.Heap.get?_update_other
def jf:=@PySem.Calls.callWith_builtin
def jg:=@Nat.div_eq_of_lt
def jh:=@Nat.succ_lt_succ
def jj:=@Int.natCast_succ
def jm:=@Int.lt_of_not_ge
def jo:=@List.getElem_map
def jp:=@List.drop_length
def jq:=@Option.getD_some
def jr:=@List.filter_cons
def js:=@List.of_mem_zip
def jt:=@List.range_succ
def ju:=@Int.dvd_coe_gcd
def jv:=@Int.mul_neg_one
def jw:=@Option.map_some
def jx:=@PySem.IsRange.new
def jy:=@PySem.seqIndex_of
def jz:=@Int.natAbs_pow
def jA:=@List.take_zero
namespace L2
theorem ox {α:Type}{a b:α}{l:List α}{n:Nat}:(a::l).set (n+1) b=a::l.set n b:=rfl
theorem oA {α:Type}{a b:α}{l:List α}:(a::l).set 0 b=b::l:=rfl
open PySem PySem.Spec PyProof.Rows
abbrev Key:=Sum Int Str
def Kh:Key->Value->Bool
 | .inl k,v=>Value.isInt k v
 | .inr x,v=>Value.isStrOf x v
def TY (w:World):Key->Int
 | .inl k=>hashInt k
 | .inr x=>hashStr w x
theorem lR:∀{k:Key}{v:Value},Kh k v=true->(∃i t,k=Sum.inl i/\v=Value.int i t)\/(∃x t,k=Sum.inr x/\v=Value.str x t)
 | .inl i,v,h=>by
  obtain⟨t,e⟩:=Value.isInt_shape (k:=i) (v:=v) h;exact .inl ⟨i,t,Z,e⟩
 | .inr x,v,h=>by
  obtain⟨t,e⟩:=Value.isStrOf_shape (x:=x) (v:=v) h;exact .inr ⟨x,t,Z,e⟩
theorem Me (a b:Int):decide ((Sum.inl a:Key)=Sum.inl b)=(a == b):=by
 by_cases e:a=b
 .subst e;simp
 .have h:¬(Sum.inl a:Key)=Sum.inl b:=fun q=>e (Sum.inl.inj q);rw[d4 h];exact(fY.mpr e).symm
theorem MB (a b:Str):decide ((Sum.inr a:Key)=Sum.inr b)=decide (a=b):=by
 by_cases e:a=b
 .subst e;simp
 .have h:¬(Sum.inr a:Key)=Sum.inr b:=fun q=>e (Sum.inr.inj q);rw[d4 h,d4 e]
theorem MU (a:Int)(b:Str):decide ((Sum.inl a:Key)=Sum.inr b)=false:=d4 (fun q=>nomatch q)
theorem LU (a:Str)(b:Int):decide ((Sum.inr a:Key)=Sum.inl b)=false:=d4 (fun q=>nomatch q)
def CZ (prog:Program)(w:World):PySem.KeyKind prog w Key where
 is:=Kh
 hash:=TY w
 inj:=fun v a b ha hb=>by
  rcases lR ha with ⟨i,t,rfl,rfl⟩ | ⟨x,t,rfl,rfl⟩
  .rcases lR hb with ⟨j,u,rfl,e⟩ | ⟨y,u,rfl,e⟩
   .injection e with e1 _;rw[e1]
   .exact nomatch e
  .rcases lR hb with ⟨j,u,rfl,e⟩ | ⟨y,u,rfl,e⟩
   .exact nomatch e
   .injection e with e1 _;rw[e1]
 byValue:=fun k v h=>by
  rcases lR h with ⟨i,t,rfl,rfl⟩ | ⟨x,t,rfl,rfl⟩<;>rfl
 pyHash:=fun hv h=>by
  rcases lR hv with ⟨i,t,rfl,rfl⟩ | ⟨x,t,rfl,rfl⟩
  .exact wpAny_pyHash_int h
  .exact wpAny_pyHash_str h
 eqBool:=fun hu hv h=>by
  rcases lR hu with ⟨i,t,rfl,rfl⟩ | ⟨x,t,rfl,rfl⟩
  .rcases lR hv with ⟨j,u,rfl,rfl⟩ | ⟨y,u,rfl,rfl⟩
   .rw[Me] at h;exact wpAny_eqBool_int h
   .rw[MU] at h;exact SeqAt.EqAt.int_str i t y u _ _ _ _ h
  .rcases lR hv with ⟨j,u,rfl,rfl⟩ | ⟨y,u,rfl,rfl⟩
   .rw[LU] at h;exact SeqAt.EqAt.str_int x t j u _ _ _ _ h
   .rw[MB] at h;exact wpAny_eqBool_str h
 «strs»:=fun k x t v h=>by
  rcases lR h with ⟨i,u,rfl,e⟩ | ⟨y,u,rfl,e⟩
  .exact nomatch e
  .injection e with e1 _;subst e1;cases v<;>rfl
inductive V where
 | non | bl (b:Bool) | int (i:Int) | str (x:Str) | byt (b:Array UInt8) | flt (b:UInt64) | ref (a:Addr) | ty (n:String)
 deriving DecidableEq
def RelV:V->Value->Prop
 | .non,u=>u=Value.none
 | .bl b,u=>u=Value.bool b
 | .int i,u=>∃t,u=Value.int i t
 | .str x,u=>∃t,u=Value.str x t
 | .byt b,u=>∃t,u=Value.bytes b t
 | .flt b,u=>∃t,u=Value.float b t
 | .ref a,u=>u=Value.ref a
 | .ty n,u=>u=Value.type n
abbrev Vals:List V->List Value->Prop:=Paired RelV
theorem Vals.length {xs:List V}{us:List Value}(r:Vals xs us):xs.length=us.length:=e9 r
theorem Vals.get:∀{xs:List V}{us:List Value}{i:Nat}{x:V},Vals xs us->xs[i]?=some x->∃u,us[i]?=some u/\RelV x u
 | _,_,_,_,.nil,e=>by simp at e
 | _,_,0,_,.cons r _,e=>by simp at e;subst e;exact⟨_,Z,r⟩
 | _,_,i+1,x,.cons _ t,e=>by
  obtain⟨u,h1,h2⟩:=Vals.get (i:=i) (x:=x) t (by simpa using e);exact⟨u,by simpa using h1,h2⟩
theorem Vals.set {x:V}{u:Value}(r:RelV x u):∀{xs:List V}{us:List Value}(i:Nat),Vals xs us->Vals (xs.set i x) (us.set i u)
 | _,_,_,.nil=>.nil
 | _,_,0,.cons _ t=>.cons r t
 | _,_,i+1,.cons q t=>.cons q (Vals.set r i t)
theorem Vals.append:∀{xs ys:List V}{us ws:List Value},Vals xs us->Vals ys ws->Vals (xs++ys) (us++ws)
 | _,_,_,_,.nil,s=>s
 | _,_,_,_,.cons r t,s=>.cons r (Vals.append t s)
theorem Vals.take:∀{xs:List V}{us:List Value}(n:Nat),Vals xs us->Vals (xs.take n) (us.take n)
 | _,_,0,_=>.nil
 | _,_,_+1,.nil=>.nil
 | _,_,n+1,.cons r t=>.cons r (Vals.take n t)
theorem Vals.drop:∀{xs:List V}{us:List Value}(n:Nat),Vals xs us->Vals (xs.drop n) (us.drop n)
 | _,_,0,r=>r
 | _,_,_+1,.nil=>.nil
 | _,_,n+1,.cons _ t=>Vals.drop n t
def va:Option V->Option Value->Prop
 | some v,some u=>RelV v u
 | none,none=>ia
 | _,_=>dZ
def KV {κ:Type}:List (κ×V)->List (κ×Value)->Prop:=Paired fun (p:κ×V)(q:κ×Value)=>p.1=q.1/\RelV p.2 q.2
def kV:Key->V
 | .inl i=>.int i
 | .inr x=>.str x
inductive HO where
 /-- a list -/
 | lst (xs:List V)
 /-- a tuple (never changes) -/
 | tup (xs:List V)
 /-- a dict whose keys are ints and texts;one whose keys are tuples of ints and texts (the empty one is both) -/
 | dK (kvs:List (Key×V)) | dT (kvs:List (List Key×V))
 /-- a set of ints: its members,its size -/
 | set (S:Int->Bool)(n:Nat)
 /-- an instance of the class at C,its dict at dx,its attributes -/
 | ins (C dx:Addr)(fs:List (Str×V))
 /-- the dict of the instance at x -/
 | own (x:Addr)
 /-- the dict of an exception -/
 | xd (fs:List (Str×V))
 /-- a bound method,f of x -/
 | met (f x:Addr)
 /-- a range object lo,lo+1,.. below hi -/
 | AC (lo hi:Int)
 /-- a thing that is known to the object (the script;a dict while a loop walks it): read,never written while it is so -/
 | frz (o:Obj)(u:HO)
 /-- a code object's table -/
 | tbl (ps:Array Value)
 /-- any other thing,by what is true of its one object (a def of one's own: SetO a S n:=HO.ext fun h=>..) -/
 | ext (φ:Heap->Prop)
abbrev Hp:=Addr->Option HO
def upd (H:Hp)(a:Addr)(o:HO):Hp:=fun b=>if b=a then some o else H b
theorem jG {H:Hp}{a:Addr}{o:HO}:upd H a o a=some o:=by unfold upd;rw[if_pos Z]
theorem jW {H:Hp}{a b:Addr}{o:HO}(h:b≠a):upd H a o b=H b:=by unfold upd;rw[if_neg h]
theorem nK {H:Hp}{a b:Addr}{o u:HO}(h:H a=some o)(h':H b=some u)(d:o≠u):a≠b:=by
 intro e;subst e;rw[h] at h';exact d (bI h')
theorem jX {H:Hp}{a b:Addr}{o:HO}(h:H a=some o)(h':H b=none):a≠b:=by
 intro e;subst e;rw[h] at h';cases h'
section
variable (P:Program)(w:World)
def nh (H:Hp)(h:Heap)(a:Addr):HO->Prop
 | .lst xs=>xs.length<=sizeLine/\∃(its:List Value)(n:Nat),Vals xs its/\h.get? a=some { cls:=.type "list",data:=.seq its.toArray n }
 | .tup xs=>xs.length<=sizeLine/\∃its:List Value,Vals xs its/\IsTup h a its.toArray
 | .dK kvs=>kvs.length<=sizeLine/\(a == sysModules)=false/\∃vs,KV kvs vs/\h.DictOf (CZ P w) a vs
 | .dT kvs=>kvs.length<=sizeLine/\(a == sysModules)=false/\∃xs:List (List Key×Addr×Value),
   Paired (fun (p:List Key×V)(q:List Key×Addr×Value)=>p.1=q.1/\H q.2.1=some (.tup (p.1.map kV))/\RelV p.2 q.2.2) kvs xs /\
   ∃o es ep,h.get? a=some o/\o.ExactDict/\o.data=.dict es ep/\es.toList=xs.map (entryOfKey (tupleKind (CZ P w)))/\(xs.map (·.1)).Nodup
 | .set S n=>h.SetOf (intKind P w) a S n
 | .ins C dx fs=>H dx=some (.own a)/\fs.length<=1000/\dx≠a/\h.get? a=some (PySem.W.instObj C dx) /\
   ∃mA,h.Ns1 dx mA/\(∀f,va (fs.lookup f) (mA f))/\PySem.Within mA (fs.map (·.1))
 | .own _=>∃o,h.get? a=some o
 | .xd fs=>∃mA,h.Ns1 a mA/\∀f,va (fs.lookup f) (mA f)
 | .AC lo hi=>∃t u v,h.get? a=some { cls:=.type "range",data:=.fields #[.int lo t,.int hi u,.int 1 v] }
 | .frz o u=>h.get? a=some o/\nh H h a u
 | .tbl ps=>h.get? a=some { cls:=.none,data:=.fields ps }
 | .met f x=>h.get? a=some (PySem.W.methodObj (.ref f) (.ref x))
 | .ext φ=>φ h/\(∃o,h.get? a=some o)/\∀h1 h2:Heap,φ h1->(∀o,h1.get? a=some o->h2.get? a=some o)->φ h2
def vi (H:Hp)(h:Heap):Prop:=∀a o,H a=some o->nh P w H h a o
end
section
variable {P:Program}{w:World}{H H':Hp}{h h':Heap}{a:Addr}{o:HO}
theorem nh.lt (x:nh P w H h a o):a<h.objs.size:=by
 cases o with
 | lst xs=>obtain⟨_,_,_,_,e⟩:=x;exact Heap.lt_size e
 | tup xs=>obtain⟨_,_,_,p⟩:=x;exact p.lt
 | dK kvs=>obtain⟨_,_,_,_,o,_,_,e,_⟩:=x;exact Heap.lt_size e
 | dT kvs=>obtain⟨_,_,_,_,o,_,_,e,_⟩:=x;exact Heap.lt_size e
 | set S n=>obtain⟨o,_,_,_,e,_⟩:=x;exact Heap.lt_size e
 | ins C dx fs=>obtain⟨_,_,_,e,_⟩:=x;exact Heap.lt_size e
 | own y=>obtain⟨_,e⟩:=x;exact Heap.lt_size e
 | xd fs=>obtain⟨_,⟨_,_,_,e,_⟩,_⟩:=x;exact Heap.lt_size e
 | AC lo hi=>obtain⟨_,_,_,e⟩:=x;exact Heap.lt_size e
 | frz ob u=>obtain⟨e,_⟩:=x;exact Heap.lt_size e
 | tbl ps=>exact bL (show h.get? a=some _ from x)
 | met f y=>exact bL (show h.get? a=some _ from x)
 | ext φ=>obtain⟨_,⟨_,e⟩,_⟩:=x;exact Heap.lt_size e
theorem Paired.za {α β:Type}{F G:α->β->Prop}:∀{HL:List α}{HM:List β},Paired F HL HM->(∀a b,F a b->G a b)->Paired G HL HM
 | _,_,.nil,_=>.nil
 | _,_,.cons r t,f=>.cons (f _ _ r) (Paired.za t f)
theorem nh.By (x:nh P w H h a o)(k:∀b u,(b=a\/H b=some (.own a))->h.get? b=some u->h'.get? b=some u)
  (ho:∀b,H b=some (.own a)->H' b=some (.own a))(ht:∀b xs,H b=some (.tup xs)->H' b=some (.tup xs)):nh P w H' h' a o:=by
 induction o with
 | lst xs=>obtain⟨z,its,n,r,e⟩:=x;exact⟨z,its,n,r,k _ _ (.inl rfl) e⟩
 | tup xs=>obtain⟨z,its,r,ob,e,c⟩:=x;exact⟨z,its,r,ob,k _ _ (.inl rfl) e,c⟩
 | dK kvs=>obtain⟨z,y,vs,r,ob,es,ep,e,c⟩:=x;exact⟨z,y,vs,r,ob,es,ep,k _ _ (.inl rfl) e,c⟩
 | dT kvs =>
  obtain⟨z,y,xs,r,ob,es,ep,e,c⟩:=x;exact⟨z,y,xs,Paired.za r fun p q z=>⟨z.1,ht _ _ z.2.1,z.2.2⟩,ob,es,ep,k _ _ (.inl Z) e,c⟩
 | set S n=>obtain⟨ob,es,ep,t,e,c⟩:=x;exact⟨ob,es,ep,t,k _ _ (.inl rfl) e,c⟩
 | ins C dx fs =>
  obtain⟨d,z,ne,e,mA,⟨od,es,ep,e2,c⟩,r⟩:=x;exact⟨ho _ d,z,ne,k _ _ (.inl Z) e,mA,⟨od,es,ep,k _ _ (.inr d) e2,c⟩,r⟩
 | own y=>obtain⟨ob,e⟩:=x;exact⟨ob,k _ _ (.inl rfl) e⟩
 | xd fs=>obtain⟨mA,⟨od,es,ep,e,c⟩,r⟩:=x;exact⟨mA,⟨od,es,ep,k _ _ (.inl rfl) e,c⟩,r⟩
 | AC lo hi=>obtain⟨t,u,v,e⟩:=x;exact⟨t,u,v,k _ _ (.inl rfl) e⟩
 | frz ob u ih=>obtain⟨e,q⟩:=x;exact⟨k _ _ (.inl rfl) e,ih q⟩
 | tbl ps =>
  have e:h.get? a=some { cls:=.none,data:=.fields ps }:=x;show h'.get? a=some { cls:=.none,data:=.fields ps }
  exact k a _ (.inl Z) e
 | met f y =>
  have e:h.get? a=some (PySem.W.methodObj (.ref f) (.ref y)):=x;show h'.get? a=some (PySem.W.methodObj (.ref f) (.ref y))
  exact k a _ (.inl Z) e
 | ext φ=>obtain⟨p,⟨o,e⟩,st⟩:=x;exact⟨st _ _ p fun o q=>k _ _ (.inl rfl) q,⟨o,k _ _ (.inl rfl) e⟩,st⟩
theorem vi.lt (x:vi P w H h)(e:H a=some o):a<h.objs.size:=(x a o e).lt
theorem vi.fresh (x:vi P w H h)(e:h.objs.size<=a):H a=none:=by
 cases q:H a with
 | none=>rfl
 | some u=>exact absurd (bj (x.lt q) e) (d7 _)
theorem vi.kept (x:vi P w H h)(k:∀b u,h.get? b=some u->h'.get? b=some u):vi P w H h':=fun a o e =>
 (x a o e).By (fun b u _ q=>k b u q) (fun _ q=>q) fun _ _ q=>q
theorem vi.laid (x:vi P w H h)(k:∀b u,h.get? b=some u->h'.get? b=some u)(hp:h.objs.size<=a)(new:nh P w (upd H a o) h' a o):vi P w (upd H a o) h':=fun b u e=>by
 have hn:=x.fresh hp
 by_cases hb:b=a
 .subst hb;rw[jG] at e;cases e;exact new
 .rw[jW hb] at e;exact(x b u e).By (fun c v _ q=>k c v q) (fun c q=>by rw[jW (jX q hn)];exact q) fun c xs q=>by rw[jW (jX q hn)];exact q
end
def Rd (H:Hp)(a:Addr)(u:HO):Prop:=H a=some u\/∃o,H a=some (.frz o u)
theorem Rd.of {H:Hp}{a:Addr}{u:HO}(h:H a=some u):Rd H a u:=.inl h
theorem Rd.ok {P:Program}{w:World}{H:Hp}{h:Heap}{a:Addr}{u:HO}(r:Rd H a u)(x:vi P w H h):nh P w H h a u:=by
 rcases r with r | ⟨o,r⟩
 .exact x a u r
 .obtain⟨_,q⟩:=x a _ r;exact q
def Rz:Option HO->Prop
 | some (.lst _)=>ia
 | some (.dK _)=>ia
 | some (.dT _)=>ia
 | some (.set _ _)=>ia
 | some (.ins _ _ _)=>ia
 | some (.ext _)=>ia
 | _=>dZ
section
variable {P:Program}{w:World}{H:Hp}{h h':Heap}{x e:Addr}{o':HO}
theorem vi.write (ok:vi P w H h)(mu:Rz (H x))(he:e=x\/H e=some (.own x))(k:∀b u,b≠e->h.get? b=some u->h'.get? b=some u)(NF:∃u,h'.get? e=some u)
  (new:nh P w (upd H x o') h' x o'):vi P w (upd H x o') h':=fun b u q=>by
 have P5:∀c y,H c=some (.own y)->c≠x:=fun c y r z=>by subst z;rw[r] at mu;exact mu
 have WD:∀c xs,H c=some (.tup xs)->c≠x:=fun c xs r z=>by subst z;rw[r] at mu;exact mu
 by_cases hb:b=x
 .subst hb;rw[jG] at q;cases q;exact new
 .rw[jW hb] at q
  by_cases MW:b=e
  .have q':H b=some (.own x):=by
    rcases he with z | z
    .exact absurd (MW.trans z) hb
    .rw[MW];exact z
   rw[q] at q';cases q';obtain⟨v,hv⟩:=NF;exact⟨v,by rw[MW];exact hv⟩
  .refine(ok b u q).By (fun c v hc r=>k c v ?_ r) (fun c r=>by rw[jW (P5 c b r)];exact r) fun c xs r=>by rw[jW (WD c xs r)];exact r
   rcases hc with rfl | hc
   .exact MW
   .rintro rfl;rcases he with z | z
    .exact P5 c b hc z
    .rw[hc] at z;cases z;exact hb Z
end
structure Un (fs ex:List Addr)(H H':Hp)(h h':Heap):Prop where
 keep:∀b o,h.get? b=some o->H b=none->b∉fs->b∉ex->h'.get? b=some o
 slot:∀b o,h.get? b=some o->H b=none->b∈fs->b∉ex->∃sl,h'.get? b=some { o with slots:=sl }
 free:∀b o,h.get? b=some o->H b=none->b∉ex->H' b=none
 there:∀b o,h.get? b=some o->b∉ex->∃o',h'.get? b=some o'
 tups:∀b xs,H b=some (.tup xs)->H' b=some (.tup xs)
 frzs:∀b o u,H b=some (.frz o u)->H' b=some (.frz o u)
 tbls:∀b ps,H b=some (.tbl ps)->∃more,H' b=some (.tbl (ps++more))
section
variable {fs ex:List Addr}{H H1 H2:Hp}{h h1 h2 h':Heap}{a x e:Addr}{o:HO}
theorem Un.any (u:Un fs ex H H1 h h1){b:Addr}{ob:Obj}(q:h.get? b=some ob)(n:H b=none)(hx:b∉ex):∃sl,h1.get? b=some { ob with slots:=sl }:=by
 by_cases hb:b∈fs
 .exact u.slot b ob q n hb hx
 .exact⟨ob.slots,u.keep b ob q n hb hx⟩
theorem Un.trans (a:Un fs ex H H1 h h1)(b:Un fs ex H1 H2 h1 h2):Un fs ex H H2 h h2 where
 keep:=fun c ob q n hc hx=>b.keep c ob (a.keep c ob q n hc hx) (a.free c ob q n hx) hc hx
 slot:=fun c ob q n hc hx=>by
  obtain⟨sl,e1⟩:=a.slot c ob q n hc hx;obtain⟨WE,e2⟩:=b.slot c _ e1 (a.free c ob q n hx) hc hx;exact⟨WE,e2⟩
 free:=fun c ob q n hx=>by
  obtain⟨o',e1⟩:=a.there c ob q hx;exact b.free c o' e1 (a.free c ob q n hx) hx
 there:=fun c ob q hx=>by
  obtain⟨o',e1⟩:=a.there c ob q hx;exact b.there c o' e1 hx
 tups:=fun c xs q=>b.tups c xs (a.tups c xs q)
 frzs:=fun c ob xs q=>b.frzs c ob xs (a.frzs c ob xs q)
 tbls:=fun c ps q=>by
  obtain⟨m1,e1⟩:=a.tbls c ps q;obtain⟨m2,e2⟩:=b.tbls c _ e1;exact⟨m1++m2,by rw[e2,iX]⟩
theorem Un.kept (k:∀b u,h.get? b=some u->h'.get? b=some u):Un fs ex H H h h' :=
 ⟨fun b ob q _ _ _=>k b ob q,fun b ob q _ _ _=>⟨ob.slots,k b ob q⟩,fun _ _ _ n _=>n,fun b ob q _=>⟨ob,k b ob q⟩,fun _ _ q=>q,fun _ _ _ q=>q,fun _ ps q=>⟨#[],by rw[q];simp⟩⟩
theorem Un.refl:Un fs ex H H h h:=Un.kept fun _ _ q=>q
theorem Un.laid (k:∀b u,h.get? b=some u->h'.get? b=some u)(hp:h.objs.size<=a)(hn:H a=none):Un fs ex H (upd H a o) h h' where
 keep:=fun b u q _ _ _=>k b u q
 slot:=fun b u q _ _ _=>⟨u.slots,k b u q⟩
 free:=fun b u q n _=>by rw[jW (cF (bj (bL q) hp))];exact n
 there:=fun b u q _=>⟨u,k b u q⟩
 tups:=fun b xs q=>by rw[jW (jX q hn)];exact q
 frzs:=fun b u xs q=>by rw[jW (jX q hn)];exact q
 tbls:=fun b ps q=>⟨#[],by rw[jW (jX q hn),q];simp⟩
theorem Un.write (mu:Rz (H x))(he:e=x\/H e=some (.own x))(k:∀b u,b≠e->h.get? b=some u->h'.get? b=some u)(NF:∃u,h'.get? e=some u):Un fs ex H (upd H x o) h h':=by
 have hx:∀b,H b=none->b≠x:=fun b n z=>by subst z;rw[n] at mu;exact mu
 have hb:∀b,H b=none->b≠e:=fun b n z=>by
  subst z;rcases he with r | r
  .exact hx b n r
  .rw[n] at r;cases r
 have hm:∀b u,H b=some u->¬Rz (some u)->b≠x:=fun b u q nm z=>by subst z;rw[q] at mu;exact nm mu
 refine⟨fun b u q n _ _=>k b u (hb b n) q,fun b u q n _ _=>⟨u.slots,k b u (hb b n) q⟩,fun b u q n _=>by rw[jW (hx b n)];exact n,fun b u q _=>?_,
  fun b xs q=>by rw[jW (hm b _ q fun z=>z)];exact q,fun b u xs q=>by rw[jW (hm b _ q fun z=>z)];exact q,fun b ps q=>⟨#[],by rw[jW (hm b _ q fun z=>z),q];simp⟩⟩
 by_cases MW:b=e
 .subst MW;exact NF
 .exact⟨u,k b u MW q⟩
end
def RA (h:Heap)(H:Hp):List Addr:=(List.range h.objs.size).filter fun a=>(H a).isSome
def zK (h:Heap)(H:Hp):Heap:=PySem.W.hideAll h (RA h H)
theorem Eu (h:Heap)(H:Hp):(zK h H).objs.size=h.objs.size:=PySem.W.hideAll_size _ _
theorem Fb {h:Heap}{H:Hp}{b:Addr}{o:Obj}(e:h.get? b=some o)(n:H b=none):(zK h H).get? b=some o :=
 PySem.W.hideAll_get _ e fun hm=>by
  have q:(H b).isSome=true:=(hE.mp hm).2;rw[n] at q;simp at q
theorem IC {h:Heap}{H:Hp}{b:Addr}{o:Obj}(e:(zK h H).get? b=some o):h.get? b=some o/\H b=none:=by
 have e':h.get? b=some o:=PySem.W.of_hideAll (RA h H) e;refine⟨e',?_⟩;cases q:H b with
 | none=>rfl
 | some x =>
  have hm:b∈RA h H:=hE.mpr ⟨dX.mpr (bL e'),by simp[q]⟩;have z:(zK h H).get? b=none:=PySem.W.hideAll_none (RA h H) hm;rw[z] at e;cases e
def IF (g h:Heap)(zfL:Addr):List (Addr×Obj):=(List.range h.objs.size).filterMap fun a=>if a=zfL\/(g.get? a).isSome=true then none else (h.get? a).map fun o=>(a,o)
def rest (g h:Heap)(zfL d:Addr):List (Addr×Obj):=(IF g h zfL).filter fun p=>decide (p.1≠d)
structure Mod (K:PySem.W.Frag)(mg:Str->Option Value)(base:Heap):Prop where
 kin:K.In base
 glob:base.Ns mainGlobals mg
 blt:∃mb,base.Ns builtinsNs mb/\∀x:Str,x≠"__name__"->mb x=bootBuiltins x
 nolimit:base.NoLimit
structure Cx where
 prog:Program
 w:World
 K:PySem.W.Frag
 mg:Str->Option Value
 base:Heap
 A:Around
 N:List Str
 s₀:Shared
 H₀:Hp
 env:Env
 outer:List Env
 stack:List Env
 ex:List Addr
 fn:Str->Bool
 calm:Bool
 pn:List (Addr×Obj)
 xe:Value->Shared->Prop
def Ey (l:List Env):List Addr:=l.filterMap (·.frame)
abbrev Cx.fs (X:Cx):List Addr:=Ey X.outer
def RB (sc:Scope)(x:Str):Prop:=sc.names.lookup x=some .local\/sc.names.lookup x=some .cell\/sc.names.lookup x=some .free
def Loc (sc:Scope)(x:Str):Prop:=sc.names.lookup x=some .local\/sc.names.lookup x=some .cell
def Look (env:Env)(h:Heap)(m:Str->Option Value)(x:Str)(u:Value):Prop :=
 (env.kindOf x=some .local/\m x=some u)\/((env.kindOf x=some .cell\/env.kindOf x=some .free)/\∃c,env.cells.lookup x=some c/\h.IsCell c (some u))
structure Cx.Ok (X:Cx):Prop where
 mod:Mod X.K X.mg X.base
 kind:X.env.scope.kind=.function
 glob:X.env.globals=mainGlobals
 blt:X.env.builtins=builtinsNs
 above:X.s₀.heap.objs.size<=X.env.locals
 inj:∀x y c,X.env.cells.lookup x=some c->X.env.cells.lookup y=some c->x=y
 has:∀x,(X.env.kindOf x=some .cell\/X.env.kindOf x=some .free)->∃c,X.env.cells.lookup x=some c
 cab:∀x c,X.fn x=true->X.env.cells.lookup x=some c->X.s₀.heap.objs.size<=c
 hd:X.calm=true->X.A.handled=none
 frames:X.A.frames=some X.stack
 stk:X.stack=X.outer\/(X.stack=X.env::X.outer/\X.env.frame=some X.env.locals)
 exf:∀b∈X.ex,b≠X.env.locals/\∀x c,X.env.cells.lookup x=some c->c≠b
 bs:∀b o,X.base.get? b=some o->X.s₀.heap.get? b=some o/\X.H₀ b=none
 bsz:X.base.objs.size<=X.s₀.heap.objs.size
 noex:∀b o,X.base.get? b=some o->b∉X.ex
 exfs:∀b∈X.ex,b∉X.fs
 uJ:X.s₀.heap.FunFrames X.base X.outer
 frf:∀b∈X.fs,X.H₀ b=none
structure Inv (X:Cx)(pins:List (Addr×Obj))(σ:List (Option V))(H:Hp)(s:Shared):Prop where
 ok:X.Ok
 os:s.os=X.s₀.os
 bare:AllBare s.gens
 base:Un X.fs X.ex X.H₀ H X.s₀.heap s.heap
 loc:∃m,s.heap.Ns X.env.locals m/\∀(i:Nat)(x:Str)(v:V),X.N[i]?=some x->σ[i]?=some (some v)->RB X.env.scope x->∃u,RelV v u/\Look X.env s.heap m x u
 cell:∀x c,X.env.cells.lookup x=some c->∃v,s.heap.IsCell c v
 free:H X.env.locals=none
 freeC:∀x c,X.env.cells.lookup x=some c->H c=none
 pin:∀p∈X.pn++pins,s.heap.get? p.1=some p.2/\H p.1=none/\p.1≠X.env.locals/\p.1∉X.fs/\∀v,p.2.data≠.cell v
 hok:vi X.prog X.w H s.heap
 len:σ.length=X.N.length
section
variable {g':Array GenState}{t':Nat}{ch:List Addr}{E:Value->Shared->Prop}{Q:Unit->Shared->Prop}
variable {X:Cx}{pins:List (Addr×Obj)}{σ:List (Option V)}{H H':Hp}{s:Shared}{h':Heap}
theorem Cx.Ok.UA (ok:X.Ok){b:Addr}{o:Obj}(e:X.base.get? b=some o):b∉X.fs:=fun hb=>by
 have:=(ok.uJ.mem hb).1;rw[e] at this;cases this
theorem Inv.bs (I:Inv X pins σ H s):∀b o,X.base.get? b=some o->s.heap.get? b=some o/\H b=none:=fun b o e =>
 ⟨I.base.keep b o (I.ok.bs b o e).1 (I.ok.bs b o e).2 (I.ok.UA e) (I.ok.noex b o e),I.base.free b o (I.ok.bs b o e).1 (I.ok.bs b o e).2 (I.ok.noex b o e)⟩
theorem Inv.bk (I:Inv X pins σ H s):∀b o,X.base.get? b=some o->s.heap.get? b=some o:=fun b o e=>(I.bs b o e).1
theorem Inv.mod (I:Inv X pins σ H s):Mod X.K X.mg X.base:=I.ok.mod
theorem Inv.vk (I:Inv X pins σ H s):X.K.In s.heap:=I.ok.mod.kin.keeps I.bk
theorem Inv.fr (I:Inv X pins σ H s):∃m,Fr X.base X.env.locals s.heap m :=
 let ⟨m,hn,_⟩:=I.loc
 ⟨m,hn,I.bk,bR I.ok.bsz I.ok.above⟩
theorem Inv.lt (I:Inv X pins σ H s):X.env.locals<s.heap.objs.size:=let ⟨_,hn,_⟩:=I.loc;hn.lt
theorem Inv.sz (I:Inv X pins σ H s):X.s₀.heap.objs.size<=s.heap.objs.size:=bR I.ok.above (d5 I.lt)
theorem Inv.Tg (I:Inv X pins σ H s){a:Addr}(h:s.heap.objs.size<=a):a∉X.fs:=fun hb=>by
 obtain⟨_,o,ho,_⟩:=I.ok.uJ.mem hb;exact absurd (bj (bL ho) (bR I.sz h)) (d7 _)
theorem Inv.Lj (I:Inv X pins σ H s):∀x c,X.env.cells.lookup x=some c->c≠X.env.locals:=fun x c e z=>by
 obtain⟨v,o,ho,hd⟩:=I.cell x c e;obtain⟨m,⟨o',es,ep,HP,NG,_⟩,_⟩:=I.loc;rw[z,HP] at ho;cases ho;rw[NG] at hd;cases hd
theorem Inv.uJ (I:Inv X pins σ H s):s.heap.FunFrames X.base X.outer:=by
 have all:∀(l:List Env),(∀b∈Ey l,b∈X.fs)->X.s₀.heap.FunFrames X.base l->s.heap.FunFrames X.base l:=by
  intro l
  induction l with
  | nil=>intro _ _;trivial
  | cons env r ih =>
   intro hs hl;obtain⟨hk,⟨zfL,o,hf,hn,ho,hd⟩,hr⟩:=hl;have hL:zfL∈X.fs:=hs zfL (by unfold Ey;rw[List.filterMap_cons,hf];exact List.mem_cons_self);obtain⟨sl,e⟩:=I.base.slot zfL o ho (I.ok.frf zfL hL) hL fun z=>I.ok.exfs zfL z hL;exact⟨hk,⟨zfL,_,hf,hn,e,hd⟩,ih (fun b hb=>hs b (by unfold Ey;rw[List.filterMap_cons,hf];exact List.mem_cons_of_mem _ hb)) hr⟩
 exact all X.outer (fun _ hb=>hb) I.ok.uJ
theorem Inv.stack (I:Inv X pins σ H s):s.heap.FunFrames X.base X.stack:=by
 rcases I.ok.stk with e | ⟨e,hf⟩
 .rw[e];exact I.uJ
 .rw[e];obtain⟨m,hn,_⟩:=I.loc;refine .cons (by rw[I.ok.kind];decide) hf hn ?_ I.uJ;exact Heap.get?_none_of_le (bR I.ok.bsz I.ok.above)
theorem Inv.Bw (I:Inv X pins σ H s):∀b∈Ey X.stack,b∈X.env.locals::X.fs:=fun b hb=>by
 rcases I.ok.stk with e | ⟨e,hf⟩
 .rw[e] at hb;exact ar _ hb
 .rw[e] at hb;unfold Ey at hb;rw[List.filterMap_cons,hf] at hb;exact hb
theorem Inv.C3 (I:Inv X pins σ H s):∀b∈Ey X.stack,H b=none:=fun b hb=>by
 rcases List.mem_cons.mp (I.Bw b hb) with e | hb
 .rw[e];exact I.free
 .obtain⟨_,o,ho,_⟩:=I.ok.uJ.mem hb;exact I.base.free b o ho (I.ok.frf b hb) fun z=>I.ok.exfs b z hb
theorem Inv.step {d':Drawn}(I:Inv X pins σ H s)
 (zX:∀b∈ch,(b∈X.ex\/X.s₀.heap.objs.size<=b)/\b≠X.env.locals/\(∀x c,X.env.cells.lookup x=some c->c≠b)/\∀p∈X.pn++pins,p.1≠b)
 (keep:∀b o,b≠X.env.locals->b∉X.fs->b∉ch->s.heap.get? b=some o->H b=none->h'.get? b=some o)
 (slot:∀b o,b≠X.env.locals->b∈X.fs->b∉ch->s.heap.get? b=some o->H b=none->∃sl,h'.get? b=some { o with slots:=sl })(free:∀b o,b∉ch->s.heap.get? b=some o->H b=none->H' b=none)
 (there:∀b o,b∉ch->s.heap.get? b=some o->∃o',h'.get? b=some o')
 (tups:∀b xs,H b=some (.tup xs)->H' b=some (.tup xs))(frzs:∀b o u,H b=some (.frz o u)->H' b=some (.frz o u))(tbls:∀b ps,H b=some (.tbl ps)->∃more,H' b=some (.tbl (ps++more)))
 (ns:∀m,s.heap.Ns X.env.locals m->h'.Ns X.env.locals m)(hok:vi X.prog X.w H' h')(hg:AllBare g') :
    Inv X pins σ H' { s with heap:=h',gens:=g',drawn:=d',toks:=t' }:=by
  have YG:∀b o,X.s₀.heap.get? b=some o->b≠X.env.locals:=fun b o e=>cF (bj (bL e) I.ok.above);have RF:∀b o,X.s₀.heap.get? b=some o->b∉X.ex->b∉ch:=fun b o e hx hb=>by
    rcases (zX b hb).1 with z | z
    · exact hx z
    · exact absurd (bj (bL e) z) (d7 _)
  have cellK:∀x c,X.env.cells.lookup x=some c->∀v,s.heap.IsCell c v->h'.IsCell c v:=fun x c e v ⟨o,ho,hd⟩=>by
    have P6:c∉ch:=fun z=>(zX c z).2.2.1 x c e Z
    by_cases hc:c∈X.fs
    · obtain⟨sl,q⟩:=slot c o (I.Lj x c e) hc P6 ho (I.freeC x c e)
      exact⟨_,q,hd⟩
    · exact⟨o,keep c o (I.Lj x c e) hc P6 ho (I.freeC x c e),hd⟩
  refine⟨I.ok,I.os,hg,⟨fun b o e n hb hx=>?_,fun b o e n hb hx=>?_,fun b o e n hx=>?_,fun b o e hx=>?_,fun b xs e=>tups b xs (I.base.tups b xs e),fun b o xs e=>frzs b o xs (I.base.frzs b o xs e),fun b ps e=>?_⟩,?_,fun x c e=>?_,?_,fun x c e=>?_,fun p hp=>?_,hok,I.len⟩
  · exact keep b o (YG b o e) hb (RF b o e hx) (I.base.keep b o e n hb hx) (I.base.free b o e n hx)
  · obtain⟨sl,e1⟩:=I.base.slot b o e n hb hx
    obtain⟨WE,e2⟩:=slot b _ (YG b o e) hb (RF b o e hx) e1 (I.base.free b o e n hx);exact⟨WE,e2⟩
  · obtain⟨o',e1⟩:=I.base.there b o e hx
    exact free b o' (RF b o e hx) e1 (I.base.free b o e n hx)
  · obtain⟨o',e1⟩:=I.base.there b o e hx
    exact there b o' (RF b o e hx) e1
  · obtain⟨m1,e1⟩:=I.base.tbls b ps e
    obtain⟨m2,e2⟩:=tbls b _ e1;exact⟨m1++m2,by rw[e2,iX]⟩
  · obtain⟨m,hn,hl⟩:=I.loc
    refine⟨m,ns m hn,fun i x v e1 e2 e3=>?_⟩;obtain⟨u,r,l⟩:=hl i x v e1 e2 e3;refine⟨u,r,?_⟩;rcases l with l | ⟨k,c,e,z⟩
    · exact .inl l
    · exact .inr ⟨k,c,e,cellK x c e _ z⟩
  · obtain⟨v,z⟩:=I.cell x c e
    exact⟨v,cellK x c e v z⟩
  · obtain⟨m,⟨o,_,_,ho,_⟩,_⟩:=I.loc
    exact free _ o (fun z=>(zX _ z).2.1 Z) ho I.free
  · obtain⟨v,o,ho,hd⟩:=I.cell x c e
    exact free c o (fun z=>(zX c z).2.2.1 x c e Z) ho (I.freeC x c e)
  · obtain⟨e,n,ne,nf,d⟩:=I.pin p hp
    have P6:p.1∉ch:=fun z=>(zX p.1 z).2.2.2 p hp Z;exact⟨keep p.1 p.2 ne nf P6 e n,free p.1 p.2 P6 e n,ne,nf,d⟩
theorem Inv.un (I:Inv X pins σ H s)(u:Un X.fs [] H H' s.heap h')(hok:vi X.prog X.w H' h'):Inv X pins σ H' { s with heap:=h',toks:=t' }:=by
 obtain⟨m,⟨o,es,ep,ho,r⟩,_⟩:=id I.loc;obtain⟨sl,hL⟩:=u.any ho I.free jB;exact I.step (g':=s.gens) (d':=s.drawn) (ch:=[]) (fun _ z=>nomatch z) (fun b o _ hb _ e n=>u.keep b o e n hb jB) (fun b o _ hb _ e n=>u.slot b o e n hb jB) (fun b o _ e n=>u.free b o e n jB) (fun b o _ e=>u.there b o e jB) u.tups u.frzs u.tbls (fun m' hm=>by
  obtain⟨o',WF,WG,HP,r'⟩:=hm;rw[ho] at HP;cases HP;exact⟨_,WF,WG,hL,r'⟩) hok I.bare
theorem Inv.call {d':Drawn}(I:Inv X pins σ H s)(u:Un (Ey X.stack) ch H H' s.heap h')(hok:vi X.prog X.w H' h')(hg:AllBare g')
 (zX:∀b∈ch,(b∈X.ex\/X.s₀.heap.objs.size<=b)/\b≠X.env.locals/\(∀x c,X.env.cells.lookup x=some c->c≠b)/\∀p∈X.pn++pins,p.1≠b) :
    Inv X pins σ H' { s with heap:=h',gens:=g',drawn:=d',toks:=t' }:=by
  obtain⟨m,⟨o,es,ep,ho,r⟩,_⟩:=id I.loc;obtain⟨sl,hL⟩:=u.any ho I.free fun z=>(zX _ z).2.1 Z;exact I.step (ch:=ch) zX (fun b o hL hb hc e n=>u.keep b o e n (fun z=>(fv.mp (I.Bw b z)).elim hL hb) hc) (fun b o _ _ hc e n=>u.any e n hc) (fun b o hc e n=>u.free b o e n hc) (fun b o hc e=>u.there b o e hc) u.tups u.frzs u.tbls (fun m' hm=>by
    obtain⟨o',WF,WG,HP,r'⟩:=hm;rw[ho] at HP;cases HP;exact⟨_,WF,WG,hL,r'⟩) hok hg
theorem Inv.turned {it:Addr}(I:Inv X pins σ H s)(k:∀b o,b≠it->s.heap.get? b=some o->h'.get? b=some o)(hn:H it=none)(hL:it≠X.env.locals)
 (h1:it∈X.ex\/X.s₀.heap.objs.size<=it)(h2:∀x c,X.env.cells.lookup x=some c->c≠it)(h3:∀p∈X.pn++pins,p.1≠it):Inv X pins σ H { s with heap:=h',toks:=t' }:=by
  have P7:∀b u,H b=some u->b≠it:=fun b u e z=>by rw[z,hn] at e;cases e
  refine I.step (g':=s.gens) (d':=s.drawn) (ch:=[it]) (fun b hb=>?_) (fun b o _ _ hc e _=>k b o (fun z=>hc (by simp[z])) e) (fun b o _ _ hc e _=>⟨o.slots,k b o (fun z=>hc (by simp[z])) e⟩) (fun _ _ _ _ n=>n)
    (fun b o hc e=>⟨o,k b o (fun z=>hc (by simp[z])) e⟩) (fun _ _ e=>e) (fun _ _ _ e=>e) (fun b ps e=>⟨#[],by rw[e];simp⟩) (fun m hm=>?_) (fun b u e=>?_) I.bare
  · have e:b=it:=by simpa using hb
    subst e;exact⟨h1,hL,h2,h3⟩
  · obtain⟨o,es,ep,ho,r⟩:=hm
    exact⟨o,es,ep,k _ o (c7 hL) ho,r⟩
  · refine(I.hok b u e).By (fun c v hc q=>k c v ?_ q) (fun _ q=>q) fun _ _ q=>q
    rcases hc with z | z
    · rw[z];exact P7 b u e
    · exact P7 c _ z
theorem Inv.tok (I:Inv X pins σ H s)(t:Nat):Inv X pins σ H { s with toks:=t }:=I.un (h':=s.heap) (t':=t) Un.refl I.hok
theorem Inv.kept {t':Nat}(I:Inv X pins σ H s)(k:∀b u,s.heap.get? b=some u->h'.get? b=some u):Inv X pins σ H { s with heap:=h',toks:=t' }:=I.un (Un.kept k) (I.hok.kept k)
theorem Inv.laid {a:Addr}{o:HO}{t':Nat}(I:Inv X pins σ H s)(k:∀b u,s.heap.get? b=some u->h'.get? b=some u)(hp:s.heap.objs.size<=a)(new:nh X.prog X.w (upd H a o) h' a o) :
  Inv X pins σ (upd H a o) { s with heap:=h',toks:=t' }:=I.un (Un.laid k hp (I.hok.fresh hp)) (I.hok.laid k hp new)
theorem Inv.write {x e:Addr}{o:HO}{t':Nat}(I:Inv X pins σ H s)(mu:Rz (H x))(he:e=x\/H e=some (.own x))(k:∀b u,b≠e->s.heap.get? b=some u->h'.get? b=some u)(NF:∃u,h'.get? e=some u)
  (new:nh X.prog X.w (upd H x o) h' x o):Inv X pins σ (upd H x o) { s with heap:=h',toks:=t' }:=I.un (Un.write mu he k NF) (I.hok.write mu he k NF new)
theorem Inv.weak {kW:List (Option V)}(I:Inv X pins σ H s)(hl:kW.length=σ.length)(w:∀(i:Nat) v,kW[i]?=some (some v)->σ[i]?=some (some v)):Inv X pins kW H s :=
 ⟨I.ok,I.os,I.bare,I.base,let ⟨m,hn,hl'⟩:=I.loc;⟨m,hn,fun i x v e1 e2 e3=>hl' i x v e1 (w i v e2) e3⟩,I.cell,I.free,I.freeC,I.pin,I.hok,hl.trans I.len⟩
theorem Inv.tY {KS:List (Addr×Obj)}(I:Inv X pins σ H s)(h:∀p∈KS,s.heap.get? p.1=some p.2/\H p.1=none/\p.1≠X.env.locals/\p.1∉X.fs/\∀v,p.2.data≠.cell v):Inv X KS σ H s :=
 ⟨I.ok,I.os,I.bare,I.base,I.loc,I.cell,I.free,I.freeC,fun p hp=>(gz.mp hp).elim (fun z=>I.pin p (cD _ z)) (h p),I.hok,I.len⟩
theorem A2 {N:List Str}(hN:N.Nodup){i j:Nat}{x:Str}(a:N[i]?=some x)(b:N[j]?=some x):i=j:=by
 obtain⟨h1,e1⟩:=List.getElem?_eq_some_iff.mp a;obtain⟨h2,e2⟩:=List.getElem?_eq_some_iff.mp b;exact(List.getElem_inj hN).mp (e1.trans e2.symm)
theorem yf {M:Model}{A:Around}{i:Nat}{x:Str}{v:V}{u:Value}(I:Inv X pins σ H s)(hN:X.N.Nodup)(hi:X.N[i]?=some x)(hx:Loc X.env.scope x)(r:RelV v u)
 (h:∀s',Inv X pins (σ.set i (some v)) H s'->(∃a,Heap.SameBut a s.heap s'.heap/\(a=X.env.locals\/X.env.cells.lookup x=some a))->Q () s')(hf:X.fn x=true\/X.env.scope.names.lookup x=some .local:=by first | exact .inl Z | exact .inr Z | assumption):wpAny M A (storeName X.env x u) Q E s:=by
  obtain⟨m,hn,hl⟩:=id I.loc;have WH:(X.env.scope.kind == .class || (X.env.scope.kind == .module && X.env.locals != X.env.globals))=false:=by rw[I.ok.kind];rfl
  have P8:i<σ.length:=by rw[I.len];exact(aF.mp hi).1
  have Lj:=I.Lj;have tracked:∀{a:Addr}{h':Heap},(∃o,s.heap.get? a=some o/\H a=none)->Heap.SameBut a s.heap h'->vi X.prog X.w H h':=fun {a h'} ha hs b ob e=>by
    obtain⟨_,_,qY⟩:=ha;refine(I.hok b ob e).By (fun c w' hc q=>(hs.2 c ?_).trans q) (fun _ q=>q) fun _ _ q=>q;rintro rfl;rcases hc with rfl | hc
    · rw[qY] at e;cases e
    · rw[qY] at hc;cases hc
  rcases hx with hk | hk
  · refine wpAny_storeName_local hk hn (fun h' hn' hs=>?_) WH
    obtain⟨oL,_,_,hoL,_⟩:=id hn;refine h _ ⟨I.ok,I.os,I.bare,⟨fun b o e n hb hx=>?_,fun b o e n hb hx=>?_,I.base.free,fun b o e hx=>?_,I.base.tups,I.base.frzs,I.base.tbls⟩,⟨_,hn',fun j y v' e1 e2 e3=>?_⟩,fun y c e=>?_,I.free,I.freeC,fun p hp=>?_,tracked ⟨oL,hoL,I.free⟩ hs,by simpa using I.len⟩ ⟨_,hs,.inl Z⟩
    · exact(hs.2 b (cF (bj (bL e) I.ok.above))).trans (I.base.keep b o e n hb hx)
    · obtain⟨sl,e1⟩:=I.base.slot b o e n hb hx
      exact⟨sl,(hs.2 b (cF (bj (bL e) I.ok.above))).trans e1⟩
    · obtain⟨o',e1⟩:=I.base.there b o e hx
      exact⟨o',(hs.2 b (cF (bj (bL e) I.ok.above))).trans e1⟩
    · by_cases hj:j=i
      · subst hj
        rw[hi] at e1;cases e1;rw[fM P8] at e2;cases e2;exact⟨u,r,.inl ⟨hk,jB⟩⟩
      · rw[fU (c7 hj)] at e2
        obtain⟨u',r',q⟩:=hl j y v' e1 e2 e3;refine⟨u',r',?_⟩;rcases q with ⟨k,e⟩ | ⟨k,c,e,z⟩
        · refine .inl ⟨k,?_⟩
          have:y≠x:=fun e=>hj (A2 hN e1 (e▸hi));simp[this,e]
        · exact .inr ⟨k,c,e,z.sameBut hs (Lj y c e)⟩
    · obtain⟨w',z⟩:=I.cell y c e
      exact⟨w',z.sameBut hs (Lj y c e)⟩
    · obtain⟨e,n,ne,nf,d⟩:=I.pin p hp
      exact⟨(hs.2 p.1 ne).trans e,n,ne,nf,d⟩
  · have WI:X.fn x=true:=by
      rcases hf with z | z
      · exact z
      · rw[z] at hk;cases hk
    obtain⟨c,hc⟩:=I.ok.has x (.inl hk);obtain⟨w',z⟩:=I.cell x c hc;refine wpAny_storeName_cell I.ok.kind hk hc z (fun h' wT hs=>?_);obtain⟨oc,YH,WJ⟩:=id z;refine h { s with heap:=h' } ⟨I.ok,I.os,I.bare,⟨fun b o e n hb hx=>?_,fun b o e n hb hx=>?_,I.base.free,fun b o e hx=>?_,I.base.tups,I.base.frzs,I.base.tbls⟩,⟨m,hn.sameBut hs (c7 (Lj x c hc)),fun j y v' e1 e2 e3=>?_⟩,fun y c' e=>?_,I.free,I.freeC,fun p hp=>?_,tracked ⟨oc,YH,I.freeC x c hc⟩ hs,by simpa using I.len⟩ ⟨c,hs,.inr hc⟩
    · exact(hs.2 b (cF (bj (bL e) (I.ok.cab x c WI hc)))).trans (I.base.keep b o e n hb hx)
    · obtain⟨sl,e1⟩:=I.base.slot b o e n hb hx
      exact⟨sl,(hs.2 b (cF (bj (bL e) (I.ok.cab x c WI hc)))).trans e1⟩
    · obtain⟨o',e1⟩:=I.base.there b o e hx
      exact⟨o',(hs.2 b (cF (bj (bL e) (I.ok.cab x c WI hc)))).trans e1⟩
    · by_cases hj:j=i
      · subst hj
        rw[hi] at e1;cases e1;rw[fM P8] at e2;cases e2;exact⟨u,r,.inr ⟨.inl hk,c,hc,wT⟩⟩
      · rw[fU (c7 hj)] at e2
        obtain⟨u',r',q⟩:=hl j y v' e1 e2 e3;refine⟨u',r',?_⟩;rcases q with q | ⟨k,c',e,z'⟩
        · exact .inl q
        · refine .inr ⟨k,c',e,z'.sameBut hs ?_⟩
          rintro rfl;exact hj (A2 hN e1 (I.ok.inj _ _ _ e hc▸hi))
    · by_cases P9:c'=c
      · subst P9;exact⟨_,wT⟩
      · obtain⟨w2,z2⟩:=I.cell y c' e
        exact⟨w2,z2.sameBut hs P9⟩
    · obtain⟨e,n,ne,nf,d⟩:=I.pin p hp
      refine⟨(hs.2 p.1 ?_).trans e,n,ne,nf,d⟩;intro q;rw[q,YH] at e;have q':oc=p.2:=bI e;exact d w' (by rw[<-q'];exact WJ)
theorem AM {M:Model}{A:Around}{i:Nat}{x:Str}{v:V}{u:Value}(I:Inv X pins σ H s)(hN:X.N.Nodup)(hi:X.N[i]?=some x)(hx:Loc X.env.scope x)(r:RelV v u)
 (h:∀s',Inv X pins (σ.set i (some v)) H s'->Q () s')(hf:X.fn x=true\/X.env.scope.names.lookup x=some .local:=by first | exact .inl Z | exact .inr Z | assumption):wpAny M A (storeName X.env x u) Q E s :=
  yf I hN hi hx r (fun s' I' _=>h s' I') hf
theorem Inv.OR {s':Shared}(I:Inv X pins σ H s)(ho:s'.os=s.os)(u:Un (Ey X.stack) ch H H' s.heap s'.heap)(hok:vi X.prog X.w H' s'.heap)(hg:AllBare s'.gens)
 (zX:∀b∈ch,(b∈X.ex\/X.s₀.heap.objs.size<=b)/\b≠X.env.locals/\(∀x c,X.env.cells.lookup x=some c->c≠b)/\∀p∈X.pn++pins,p.1≠b):Inv X pins σ H' s':=by
  obtain⟨h',g',d',t',o'⟩:=s';have e:o'=s.os:=ho;subst e;exact I.call (g':=g') (t':=t') (d':=d') u hok hg zX
end
abbrev XK:=Value->Option Addr->Hp->Prop
abbrev St:=List (Option V)
abbrev VK:=V->Hp->Prop
abbrev TE:=St->Hp->VK->Prop
abbrev TT:=St->Hp->(Bool->Hp->Prop)->Prop
abbrev TA:=St->Hp->(List V->Hp->Prop)->Prop
structure Ends where
 nx:St->Hp->Prop
 rt:VK
 bk:St->Hp->Prop:=fun _ _=>dZ
 ct:St->Hp->Prop:=fun _ _=>dZ
abbrev TS:=Ends->St->Hp->Prop
def EP (X:Cx)(pins:List (Addr×Obj))(σ:St)(Q:VK)(u:Value)(s':Shared):Prop:=∃v H',Inv X pins σ H' s'/\RelV v u/\Q v H'
def TP (X:Cx)(pins:List (Addr×Obj))(σ:St)(Q:Bool->Hp->Prop)(b:Bool)(s':Shared):Prop:=∃H',Inv X pins σ H' s'/\Q b H'
def AP (X:Cx)(pins:List (Addr×Obj))(σ:St)(Q:List V->Hp->Prop)(us:List Value)(s':Shared):Prop:=∃vs H',Inv X pins σ H' s'/\Vals vs us/\Q vs H'
def SP (X:Cx)(pins:List (Addr×Obj))(D:Ends)(f:Flow)(s':Shared):Prop :=
 match f with
 | .next=>∃kW H',Inv X pins kW H' s'/\D.nx kW H'
 | .brk=>∃kW H',Inv X pins kW H' s'/\D.bk kW H'
 | .cont=>∃kW H',Inv X pins kW H' s'/\D.ct kW H'
 | .ret u=>∃v kW H',Inv X pins kW H' s'/\RelV v u/\D.rt v H'
def PE (X:Cx)(e:Expr)(t:TE):Prop :=
 ∀(pins:List (Addr×Obj))(s:Shared)(σ:St)(H:Hp)(Q:VK),Inv X pins σ H s->t σ H Q->wpAny (model X.prog X.w) X.A (eval e X.env) (EP X pins σ Q) X.xe s
def PT (X:Cx)(e:Expr)(t:TT):Prop :=
 ∀(pins:List (Addr×Obj))(s:Shared)(σ:St)(H:Hp)(Q:Bool->Hp->Prop),Inv X pins σ H s->t σ H Q->wpAny (model X.prog X.w) X.A (isTrue e X.env (eval e X.env)) (TP X pins σ Q) X.xe s
def PW (X:Cx)(e:Expr)(t:TT):Prop :=
 ∀(whole:Sem Value)(pins:List (Addr×Obj))(s:Shared)(σ:St)(H:Hp)(Q:Bool->Hp->Prop),Inv X pins σ H s->t σ H Q->wpAny (model X.prog X.w) X.A (isTrue e X.env whole) (TP X pins σ Q) X.xe s
theorem PW.pt {X:Cx}{e:Expr}{t:TT}(h:PW X e t):PT X e t:=h _
def PA (X:Cx)(es:List Expr)(t:TA):Prop :=
 ∀(pos:Pos)(pins:List (Addr×Obj))(s:Shared)(σ:St)(H:Hp)(Q:List V->Hp->Prop),Inv X pins σ H s->t σ H Q->wpAny (model X.prog X.w) X.A (spliced (backTo pos (starEach es X.env))) (AP X pins σ Q) X.xe s
def PS (X:Cx)(st:Stmt)(t:TS):Prop :=
 ∀(pins:List (Addr×Obj))(s:Shared)(σ:St)(H:Hp)(D:Ends),Inv X pins σ H s->t D σ H->wpAny (model X.prog X.w) X.A (exec st X.env) (SP X pins D) X.xe s
def xK (X:Cx)(st:List Stmt)(t:TS):Prop :=
 ∀(pins:List (Addr×Obj))(s:Shared)(σ:St)(H:Hp)(D:Ends),Inv X pins σ H s->t D σ H->wpAny (model X.prog X.w) X.A (execs st X.env) (SP X pins D) X.xe s
theorem mH {α:Type}{t:Sem α}{Q Q':α->Shared->Prop}{M:Model}{A:Around}{E:Value->Shared->Prop}{s:Shared}(h:wpAny M A t Q E s)(hQ:∀a s,Q a s->Q' a s):wpAny M A t Q' E s:=ef h hQ fun _ _ x=>x
section
variable {x:Str}{E Q:Value->Shared->Prop}{pins:List (Addr×Obj)}{u:Value}
variable {X:Cx}
def OH (i:Nat):TE:=fun σ H Q=>∃v,σ[i]?=some (some v)/\Q v H
def tC (v:V):TE:=fun _ H Q=>Q v H
theorem LM {i:Nat}{pos:Pos}(hN:X.N[i]?=some x)(hv:RB X.env.scope x)(hd:(x == ("__debug__":Str))=false:=by decide)(DV:(x == ("__classdict__":Str))=false:=by decide):PE X (.Name x pos) (OH i):=by
 intro pins s σ H Q I h;obtain⟨v,e,h⟩:=h;obtain⟨m,hn,hl⟩:=I.loc;obtain⟨u,r,l⟩:=hl i x v hN e hv;have fin:EP X pins σ Q u s:=⟨v,H,I,r,h⟩;rcases l with ⟨hk,hm⟩ | ⟨hk,c,hc,qg⟩
 .exact wpAny_Name (wpAny_loadName_local I.ok.kind hk hn hm fin) hd
 .rcases hk with hk | hk
  .exact wpAny_Name (wpAny_loadName_cell I.ok.kind hk hc qg fin) hd
  .exact wpAny_Name (wpAny_loadName_free I.ok.kind hk hc qg fin DV) hd
theorem jH {i j pos}:PE X (.Constant (.int i) j pos) (tC (.int i)):=fun _ _ _ H _ I h=>wpAny_Constant_int ⟨.int i,H,I.tok _,⟨_,Z⟩,h⟩
theorem pE {b j pos}:PE X (.Constant (.bool b) j pos) (tC (.bl b)):=fun _ _ _ H _ I h=>Constant_bool ⟨.bl b,H,I,Z,h⟩
theorem rQ {j pos}:PE X (.Constant .none j pos) (tC .non):=fun _ _ _ H _ I h=>Constant_none ⟨.non,H,I,Z,h⟩
theorem oa {x j pos}:PE X (.Constant (.str x) j pos) (tC (.str x)):=fun _ _ _ H _ I h=>Calls.Constant_str ⟨.str x,H,I.tok _,⟨_,Z⟩,h⟩
def Gl (X:Cx)(x:Str):Prop:=X.env.kindOf x=some .globalImplicit
theorem yE {s:Shared}{σ:St}{H:Hp}{pos:Pos}(I:Inv X pins σ H s)(hg:Gl X x)(hm:X.mg x=some u)(h:Q u s)
 (hd:(x == ("__debug__":Str))=false:=by decide):wpAny (model X.prog X.w) X.A (eval (.Name x pos) X.env) Q E s :=
  iP I.ok.kind hg (Calls.loadGlobal_global (by rw[I.ok.glob];exact I.mod.glob.keeps I.bk) hm h) hd
theorem pT {s:Shared}{σ:St}{H:Hp}{pos:Pos}(I:Inv X pins σ H s)(hg:Gl X x)(hm:X.mg x=none)(hv:bootBuiltins x=some u)(h:Q u s)
 (hn:x≠"__name__":=by decide)(hd:(x == ("__debug__":Str))=false:=by decide):wpAny (model X.prog X.w) X.A (eval (.Name x pos) X.env) Q E s:=by
  obtain⟨mb,h1,h2⟩:=I.mod.blt;exact iP I.ok.kind hg (Calls.loadGlobal_builtin (by rw[I.ok.glob];exact I.mod.glob.keeps I.bk) hm (by rw[I.ok.blt];exact h1.keeps I.bk) ((h2 x hn).trans hv) h) hd
theorem vg {v:V}{pos:Pos}(hg:Gl X x)(hm:X.mg x=some u)(r:RelV v u)(hd:(x == ("__debug__":Str))=false:=by decide):PE X (.Name x pos) (tC v) :=
 fun _ _ _ H _ I h=>yE I hg hm ⟨v,H,I,r,h⟩ hd
theorem pH {v:V}{pos:Pos}(hg:Gl X x)(hm:X.mg x=none)(hv:bootBuiltins x=some u)(r:RelV v u)(hn:x≠"__name__":=by decide)(hd:(x == ("__debug__":Str))=false:=by decide):PE X (.Name x pos) (tC v) :=
 fun _ _ _ H _ I h=>pT I hg hm hv ⟨v,H,I,r,h⟩ hn hd
variable {a b:Expr}{ta tb:TE}{pos:Pos}
def tB (t:TE):TT:=fun σ H Q=>t σ H fun x H1=>∃c,x=.bl c/\Q c H1
theorem mT {e:Expr}{t:TE}(h:PE X e t)(he:∀whole,isTrue e X.env whole=(do let v <-whole;standAt e.pos;holding [v] (truthy v)):=by intro _;rfl):PT X e (tB t):=by
 intro pins s σ H Q I hw;refine isTrue_plain (mH (h pins s σ H _ I hw) fun v s1 ⟨x,H1,I1,r1,q1⟩=>?_) (he _);obtain⟨d,rfl,q⟩:=q1;cases r1;exact fj ⟨H1,I1,q⟩
variable {tA YI:TT}{rest:List Expr}
def tOr (t u:TT):TT:=fun σ H Q=>t σ H fun c H1=>if c=true then Q true H1 else u σ H1 Q
def UD (t:TT):TT:=fun σ H Q=>t σ H fun c H1=>Q (!c) H1
theorem qK (ha:PT X a tA):PW X (.BoolOp .Or [a] pos) tA:=by
 intro wh pins s σ H Q I h;refine isTrue_or (mH (ha pins s σ H Q I h) fun c s1 e=>?_);cases c with
 | false=>exact isTrue_or_nil e
 | true=>exact e
theorem oq (ha:PT X a tA)(hb:PW X (.BoolOp .Or (b::rest) pos) YI):PW X (.BoolOp .Or (a::b::rest) pos) (tOr tA YI):=by
 intro wh pins s σ H Q I h;refine isTrue_or (mH (ha pins s σ H _ I h) fun c s1 ⟨H1,I1,q1⟩=>?_);cases c with
 | true=>exact⟨H1,I1,q1⟩
 | false=>exact hb wh pins s1 σ H1 Q I1 q1
theorem mZ (ha:PT X a tA):PT X (.UnaryOp .Not a pos) (UD tA):=by
 intro pins s σ H Q I h;exact isTrue_not (ha pins s σ H (fun c H1=>Q (!c) H1) I h)
def Pp (ta tb:TE):TE:=fun σ H Q=>ta σ H fun x H1=>∃c,x=.bl c/\if c=true then tb σ H1 Q else Q (.bl false) H1
def VP (ta tb:TE):TE:=fun σ H Q=>ta σ H fun x H1=>∃c,x=.bl c/\if c=true then Q (.bl true) H1 else tb σ H1 Q
def PK (ta:TE):TE:=fun σ H Q=>ta σ H fun x H1=>∃c,x=.bl c/\Q (.bl (!c)) H1
theorem yT {op}{t:TE}(h:PE X a t):PE X (.BoolOp op [a] pos) t:=fun pins s σ H Q I hw=>BoolOp_one (h pins s σ H Q I hw)
theorem B6 (ha:PE X a ta)(hb:PE X (.BoolOp .And (b::rest) pos) tb):PE X (.BoolOp .And (a::b::rest) pos) (Pp ta tb):=by
 intro pins s σ H Q I h;refine BoolOp_and (mH (ha pins s σ H _ I h) fun v s1 ⟨x,H1,I1,r1,q1⟩=>?_);obtain⟨c,rfl,q1⟩:=q1;cases r1;refine fj ?_;cases c with
 | true=>exact hb pins s1 σ H1 Q I1 q1
 | false=>exact⟨.bl false,H1,I1,Z,q1⟩
theorem OM (ha:PE X a ta)(hb:PE X (.BoolOp .Or (b::rest) pos) tb):PE X (.BoolOp .Or (a::b::rest) pos) (VP ta tb):=by
 intro pins s σ H Q I h;refine BoolOp_or (mH (ha pins s σ H _ I h) fun v s1 ⟨x,H1,I1,r1,q1⟩=>?_);obtain⟨c,rfl,q1⟩:=q1;cases r1;refine fj ?_;cases c with
 | false=>exact hb pins s1 σ H1 Q I1 q1
 | true=>exact⟨.bl true,H1,I1,Z,q1⟩
theorem Fi (ha:PE X a ta):PE X (.UnaryOp .Not a pos) (PK ta):=by
 intro pins s σ H Q I h;refine UnaryOp_ (mH (ha pins s σ H _ I h) fun v s1 ⟨x,H1,I1,r1,q1⟩=>?_);obtain⟨c,rfl,q1⟩:=q1;cases r1;exact not_of (fj ⟨.bl (!c),H1,I1,Z,q1⟩)
def tIf (t:TT)(ta tb:TE):TE:=fun σ H Q=>t σ H fun c H1=>if c=true then ta σ H1 Q else tb σ H1 Q
theorem He {c:Expr}(hc:PT X c tA)(ha:PE X a ta)(hb:PE X b tb):PE X (.IfExp c a b pos) (tIf tA ta tb):=by
 intro pins s σ H Q I h;refine wpAny_IfExp (mH (hc pins s σ H _ I h) fun d s1 ⟨H1,I1,q1⟩=>?_);cases d with
 | true=>exact ha pins s1 σ H1 Q I1 q1
 | false=>exact hb pins s1 σ H1 Q I1 q1
end
def jV (K:PySem.W.Frag)(H:Hp)(a:Addr)(xs:List V):Prop :=
 Rd H a (.lst xs) \/
  ∃(o:Obj)(its:Array Value)(n:Nat),K.lookup a=some o/\o.cls=.type "list"/\o.dict=none/\o.data=.seq its n/\its.size<=sizeLine/\Vals xs its.toList
def kJ (K:PySem.W.Frag)(H:Hp)(a:Addr)(xs:List V):Prop :=
 Rd H a (.tup xs) \/
  ∃(o:Obj)(its:Array Value)(n:Nat),K.lookup a=some o/\o.cls=.type "tuple"/\o.data=.seq its n/\its.size<=sizeLine/\Vals xs its.toList
def Ua:Value->Option V
 | .none=>some .non
 | .bool b=>some (.bl b)
 | .int i _=>some (.int i)
 | .str x _=>some (.str x)
 | .bytes b _=>some (.byt b)
 | .float b _=>some (.flt b)
 | .ref a=>some (.ref a)
 | .type n=>some (.ty n)
 | _=>none
theorem RelV.abs {x:V}{u:Value}(r:RelV x u):Ua u=some x:=by
 cases x with
 | non=>cases r;rfl
 | bl _=>cases r;rfl
 | int _=>obtain⟨t,rfl⟩:=r;rfl
 | str _=>obtain⟨t,rfl⟩:=r;rfl
 | byt _=>obtain⟨t,rfl⟩:=r;rfl
 | flt _=>obtain⟨t,rfl⟩:=r;rfl
 | ref _=>cases r;rfl
 | ty _=>cases r;rfl
theorem RelV.inj {x y:V}{u:Value}(r:RelV x u)(q:RelV y u):x=y:=bI (r.abs.symm.trans q.abs)
theorem Vals.inj:∀{xs ys:List V}{us:List Value},Vals xs us->Vals ys us->xs=ys
 | _,_,_,.nil,.nil=>rfl
 | _,_,_,.cons r t,.cons r' t'=>by rw[r.inj r',Vals.inj t t']
section
variable {X:Cx}{pins:List (Addr×Obj)}{σ:St}{H:Hp}{s:Shared}{a:Addr}{xs ys:List V}
theorem jV.of {K:PySem.W.Frag}(h:H a=some (.lst xs)):jV K H a xs:=.inl (.inl h)
theorem kJ.of {K:PySem.W.Frag}(h:H a=some (.tup xs)):kJ K H a xs:=.inl (.inl h)
theorem Inv.list (I:Inv X pins σ H s)(h:jV X.K H a xs):∃its:List Value,Vals xs its/\PlainL s.heap a its.toArray/\xs.length<=sizeLine:=by
 rcases h with h | ⟨o,its,n,hk,hc,hd,hs,hz,r⟩
 .obtain⟨z,its,n,r,e⟩:=h.ok I.hok;exact⟨its,r,⟨_,n,e,Z,Z,Z⟩,z⟩
 .refine⟨its.toList,r,⟨o,n,I.vk a o hk,hc,hd,by simpa using hs⟩,?_⟩;have e:=r.length;simp only[Array.length_toList] at e;omega
theorem Inv.tuple (I:Inv X pins σ H s)(h:kJ X.K H a xs):∃its:List Value,Vals xs its/\IsTup s.heap a its.toArray/\xs.length<=sizeLine:=by
 rcases h with h | ⟨o,its,n,hk,hc,hs,hz,r⟩
 .obtain⟨z,its,r,p⟩:=h.ok I.hok;exact⟨its,r,p,z⟩
 .refine⟨its.toList,r,⟨o,I.vk a o hk,hc,n,by simpa using hs⟩,?_⟩;have e:=r.length;simp only[Array.length_toList] at e;omega
theorem Inv.sZ (I:Inv X pins σ H s)(h:jV X.K H a xs)(h':jV X.K H a ys):xs=ys:=by
 obtain⟨its,r,⟨o,n,e,_,_,d⟩,_⟩:=I.list h;obtain⟨its',r',⟨o',n',e',_,_,d'⟩,_⟩:=I.list h';rw[e] at e';cases e';rw[d] at d';injection d' with d1 _;have:its=its':=by simpa using congrArg Array.toList d1
 subst this;exact r.inj r'
theorem Inv.Ex (I:Inv X pins σ H s)(h:kJ X.K H a xs)(h':kJ X.K H a ys):xs=ys:=by
 obtain⟨its,r,⟨o,e,_,n,d⟩,_⟩:=I.tuple h;obtain⟨its',r',⟨o',e',_,n',d'⟩,_⟩:=I.tuple h';rw[e] at e';cases e';rw[d] at d';injection d' with d1 _;have:its=its':=by simpa using congrArg Array.toList d1
 subst this;exact r.inj r'
end
abbrev Cx.uZ (X:Cx)(E:Value->Shared->Prop):Cx:={ X with xe:=E }
abbrev Cx.EZ (X:Cx):Cx:=X.uZ fun _ _=>dZ
theorem Cx.Ok.uZ {X:Cx}(ok:X.Ok)(E:Value->Shared->Prop):(X.uZ E).Ok :=
 ⟨ok.mod,ok.kind,ok.glob,ok.blt,ok.above,ok.inj,ok.has,ok.cab,ok.hd,ok.frames,ok.stk,ok.exf,ok.bs,ok.bsz,ok.noex,ok.exfs,ok.uJ,ok.frf⟩
theorem Cx.Ok.pL {X:Cx}{E:Value->Shared->Prop}(ok:(X.uZ E).Ok):X.Ok :=
 ⟨ok.mod,ok.kind,ok.glob,ok.blt,ok.above,ok.inj,ok.has,ok.cab,ok.hd,ok.frames,ok.stk,ok.exf,ok.bs,ok.bsz,ok.noex,ok.exfs,ok.uJ,ok.frf⟩
section
variable {X:Cx}{pins:List (Addr×Obj)}{σ:St}{H:Hp}{s:Shared}{E:Value->Shared->Prop}
theorem Inv.uZ (I:Inv X pins σ H s)(E:Value->Shared->Prop):Inv (X.uZ E) pins σ H s:=⟨I.ok.uZ E,I.os,I.bare,I.base,I.loc,I.cell,I.free,I.freeC,I.pin,I.hok,I.len⟩
theorem Inv.pL (I:Inv (X.uZ E) pins σ H s):Inv X pins σ H s:=⟨I.ok.pL,I.os,I.bare,I.base,I.loc,I.cell,I.free,I.freeC,I.pin,I.hok,I.len⟩
theorem SP.pL {D:Ends}{f:Flow}{s':Shared}(h:SP (X.uZ E) pins D f s'):SP X pins D f s':=by
 cases f with
 | next=>obtain⟨kW,H',I,q⟩:=h;exact⟨kW,H',I.pL,q⟩
 | brk=>obtain⟨kW,H',I,q⟩:=h;exact⟨kW,H',I.pL,q⟩
 | cont=>obtain⟨kW,H',I,q⟩:=h;exact⟨kW,H',I.pL,q⟩
 | ret u=>obtain⟨v,kW,H',I,r,q⟩:=h;exact⟨v,kW,H',I.pL,r,q⟩
theorem PE.EZ {e:Expr}{t:TE}(h:PE X.EZ e t):PE X e t:=fun pins s σ H Q I hw =>
 ef (h pins s σ H Q (I.uZ _) hw) (fun _ _ ⟨v,H',I',r,q⟩=>⟨v,H',I'.pL,r,q⟩) fun _ _ z=>False.elim z
theorem PT.EZ {e:Expr}{t:TT}(h:PT X.EZ e t):PT X e t:=fun pins s σ H Q I hw =>
 ef (h pins s σ H Q (I.uZ _) hw) (fun _ _ ⟨H',I',q⟩=>⟨H',I'.pL,q⟩) fun _ _ z=>False.elim z
theorem xK.EZ {st:List Stmt}{t:TS}(h:xK X.EZ st t):xK X st t:=fun pins s σ H D I hw =>
 ef (h pins s σ H D (I.uZ _) hw) (fun _ _ q=>q.pL) fun _ _ z=>False.elim z
end
section
variable {X:Cx}{st:Stmt}{rest:List Stmt}{t u:TS}{e:Expr}{te:TE}{pos:Pos}
def OC:TS:=fun D σ H=>D.nx σ H
def VS (t u:TS):TS:=fun D σ H=>t { D with nx:=u D } σ H
theorem kh:xK X [] OC:=fun _ _ σ H _ I h=>gQ ⟨σ,H,I,h⟩
theorem jE (h1:PS X st t)(h2:xK X rest u):xK X (st::rest) (VS t u):=by
 intro pins s σ H D I h;refine ii (mH (h1 pins s σ H { D with nx:=u D } I h) fun f s1 q=>?_);cases f with
 | next =>
  obtain⟨kW,H',I',q⟩:=q;exact h2 pins s1 kW H' D I' q
 | ret v=>exact q
 | brk=>exact q
 | cont=>exact q
theorem jJ (h1:PS X st t):xK X [st] t:=by
 intro pins s σ H D I h;refine ii (mH (h1 pins s σ H D I h) fun f s1 q=>?_);cases f with
 | next=>exact gQ q
 | ret v=>exact q
 | brk=>exact q
 | cont=>exact q
theorem Inv.quiet {pins:List (Addr×Obj)}{σ:St}{H:Hp}{s:Shared}(I:Inv X pins σ H s):interactive X.env=false:=by simp[interactive,I.ok.kind]
def Ph (te:TE):TS:=fun D σ H=>te σ H fun _ H1=>D.nx σ H1
theorem mX (he:PE X e te)(hs:swapsWith e none pos.line X.env=pure false:=by rfl):PS X (.Expr e pos) (Ph te):=by
 intro pins s σ H D I h;exact wpAny_Expr_any (mH (he pins s σ H _ I h) fun v s1 ⟨x,H1,I1,r1,q1⟩=>⟨σ,H1,I1,q1⟩) I.quiet hs
def TV (te:TE):TS:=fun D σ H=>te σ H D.rt
theorem jT (he:PE X e te):PS X (.Return (some e) pos) (TV te):=by
 intro pins s σ H D I h;exact wpAny_Return_some (mH (he pins s σ H _ I h) fun v s1 ⟨x,H1,I1,r1,q1⟩=>⟨x,σ,H1,I1,r1,q1⟩)
def SX (c:TT)(t u:TS):TS:=fun D σ H=>c σ H fun b H1=>if b=true then t D σ H1 else u D σ H1
theorem kP {c:Expr}{a b:List Stmt}{tc:TT}(hc:PT X c tc)(ha:xK X a t)(hb:xK X b u):PS X (.If c a b pos) (SX tc t u):=by
 intro pins s σ H D I h;refine wpAny_If (mH (hc pins s σ H _ I h) fun d s1 ⟨H1,I1,q1⟩=>?_);cases d with
 | true=>exact ha pins s1 σ H1 D I1 q1
 | false=>exact hb pins s1 σ H1 D I1 q1
def Mq:TS:=fun _ _ _=>dZ
theorem wb:PS X st Mq:=fun _ _ _ _ _ _ h=>h.elim
end
abbrev TG:=V->St->Hp->(St->Hp->Prop)->Prop
abbrev ML:=List V->St->Hp->(St->Hp->Prop)->Prop
def PG (X:Cx)(target:Expr)(t:TG):Prop :=
 ∀(pins:List (Addr×Obj))(s:Shared)(σ:St)(H:Hp)(v:V)(u:Value)(Q:St->Hp->Prop),Inv X pins σ H s->RelV v u->t v σ H Q ->
  wpAny (model X.prog X.w) X.A (assign target X.env u) (fun _ s'=>∃kW H',Inv X pins kW H' s'/\Q kW H') X.xe s
def Ry (X:Cx)(ts:List Expr)(t:ML):Prop :=
 ∀(pins:List (Addr×Obj))(s:Shared)(σ:St)(H:Hp)(vs:List V)(us:List Value)(Q:St->Hp->Prop),Inv X pins σ H s->Vals vs us->t vs σ H Q ->
  wpAny (model X.prog X.w) X.A (assignInOrder ((assignEach ts X.env).map (·.2)) us) (fun _ s'=>∃kW H',Inv X pins kW H' s'/\Q kW H') X.xe s
abbrev Ln:=V->V->V->Hp->(Hp->Prop)->Prop
def Oy (X:Cx)(t:Ln):Prop :=
 ∀(pins:List (Addr×Obj))(s:Shared)(σ:St)(H:Hp)(o i v:V)(ov iv u:Value)(Q:Hp->Prop),Inv X pins σ H s->RelV o ov->RelV i iv->RelV v u->t o i v H Q ->
  wpAny (model X.prog X.w) X.A (setItem ov iv u) (fun _ s'=>∃H',Inv X pins σ H' s'/\Q H') X.xe s
section
variable {X:Cx}{pos:Pos}
def kZ (i:Nat):TG:=fun v σ H Q=>Q (σ.set i (some v)) H
theorem nY {i:Nat}{x:Str}(hN:X.N.Nodup)(hi:X.N[i]?=some x)(hx:Loc X.env.scope x)(hf:X.fn x=true\/X.env.scope.names.lookup x=some .local:=by first | exact .inl Z | exact .inr Z | assumption):PG X (.Name x pos) (kZ i):=by
 intro pins s σ H v u Q I r h;exact wpAny_assign_Name (AM I hN hi hx r (fun s' I'=>⟨_,H,I',h⟩) hf)
def ID:ML:=fun vs σ H Q=>vs=[]/\Q σ H
def uS (t:TG)(u:ML):ML:=fun vs σ H Q=>∃v r,vs=v::r/\t v σ H fun kW H'=>u r kW H' Q
theorem lC:Ry X [] ID:=by
 intro pins s σ H vs us Q I r h;obtain⟨e,h⟩:=h;subst e;cases r;exact assignInOrder_nil ⟨σ,H,I,h⟩
theorem j6 {e:Expr}{es:List Expr}{t:TG}{u:ML}(h1:PG X e t)(h2:Ry X es u)
  (hs:(assignEach (e::es) X.env).map (·.2)=assign e X.env::(assignEach es X.env).map (·.2):=by rfl):Ry X (e::es) (uS t u):=by
 intro pins s σ H vs us Q I r h;obtain⟨v,vr,e1,h⟩:=h;subst e1;cases r with
 | cons r rr =>
  rw[hs];refine assignInOrder_cons (mH (h1 pins s σ H _ _ _ I r h) fun _ s1 ⟨NH,H1,I1,q1⟩=>?_);exact h2 pins s1 NH H1 _ _ Q I1 rr q1
def IM (K:PySem.W.Frag)(n:Nat)(t:ML):TG:=fun v σ H Q=>∃a xs,v=.ref a/\kJ K H a xs/\xs.length=n/\t xs σ H Q
theorem me {es:List Expr}{k:Nat}{t:ML}{n:Nat}(hc:X.calm=true)(h:Ry X es t)
  (hn:(assignEach es X.env).length=n:=by rfl)(t5:(assignEach es X.env).findIdx? (·.1)=none:=by rfl):PG X (.Tuple es k pos) (IM X.K n t):=by
 intro pins s σ H v u Q I r hw;obtain⟨a,xs,e1,hq,hl,hw⟩:=hw;subst e1;cases r;obtain⟨its,rv,ht,hz⟩:=I.tuple hq;refine assign_Tuple_tuple (I.ok.hd hc) ht (by simp[hn,<-hl,rv.length]) t5 fun h' hx=>?_;have I1:Inv X pins σ H { s with heap:=h' }:=I.kept (t':=s.toks) fun b o e=>hx b o (cF (bL e)) e;exact h pins _ σ H xs _ Q I1 (by simpa using rv) hw
def TU (to ti:TE)(t:Ln):TG:=fun v σ H Q=>to σ H fun o H1=>ti σ H1 fun i H2=>t o i v H2 fun H3=>Q σ H3
theorem oR {o i:Expr}{to ti:TE}{t:Ln}(ho:PE X o to)(hi:PE X i ti)(hs:Oy X t)
  (ha:∀v,assign (.Subscript o i pos) X.env v=(do
   let ov <-holding [v] (eval o X.env)
   let iv <-holding [v,ov] (eval i X.env)
   standAt pos
   holding [v,ov,iv] (setItem ov iv v)
   release [v,ov,iv] []):=by intro _;rfl):PG X (.Subscript o i pos) (TU to ti t):=by
 intro pins s σ H v u Q I r h;rw[ha];refine cB (iY (mH (ho pins s σ H _ I h) fun ov s1 ⟨x,H1,I1,r1,q1⟩=>?_));refine cB (iY (mH (hi pins s1 σ H1 _ I1 q1) fun iv s2 ⟨y,H2,I2,r2,q2⟩=>?_));refine cB (iZ (cB (iY (mH (hs pins s2 σ H2 x y v ov iv u _ I2 r1 r2 r q2) fun _ s3 ⟨H3,I3,q3⟩=>?_))));exact wpAny_release ⟨σ,H3,I3,q3⟩
def Gh (te:TE)(g:TG):TS:=fun D σ H=>te σ H fun x H1=>g x σ H1 D.nx
theorem oY {tg e:Expr}{te:TE}{g:TG}(he:PE X e te)(hg:PG X tg g)(hs:swapsWithSole [tg] e pos.line X.env=pure false:=by rfl)(hw:swappedStores [tg] e X.env=pure none:=by rfl)
  (h1:(assignEach [tg] X.env).map (·.2)=[assign tg X.env]:=by rfl):PS X (.Assign [tg] e pos) (Gh te g):=by
 intro pins s σ H D I h;refine wpAny_Assign_stores (mH (he pins s σ H _ I h) fun v s1 ⟨x,H1,I1,r1,q1⟩=>?_) hs hw;rw[h1];exact mH (hg pins s1 σ H1 x v _ I1 r1 q1) fun _ s2 q=>q
theorem Ls {i:Nat}{x:Str}{e:Expr}{te:TE}{pos':Pos}(hN:X.N.Nodup)(hi:X.N[i]?=some x)(hx:Loc X.env.scope x)(he:PE X e te)(hs:swapsWith e (some (.Name x pos')) pos.line X.env=pure false:=by rfl)(hf:X.fn x=true\/X.env.scope.names.lookup x=some .local:=by first | exact .inl Z | exact .inr Z | assumption) :
  PS X (.Assign [.Name x pos'] e pos) (Gh te (kZ i)):=by
 intro pins s σ H D I h;refine wpAny_Assign_Name (mH (he pins s σ H _ I h) fun v s1 ⟨y,H1,I1,r1,q1⟩=>?_) hs;exact AM I1 hN hi hx r1 (fun s2 I2=>⟨_,H1,I2,q1⟩) hf
end
section
variable {X:Cx}{pos:Pos}
def Ly (c:TT)(tb:TS):TS:=fun D σ H=>∃W:Nat->St->Hp->Prop,(∃m,W m σ H)/\∀m σ H,W m σ H ->
 c σ H fun b H1=>if b=true then ∃N:St->Hp->Prop,(∀kW H',N kW H'->∃m',m'<m/\W m' kW H')/\tb { D with nx:=N,ct:=N,bk:=D.nx } σ H1 else D.nx σ H1
theorem mF {c:Expr}{body:List Stmt}{tc:TT}{tb:TS}(hp:PassesOwn (model X.prog X.w) X.A X.env X.xe)(hc:PT X c tc)(hb:xK X body tb):PS X (.While c body [] pos) (Ly tc tb):=by
 intro pins s σ H D I h;obtain⟨W,⟨m0,w0⟩,turn⟩:=h;refine wpAny_While (codeAny_whileLoop (fun n s'=>∃kW H',Inv X pins kW H' s'/\W n kW H') ?_ m0 ⟨σ,H,I,w0⟩);rintro n s1 ⟨NH,H1,I1,w1⟩;refine eV hp (mH (hc pins s1 NH H1 _ I1 (turn n NH H1 w1)) fun b s2 ⟨H2,I2,q2⟩=>?_);cases b with
 | true =>
  obtain⟨N,hN,q2⟩:=q2;rw[aC Z];refine eV hp (mH (hb pins s2 NH H2 _ I2 q2) fun f s3 q3=>?_);cases f with
  | next =>
   obtain⟨HQ,H3,I3,n3⟩:=q3;obtain⟨m',hm,w3⟩:=hN HQ H3 n3;exact⟨m',hm,HQ,H3,I3,w3⟩
  | cont =>
   obtain⟨HQ,H3,I3,n3⟩:=q3;obtain⟨m',hm,w3⟩:=hN HQ H3 n3;exact⟨m',hm,HQ,H3,I3,w3⟩
  | brk=>exact q3
  | ret v=>exact q3
 | false =>
  rw[ak bf];exact gQ ⟨NH,H2,I2,q2⟩
end
structure It where
 go:Nat->Hp->Prop
 yld:Nat->Hp->V->Hp->Prop
 stop:Nat->Hp->Prop
def yK (X:Cx)(pins:List (Addr×Obj))(H:Hp)(b:Addr):Prop :=
 H b=none/\b≠X.env.locals/\b∉X.fs/\(b∈X.ex\/X.s₀.heap.objs.size<=b)/\(∀x c,X.env.cells.lookup x=some c->c≠b)/\∀p∈X.pn++pins,p.1≠b
theorem Inv.Cy {X:Cx}{pins:List (Addr×Obj)}{σ:St}{H H':Hp}{s:Shared}{b:Addr}(I:Inv X pins σ H s)(hb:s.heap.objs.size<=b)(hn:H' b=none):yK X pins H' b:=by
 refine⟨hn,iy (bj I.lt hb),I.Tg hb,.inr (bR I.sz hb),fun x c e z=>?_,fun p hp z=>?_⟩
 .obtain⟨v,q⟩:=I.cell x c e;exact absurd (bj q.lt (by rw[z];exact hb)) (d7 _)
 .exact absurd (bj (bL (I.pin p hp).1) (by rw[z];exact hb)) (d7 _)
structure Turn (P:Program)(w:World)(K:PySem.W.Frag)(tg:Expr)(zfJ:It)(fp:List Addr)(it:Addr)(tn:Nat->Heap->Prop):Prop where
 mem:it∈fp
 obj:∀i h,tn i h->∀b∈fp,∃o,h.get? b=some o/\∀v,o.data≠.cell v
 keep:∀i h h',tn i h->(∀b∈fp,∀o,h.get? b=some o->h'.get? b=some o)->tn i h'
 item:∀(X:Cx),X.prog=P->X.w=w->X.K=K->X.calm=true->∀(i:Nat)(pins:List (Addr×Obj))(s:Shared)(σ:St)(H:Hp)(E:Value->Shared->Prop),Inv X pins σ H s->(∀b∈fp,yK X pins H b)->tn i s.heap->zfJ.go i H ->
  wpAny (model P w) X.A (pyNext (.ref it)) (fun r s1=>∃u,r=some u /\
   wpAny (model P w) X.A (letOwnedTupleGo tg (.ref it) u) (fun _ s2=>∃x H',Inv X pins σ H' s2/\RelV x u/\zfJ.yld i H x H'/\tn (i+1) s2.heap/\∀b∈fp,H' b=none) E s1) E s
 done:∀(X:Cx),X.prog=P->X.w=w->X.K=K->X.calm=true->∀(i:Nat)(pins:List (Addr×Obj))(s:Shared)(σ:St)(H:Hp)(E:Value->Shared->Prop),Inv X pins σ H s->(∀b∈fp,yK X pins H b)->tn i s.heap->zfJ.stop i H ->
  wpAny (model P w) X.A (pyNext (.ref it)) (fun r s1=>r=none/\Inv X pins σ H s1) E s
 self:∀(A:Around)(i:Nat)(s:Shared)(Q:Value->Shared->Prop)(E:Value->Shared->Prop),tn i s.heap->Q (.ref it) s->wpAny (model P w) A (pyIter (.ref it)) Q E s
abbrev TI:=St->Hp->(It->Hp->Prop)->Prop
def YF (X:Cx)(pins:List (Addr×Obj))(σ:St)(tg:Expr)(R:It->Hp->Prop)(KU:Value)(s2:Shared):Prop :=
 ∃(it:Addr)(fp:List Addr)(tn:Nat->Heap->Prop)(zfJ:It)(H':Hp),KU=.ref it/\Inv X pins σ H' s2/\Turn X.prog X.w X.K tg zfJ fp it tn/\tn 0 s2.heap/\(∀b∈fp,yK X pins H' b)/\R zfJ H'
def PI (X:Cx)(tg iter:Expr)(wi:TI):Prop :=
 ∀(pins:List (Addr×Obj))(s:Shared)(σ:St)(H:Hp)(R:It->Hp->Prop),Inv X pins σ H s->wi σ H R ->
  wpAny (model X.prog X.w) X.A (eval iter X.env) (fun v s1=>wpAny (model X.prog X.w) X.A (pyIter v) (YF X pins σ tg R) X.xe s1) X.xe s
theorem DD {M:Model}{A:Around}{E:Value->Shared->Prop}{s:Shared}{tg:Expr}{it:Addr}{u:Value}{o:Obj}{n:String}{vs:Array Value}{Q:Unit->Shared->Prop}(ho:s.heap.get? it=some o)(hc:o.cls=.type n)(hd:o.data=.fields vs)
    (hn:["enumerate","zip","dict_itemiterator","dict_reverseitemiterator","odict_iterator","itertools.zip_longest","itertools.pairwise"].contains n=false)(hQ:Q () s):wpAny M A (letOwnedTupleGo tg (.ref it) u) Q E s:=by
  unfold letOwnedTupleGo;cases tg<;>first
    | exact dI hQ
    | (cases u<;>first
        | exact dI hQ
        | (refine cB (wpAny_load ho ?_)
           rw[hc,hd];show wpAny M A (if (["enumerate","zip","dict_itemiterator","dict_reverseitemiterator","odict_iterator","itertools.zip_longest","itertools.pairwise"].contains n && vs[0]? == some (rawInt _))=true then _ else _) Q E s
           rw[ak (by intro h;rw[hn,Bool.false_and] at h;cases h)];exact dI hQ))
def JO (K:PySem.W.Frag)(a:Addr):It :=
 ⟨fun i H=>∃xs x,jV K H a xs/\xs[i]?=some x,fun i H x H'=>H'=H/\∀xs,jV K H a xs->xs[i]?=some x,fun i H=>∃xs,jV K H a xs/\xs.length<=i⟩
def Ul (K:PySem.W.Frag)(a:Addr):It :=
 ⟨fun i H=>∃xs x,kJ K H a xs/\xs[i]?=some x,fun i H x H'=>H'=H/\∀xs,kJ K H a xs->xs[i]?=some x,fun i H=>∃xs,kJ K H a xs/\xs.length<=i⟩
def Ci (lo:Int)(n:Nat):It:=⟨fun i _=>i<n,fun i H x H'=>H'=H/\x=.int (lo+i),fun i _=>n<=i⟩
theorem EJ {P:Program}{w:World}{K:PySem.W.Frag}{tg:Expr}(a it:Addr):Turn P w K tg (JO K a) [it] it (fun i h=>h.IsListIter it a i) where
 mem:=by simp
 obj:=fun i h st b hb=>by
  have e:b=it:=by simpa using hb
  subst e;obtain⟨o,e,c,d⟩:=st;exact⟨o,e,fun v z=>by rw[d] at z;cases z⟩
 keep:=fun i h h' st k=>st.at fun o e=>k it jB o e
 item:=by
  intro X hP hw hK hc i pins s σ H E I hf st hg;subst hP hw hK;obtain⟨xs,x,hq,hx⟩:=hg;obtain⟨its,rv,p,hz⟩:=I.list hq;obtain⟨u,hu,ru⟩:=rv.get hx;obtain⟨f0,f1,f2,f3,f4,f5⟩:=hf it jB;refine wpAny_pyNext_list_item st p.isList (x:=u) (by simpa using hu) fun h' Iw sb=>?_;have I1:Inv X pins σ H { s with heap:=h' }:=I.turned (t':=s.toks) (fun b o hb e=>(sb.2 b hb).trans e) f0 f1 f3 f4 f5;obtain⟨o,e,c,d⟩:=id Iw;exact⟨u,Z,DD (s:={ s with heap:=h' }) e c d O ⟨x,H,I1,ru,⟨Z,fun ys hy=>by rw[I.sZ hy hq];exact hx⟩,Iw,fun b hb=>(hf b hb).1⟩⟩
 done:=by
  intro X hP hw hK hc i pins s σ H E I hf st hg;subst hP hw hK;obtain⟨xs,hq,hx⟩:=hg;obtain⟨its,rv,p,hz⟩:=I.list hq;obtain⟨f0,f1,f2,f3,f4,f5⟩:=hf it jB;have hl:=rv.length;exact wpAny_pyNext_list_end (I.ok.hd hc) st p.isList (by simp;omega) fun h' eb=>⟨Z,I.turned (t':=s.toks) (fun b o hb e=>eb b o hb e) f0 f1 f3 f4 f5⟩
 self:=fun _ _ _ _ _ st h=>wpAny_pyIter_listiter st h
theorem Bm {P:Program}{w:World}{K:PySem.W.Frag}{tg:Expr}(a it:Addr):Turn P w K tg (Ul K a) [it] it (fun i h=>h.IsTupleIter it a i) where
 mem:=by simp
 obj:=fun i h st b hb=>by
  have e:b=it:=by simpa using hb
  subst e;obtain⟨o,e,c,d⟩:=st;exact⟨o,e,fun v z=>by rw[d] at z;cases z⟩
 keep:=fun i h h' st k=>st.at fun o e=>k it jB o e
 item:=by
  intro X hP hw hK hc i pins s σ H E I hf st hg;subst hP hw hK;obtain⟨xs,x,hq,hx⟩:=hg;obtain⟨its,rv,p,hz⟩:=I.tuple hq;obtain⟨u,hu,ru⟩:=rv.get hx;obtain⟨f0,f1,f2,f3,f4,f5⟩:=hf it jB;refine wpAny_pyNext_tuple_item st (show s.heap.IsTuple a its.toArray from p) (x:=u) (by simpa using hu) fun h' Iw sb=>?_;have I1:Inv X pins σ H { s with heap:=h' }:=I.turned (t':=s.toks) (fun b o hb e=>(sb.2 b hb).trans e) f0 f1 f3 f4 f5;obtain⟨o,e,c,d⟩:=id Iw;exact⟨u,Z,DD (s:={ s with heap:=h' }) e c d O ⟨x,H,I1,ru,⟨Z,fun ys hy=>by rw[I.Ex hy hq];exact hx⟩,Iw,fun b hb=>(hf b hb).1⟩⟩
 done:=by
  intro X hP hw hK hc i pins s σ H E I hf st hg;subst hP hw hK;obtain⟨xs,hq,hx⟩:=hg;obtain⟨its,rv,p,hz⟩:=I.tuple hq;obtain⟨f0,f1,f2,f3,f4,f5⟩:=hf it jB;have hl:=rv.length;exact wpAny_pyNext_tuple_end (I.ok.hd hc) st (show s.heap.IsTuple a its.toArray from p) (by simp;omega) fun h' eb=>⟨Z,I.turned (t':=s.toks) (fun b o hb e=>eb b o hb e) f0 f1 f3 f4 f5⟩
 self:=fun _ _ _ _ _ st h=>wpAny_pyIter_tupleiter st h
theorem CA {P:Program}{w:World}{K:PySem.W.Frag}{tg:Expr}(it:Addr)(lo:Int)(n:Nat):Turn P w K tg (Ci lo n) [it] it (fun i h=>IsRangeIter h it (lo+(i:Nat)*1) ((n:Int)-(i:Nat)) 1) where
 mem:=by simp
 obj:=fun i h st b hb=>by
  have e:b=it:=by simpa using hb
  subst e;exact⟨_,st,fun v z=>by
   have z':Data.fields _=Data.cell v:=z;cases z'⟩
 keep:=fun i h h' st k=>k it jB _ st
 item:=by
  intro X hP hw hK hc i pins s σ H E I hf st hg;subst hP hw hK;obtain⟨f0,f1,f2,f3,f4,f5⟩:=hf it jB;have W:=Walks.range (prog:=X.prog) (w:=X.w) (I.ok.hd hc) it lo 1 n;refine W.item i s _ _ hg st fun v h' tk hv Iw kk=>?_;obtain⟨t,rfl⟩:=hv;have I1:Inv X pins σ H { s with heap:=h',toks:=tk }:=I.turned (fun b o hb e=>kk b o (by simpa using hb) e) f0 f1 f3 f4 f5;refine⟨_,Z,DD (s:={ s with heap:=h',toks:=tk }) (n:="range_iterator") Iw Z Z O ⟨.int (lo+i),H,I1,⟨t,?_⟩,⟨Z,Z⟩,Iw,fun b hb=>(hf b hb).1⟩⟩;rw[bV]
 done:=by
  intro X hP hw hK hc i pins s σ H E I hf st hg;subst hP hw hK;obtain⟨f0,f1,f2,f3,f4,f5⟩:=hf it jB;exact jb (I.ok.hd hc) st (by have:n<=i:=hg;omega) fun h' eb=>⟨Z,I.turned (t':=s.toks) (fun b o hb e=>eb b o hb e) f0 f1 f3 f4 f5⟩
 self:=fun _ _ _ _ _ st h=>jc st h
section
variable {pins:List (Addr×Obj)}{s:Shared}{fp:List Addr}
variable {X:Cx}{tg:Expr}
def KL (K:PySem.W.Frag)(tl:TE):TI:=fun σ H R=>tl σ H fun x H1=>∃a,x=.ref a/\(∃xs,jV K H1 a xs)/\R (JO K a) H1
def Vg (K:PySem.W.Frag)(tl:TE):TI:=fun σ H R=>tl σ H fun x H1=>∃a,x=.ref a/\(∃xs,kJ K H1 a xs)/\R (Ul K a) H1
theorem ki {l:Expr}{tl:TE}(hl:PE X l tl):PI X tg l (KL X.K tl):=by
 intro pins s σ H R I h;refine mH (hl pins s σ H _ I h) fun v s1 ⟨x,H1,I1,r1,q1⟩=>?_;obtain⟨a,e,⟨xs,hq⟩,q⟩:=q1;subst e;cases r1;obtain⟨its,rv,p,hz⟩:=I1.list hq;refine wpAny_pyIter_list p.isList ?_;refine⟨s1.heap.objs.size,[s1.heap.objs.size],_,_,H1,Z,I1.kept (t':=s1.toks) fun b o e=>aP _ e,EJ a _,⟨_,bX _ Z,Z,Z⟩,fun b hb=>?_,q⟩;have e:b=s1.heap.objs.size:=by simpa using hb
 subst e;exact I1.Cy (aH _) (I1.hok.fresh (aH _))
theorem MO {l:Expr}{tl:TE}(hl:PE X l tl):PI X tg l (Vg X.K tl):=by
 intro pins s σ H R I h;refine mH (hl pins s σ H _ I h) fun v s1 ⟨x,H1,I1,r1,q1⟩=>?_;obtain⟨a,e,⟨xs,hq⟩,q⟩:=q1;subst e;cases r1;obtain⟨its,rv,p,hz⟩:=I1.tuple hq;refine wpAny_pyIter_tuple (show s1.heap.IsTuple a its.toArray from p) ?_;refine⟨s1.heap.objs.size,[s1.heap.objs.size],_,_,H1,Z,I1.kept (t':=s1.toks) fun b o e=>aP _ e,Bm a _,⟨_,bX _ Z,Z,Z⟩,fun b hb=>?_,q⟩;have e:b=s1.heap.objs.size:=by simpa using hb
 subst e;exact I1.Cy (aH _) (I1.hok.fresh (aH _))
theorem AG {σ:St}{H:Hp}{R:It->Hp->Prop}{E:Value->Shared->Prop}{lo hi:Int}{t u v:Tok}{tk:Nat}(I:Inv X pins σ H s)(h1:-(2^62)<=lo)(h2:lo<2^62)(h3:-(2^62)<=hi)(h4:hi<2^62)
 (q:R (Ci lo (hi-lo).toNat) H):wpAny (model X.prog X.w) X.A (pyIter (.ref s.heap.objs.size)) (YF X pins σ tg R) E { s with heap:=s.heap.push { cls:=.type "range",data:=.fields #[.int lo t,.int hi u,.int 1 v] },toks:=tk }:=by
  refine wpAny_pyIter_range (jx ..) (small_one h1 h2 h3 h4) ?_;have I1:Inv X pins σ H { s with heap:=s.heap.push { cls:=.type "range",data:=.fields #[.int lo t,.int hi u,.int 1 v] },toks:=tk }:=I.kept fun b o e=>aP _ e;refine⟨(s.heap.push { cls:=.type "range",data:=.fields #[.int lo t,.int hi u,.int 1 v] }).objs.size,[(s.heap.push { cls:=.type "range",data:=.fields #[.int lo t,.int hi u,.int 1 v] }).objs.size],_,_,H,Z,
    I1.kept (t':=tk) fun b o e=>aP _ e,CA _ lo (hi-lo).toNat,?_,fun b hb=>?_,q⟩
  · have e1:lo+((0:Nat):Int)*1=lo:=by simp
    have e2:(((hi-lo).toNat:Nat):Int)-((0:Nat):Int)=Builtin.Range.rangeSize lo hi 1:=by rw[rangeSize_one];split<;>omega
    show IsRangeIter _ _ (lo+((0:Nat):Int)*1) ((((hi-lo).toNat:Nat):Int)-((0:Nat):Int)) 1
    rw[e1,e2];exact bX _ Z
  · have e:b=(s.heap.push { cls:=.type "range",data:=.fields #[.int lo t,.int hi u,.int 1 v] }).objs.size:=by simpa using hb
    subst e;exact I1.Cy (aH _) (I1.hok.fresh (aH _))
def O1 (ta:TA):TI:=fun σ H R=>ta σ H fun vs H1=>∃j:Int,vs=[.int j]/\-(2^62)<=j/\j<2^62/\R (Ci 0 j.toNat) H1
def OQ (ta:TA):TI:=fun σ H R=>ta σ H fun vs H1=>∃i j:Int,vs=[.int i,.int j]/\(-(2^62)<=i/\i<2^62/\-(2^62)<=j/\j<2^62)/\R (Ci i (j-i).toNat) H1
theorem mf {a:Expr}{ta:TA}{p pos:Pos}(hg:Gl X "range")(hm:X.mg "range"=none)(ha:PA X [a] ta)(hs:starEach [a] X.env=[(false,eval a X.env)]:=by rfl):PI X tg (.Call (.Name "range" p) [a] [] pos) (O1 ta):=by
 intro pins s σ H R I h;refine Call_ (pT I hg hm boot_range (cy (mH (ha pos pins s σ H _ I h) fun us s1 ⟨vs,H1,I1,r1,q1⟩=>?_) hs Z));obtain⟨j,e,q1,q2,q⟩:=q1;subst e;cases r1 with
 | cons r rr =>
  cases rr;obtain⟨t,rfl⟩:=r;exact call_range_1 (AG I1 jD jD q1 q2 (by simpa using q))
theorem Em {a b:Expr}{ta:TA}{p pos:Pos}(hg:Gl X "range")(hm:X.mg "range"=none)(ha:PA X [a,b] ta)(hs:starEach [a,b] X.env=[(false,eval a X.env),(false,eval b X.env)]:=by rfl)(hs2:starEach [b] X.env=[(false,eval b X.env)]:=by rfl) :
  PI X tg (.Call (.Name "range" p) [a,b] [] pos) (OQ ta):=by
 intro pins s σ H R I h;refine Call_ (pT I hg hm boot_range (cy (mH (ha pos pins s σ H _ I h) fun us s1 ⟨vs,H1,I1,r1,q1⟩=>?_) (by rw[hs,hs2]) (by rw[hs2];rfl)));obtain⟨i,j,e,⟨q1,q2,q3,q4⟩,q⟩:=q1;subst e;cases r1 with
 | cons r rr =>
  cases rr with
  | cons r' rr =>
   cases rr;obtain⟨t,rfl⟩:=r;obtain⟨t',rfl⟩:=r';exact call_range_2 (AG I1 q1 q2 q3 q4 q)
def SD (wi:TI)(g:TG)(tb:TS):TS:=fun D σ H=>wi σ H fun zfJ H1=>∃W:Nat->Nat->St->Hp->Prop,(∃m,W 0 m σ H1)/\∀i m σ H,W i m σ H ->
 (zfJ.stop i H/\D.nx σ H)\/(zfJ.go i H/\∃N:St->Hp->Prop,(∀kW H',N kW H'->∃m',m'<m/\W (i+1) m' kW H')/\∀x H',zfJ.yld i H x H'->g x σ H' fun mK H2=>tb { D with nx:=N,ct:=N,bk:=D.nx } mK H2)
def wM (fp:List Addr)(h:Heap):List (Addr×Obj):=fp.filterMap fun b=>(h.get? b).map fun o=>(b,o)
theorem sI {h:Heap}{b:Addr}{o:Obj}(hb:b∈fp)(e:h.get? b=some o):(b,o)∈wM fp h:=List.mem_filterMap.mpr ⟨b,hb,by rw[e];rfl⟩
theorem EC {h:Heap}{p:Addr×Obj}(hp:p∈wM fp h):p.1∈fp/\h.get? p.1=some p.2:=by
 obtain⟨b,hb,e⟩:=List.mem_filterMap.mp hp;cases q:h.get? b with
 | none=>rw[q] at e;cases e
 | some o =>
  rw[q] at e;have e':(b,o)=p:=bI e;subst e';exact⟨hb,q⟩
theorem Inv.pinned {σ:St}{H:Hp}(I:Inv X pins σ H s)(hf:∀b∈fp,yK X pins H b)(ho:∀b∈fp,∃o,s.heap.get? b=some o/\∀v,o.data≠.cell v):Inv X (pins++wM fp s.heap) σ H s :=
 I.tY fun p hp=>(gz.mp hp).elim (fun z=>I.pin p (bp _ z)) fun z=>by
  obtain⟨hb,e⟩:=EC z;obtain⟨f0,f1,f2,_⟩:=hf p.1 hb;obtain⟨o,e',d⟩:=ho p.1 hb;rw[e] at e';cases e';exact⟨e,f0,f1,f2,d⟩
theorem Inv.vO {pl:List (Addr×Obj)}{σ:St}{H:Hp}(I:Inv X (pins++pl) σ H s):Inv X pins σ H s:=I.tY fun p hp=>I.pin p (bp _ (cD _ hp))
theorem kR {iter:Expr}{body:List Stmt}{wi:TI}{g:TG}{tb:TS}{pos:Pos}(hp:PassesOwn (model X.prog X.w) X.A X.env X.xe)(hc:X.calm=true)(hi:PI X tg iter wi)(hg:PG X tg g)(hb:xK X body tb)
 (hs:∀x,foldedSetIterable iter X.env x=pure x:=by intro _;rfl):PS X (.For tg iter body [] pos) (SD wi g tb):=by
  intro pins s σ H D I h;refine wpAny_For (mH (hi pins s σ H _ I h) fun v s1 h1=>mH h1 fun KU s2 h2=>?_) hs;obtain⟨it,fp,tn,zfJ,H2,e,I2,T,KW,f2,W,⟨m0,w0⟩,turn⟩:=h2;subst e
  -- what stays true of the MX objects through the loop
  have MY:∀{H':Hp},(∀b∈fp,H' b=none)->∀b∈fp,yK X pins H' b:=fun hn b hb=>⟨hn b hb,(f2 b hb).2⟩;refine codeAny_forLoop_any (fun n s'=>∃i kW H',Inv X pins kW H' s'/\tn i s'.heap/\(∀b∈fp,H' b=none)/\W i n kW H') ?_ m0 ⟨0,σ,H2,I2,KW,fun b hb=>(f2 b hb).1,w0⟩;rintro n s3 ⟨i,HQ,H3,I3,Qa,Qb,w3⟩;rcases turn i n HQ H3 w3 with ⟨stop,qn⟩ | ⟨go,N,hN,step⟩
  · refine eV hp (mH (T.done X Z Z Z hc i pins s3 HQ H3 X.xe I3 (MY Qb) Qa stop) fun r s4 ⟨hr,I4⟩=>?_)
    subst hr;exact gQ ⟨HQ,H3,I4,qn⟩
  · refine eV hp (mH (T.item X Z Z Z hc i pins s3 HQ H3 X.xe I3 (MY Qb) Qa go) fun r s4 ⟨u,hr,h4⟩=>?_)
    subst hr;refine eV hp (mH h4 fun _ s5 ⟨x,H5,I5,r5,y5,JZ,WK⟩=>?_);have WL:=I5.pinned (MY WK) (T.obj _ _ JZ);refine eV hp (mH (hg _ s5 HQ H5 x u _ WL r5 (step x H5 y5)) fun _ s6 ⟨NI,H6,I6,q6⟩=>?_);refine eV hp (mH (hb _ s6 NI H6 _ I6 q6) fun f s7 q7=>?_);have again:∀{HR:St}{H7:Hp},Inv X (pins++wM fp s5.heap) HR H7 s7->N HR H7->∃m,m<n/\∃i kW H',Inv X pins kW H' s7/\tn i s7.heap/\(∀b∈fp,H' b=none)/\W i m kW H':=fun {HR H7} I7 n7=>by
      obtain⟨m',hm,w7⟩:=hN HR H7 n7;refine⟨m',hm,i+1,HR,H7,I7.vO,T.keep _ _ _ JZ fun b hb o e=>(I7.pin (b,o) (bp _ (bp _ (sI hb e)))).1,fun b hb=>?_,w7⟩;obtain⟨o,e,d⟩:=T.obj _ _ JZ b hb;exact(I7.pin (b,o) (bp _ (bp _ (sI hb e)))).2.1
    cases f with
    | next=>obtain⟨HR,H7,I7,n7⟩:=q7;exact again I7 n7
    | cont=>obtain⟨HR,H7,I7,n7⟩:=q7;exact again I7 n7
    | brk=>obtain⟨HR,H7,I7,q7⟩:=q7;exact⟨HR,H7,I7.vO,q7⟩
    | ret v=>obtain⟨x7,HR,H7,I7,r7,q7⟩:=q7;exact⟨x7,HR,H7,I7.vO,r7,q7⟩
end
theorem mB {K:PySem.W.Frag}{a:Addr}{xs:List V}{g:TG}{tb:TS}{D:Ends}{σ:St}{H:Hp}(Pv:Nat->St->Hp->Prop)(h0:Pv 0 σ H)(hl:∀i σ H,i<=xs.length->Pv i σ H->jV K H a xs)
  (hs:∀i x σ H,xs[i]?=some x->Pv i σ H->g x σ H fun mK H2=>tb { D with nx:=Pv (i+1),ct:=Pv (i+1),bk:=D.nx } mK H2)(hd:∀σ H,Pv xs.length σ H->D.nx σ H) :
  ∃W:Nat->Nat->St->Hp->Prop,(∃m,W 0 m σ H)/\∀i m σ H,W i m σ H ->
   ((JO K a).stop i H/\D.nx σ H)\/((JO K a).go i H/\∃N:St->Hp->Prop,(∀kW H',N kW H'->∃m',m'<m/\W (i+1) m' kW H')/\∀x H',(JO K a).yld i H x H'->g x σ H' fun mK H2=>tb { D with nx:=N,ct:=N,bk:=D.nx } mK H2):=by
 refine⟨fun i m σ H=>m=xs.length-i/\i<=xs.length/\Pv i σ H,⟨xs.length,jB,Nat.zero_le _,h0⟩,?_⟩;rintro i m σ H ⟨rfl,hi,p⟩;have q:=hl i σ H hi p
 by_cases pB:i<xs.length
 .refine .inr ⟨⟨xs,xs[i],q,by simp[pB]⟩,Pv (i+1),fun kW H' p'=>⟨xs.length-(i+1),jD,Z,pB,p'⟩,fun x H' y=>?_⟩;obtain⟨e,y⟩:=y;subst e;exact hs i x σ _ (y xs q) p
 .have e:i=xs.length:=jD;subst e;exact .inl ⟨⟨xs,q,aH _⟩,hd σ H p⟩
theorem xZ {lo:Int}{n:Nat}{g:TG}{tb:TS}{D:Ends}{σ:St}{H:Hp}(Pv:Nat->St->Hp->Prop)(h0:Pv 0 σ H)
  (hs:∀i σ H,i<n->Pv i σ H->g (.int (lo+i)) σ H fun mK H2=>tb { D with nx:=Pv (i+1),ct:=Pv (i+1),bk:=D.nx } mK H2)(hd:∀σ H,Pv n σ H->D.nx σ H) :
  ∃W:Nat->Nat->St->Hp->Prop,(∃m,W 0 m σ H)/\∀i m σ H,W i m σ H ->
   ((Ci lo n).stop i H/\D.nx σ H)\/((Ci lo n).go i H/\∃N:St->Hp->Prop,(∀kW H',N kW H'->∃m',m'<m/\W (i+1) m' kW H')/\∀x H',(Ci lo n).yld i H x H'->g x σ H' fun mK H2=>tb { D with nx:=N,ct:=N,bk:=D.nx } mK H2):=by
 refine⟨fun i m σ H=>m=n-i/\i<=n/\Pv i σ H,⟨n,jB,Nat.zero_le _,h0⟩,?_⟩;rintro i m σ H ⟨rfl,hi,p⟩
 by_cases pB:i<n
 .refine .inr ⟨pB,Pv (i+1),fun kW H' p'=>⟨n-(i+1),jD,Z,pB,p'⟩,fun x H' y=>?_⟩;obtain⟨e,y⟩:=y;subst e y;exact hs i σ _ pB p
 .have e:i=n:=jD;subst e;exact .inl ⟨aH _,hd σ H p⟩
abbrev R2:=V->V->Hp->VK->Prop
def ux (X:Cx)(f:Value->Value->Sem Value)(r:R2):Prop :=
 ∀(pins:List (Addr×Obj))(s:Shared)(σ:St)(H:Hp)(x y:V)(v u:Value)(Q:VK),Inv X pins σ H s->RelV x v->RelV y u->r x y H Q ->
  wpAny (model X.prog X.w) X.A (f v u) (EP X pins σ Q) X.xe s
def Tv (X:Cx)(f:Value->Sem Value)(r:V->Hp->VK->Prop):Prop :=
 ∀(pins:List (Addr×Obj))(s:Shared)(σ:St)(H:Hp)(x:V)(v:Value)(Q:VK),Inv X pins σ H s->RelV x v->r x H Q ->
  wpAny (model X.prog X.w) X.A (f v) (EP X pins σ Q) X.xe s
def qO (X:Cx)(f:Value)(r:List V->Hp->VK->Prop):Prop :=
 ∀(pins:List (Addr×Obj))(s:Shared)(σ:St)(H:Hp)(xs:List V)(us:List Value)(Q:VK),Inv X pins σ H s->Vals xs us->r xs H Q ->
  wpAny (model X.prog X.w) X.A (call f us) (EP X pins σ Q) X.xe s
def NE (r:R2)(ta tb:TE):TE:=fun σ H Q=>ta σ H fun x H1=>tb σ H1 fun y H2=>r x y H2 Q
def tUn (r:V->Hp->VK->Prop)(ta:TE):TE:=fun σ H Q=>ta σ H fun x H1=>r x H1 Q
def rI (C:Int->Int->Prop)(g:Int->Int->V):R2:=fun x y H Q=>∃i j,x=.int i/\y=.int j/\C i j/\Q (g i j) H
def Kk (g:Int->Int->V):R2:=fun x y H Q=>∃i j,x=.int i/\y=.int j/\Q (g i j) H
def rU (g:Int->V):V->Hp->VK->Prop:=fun x H Q=>∃i,x=.int i/\Q (g i) H
section
variable {f:Value->Value->Sem Value}{g:Int->Int->Int}
variable {X:Cx}{a b:Expr}{ta tb:TE}{pos:Pos}
theorem Mg (ha:PE X a ta)(hb:PE X b tb){pins:List (Addr×Obj)}{s:Shared}{σ:St}{H:Hp}{R:V->V->Hp->Prop}(I:Inv X pins σ H s)
 (h:ta σ H fun x H1=>tb σ H1 fun y H2=>R x y H2){Q:Value->Shared->Prop}
 (hf:∀v u s2 x y H2,Inv X pins σ H2 s2->RelV x v->RelV y u->R x y H2->wpAny (model X.prog X.w) X.A (f v u) Q X.xe s2) :
    wpAny (model X.prog X.w) X.A (eval a X.env) (fun v s₁=>wpAny (model X.prog X.w) X.A (eval b X.env) (fun u WM=>wpAny (model X.prog X.w) X.A (f v u) Q X.xe WM) X.xe s₁) X.xe s:=by
  refine mH (ha pins s σ H _ I h) fun v s1 ⟨x,H1,I1,r1,q1⟩=>?_;refine mH (hb pins s1 σ H1 _ I1 q1) fun u s2 ⟨y,H2,I2,r2,q2⟩=>?_;exact hf v u s2 x y H2 I2 r1 r2 q2
theorem jR {op:Operator}{r:R2}(ho:ux X (binaryOp op) r)(ha:PE X a ta)(hb:PE X b tb):PE X (.BinOp a op b pos) (NE r ta tb):=by
 intro pins s σ H Q I h;exact wpAny_BinOp (Mg ha hb I h fun v u s2 x y H2 I2 rx ry q=>ho pins s2 σ H2 x y v u Q I2 rx ry q)
theorem rq {op:UnaryOp}{r:V->Hp->VK->Prop}(ho:Tv X (unaryOp op) r)(ha:PE X a ta):PE X (.UnaryOp op a pos) (tUn r ta):=by
 intro pins s σ H Q I h;exact UnaryOp_ (mH (ha pins s σ H _ I h) fun v s1 ⟨x,H1,I1,r1,q1⟩=>ho pins s1 σ H1 x v Q I1 r1 q1)
theorem PF {C:Int->Int->Prop}
 (rule:∀(i j:Int)(t u:Tok)(s:Shared)(Q:Value->Shared->Prop)(E:Value->Shared->Prop),C i j->Q (.int (g i j) s.toks) { s with toks:=s.toks+1 }->wpAny (model X.prog X.w) X.A (f (.int i t) (.int j u)) Q E s) :
    ux X f (rI C fun i j=>.int (g i j)):=by
  intro pins s σ H x y v u Q I rx ry h;obtain⟨i,j,rfl,rfl,hc,q⟩:=h;obtain⟨t,rfl⟩:=rx;obtain⟨t',rfl⟩:=ry;exact rule i j t t' s _ _ hc ⟨.int (g i j),H,I.tok _,⟨_,Z⟩,q⟩
theorem O6
 (rule:∀(i j:Int)(t u:Tok)(s:Shared)(Q:Value->Shared->Prop)(E:Value->Shared->Prop),Q (.int (g i j) s.toks) { s with toks:=s.toks+1 }->wpAny (model X.prog X.w) X.A (f (.int i t) (.int j u)) Q E s) :
    ux X f (Kk fun i j=>.int (g i j)):=by
  intro pins s σ H x y v u Q I rx ry h;obtain⟨i,j,rfl,rfl,q⟩:=h;obtain⟨t,rfl⟩:=rx;obtain⟨t',rfl⟩:=ry;exact rule i j t t' s _ _ ⟨.int (g i j),H,I.tok _,⟨_,Z⟩,q⟩
theorem JF {g:Int->Int->Bool}
 (rule:∀(i j:Int)(t u:Tok)(s:Shared)(Q:Value->Shared->Prop)(E:Value->Shared->Prop),Q (.bool (g i j)) s->wpAny (model X.prog X.w) X.A (f (.int i t) (.int j u)) Q E s) :
    ux X f (Kk fun i j=>.bl (g i j)):=by
  intro pins s σ H x y v u Q I rx ry h;obtain⟨i,j,rfl,rfl,q⟩:=h;obtain⟨t,rfl⟩:=rx;obtain⟨t',rfl⟩:=ry;exact rule i j t t' s _ _ ⟨.bl (g i j),H,I,Z,q⟩
def Vr (i j:Int):Prop:=0<=j/\j<=1000000/\i.natAbs<2^64
def PY (i j:Int):Prop:=(-(2^64)<i/\i<2^64)\/(-(2^64)<j/\j<2^64)
theorem PY.ok {i j:Int}(h:PY i j):IntMulOk i j:=by
 rcases h with ⟨h1,h2⟩ | ⟨h1,h2⟩
 .exact .of_left (fO h1 h2)
 .exact .of_right (fO h1 h2)
theorem Cm (k:Nat):(0:Int)<=2^k:=by
 rw[two_pow_cast];exact i4 _
theorem kG:ux X (binaryOp .Add) (Kk fun i j=>.int (i+j)):=O6 fun _ _ _ _ _ _ _ q=>add_int q
theorem mU:ux X (binaryOp .Sub) (Kk fun i j=>.int (i-j)):=O6 fun _ _ _ _ _ _ _ q=>sub_int q
theorem ky:ux X (binaryOp .Mod) (rI (fun _ j=>0<j) fun i j=>.int (i%j)):=PF fun i j _ _ _ _ _ hc q=>by
 have h1:(0:Int)<j:=hc;exact mod_int' jD (by rw[cP i jD];exact q)
theorem yO:ux X (binaryOp .Pow) (rI Vr fun i j=>.int (i^j.toNat)):=PF fun _ _ _ _ _ _ _ hc q=>pow_int_small hc.1 hc.2.1 hc.2.2 q
theorem Fh:ux X (binaryOp .RShift) (rI (fun _ j=>0<=j) fun i j=>.int (i/2^j.toNat)):=PF fun i j _ _ _ _ _ hc q =>
 rshift_int hc (by rw[dY i (Cm _)];exact q)
theorem unI {f:Value->Sem Value}{g:Int->Int}
 (rule:∀(i:Int)(t:Tok)(s:Shared)(Q:Value->Shared->Prop)(E:Value->Shared->Prop),Q (.int (g i) s.toks) { s with toks:=s.toks+1 }->wpAny (model X.prog X.w) X.A (f (.int i t)) Q E s) :
    Tv X f (rU fun i=>.int (g i)):=by
  intro pins s σ H x v Q I rx h;obtain⟨i,rfl,q⟩:=h;obtain⟨t,rfl⟩:=rx;exact rule i t s _ _ ⟨.int (g i),H,I.tok _,⟨_,Z⟩,q⟩
theorem oO:Tv X (unaryOp .USub) (rU fun i=>.int (-i)):=unI fun _ _ _ _ _ q=>neg_int q
end
def OV:V->V->Bool
 | .non,.non=>true | .non,.int _=>true | .int _,.non=>true | .non,.bl _=>true | .bl _,.non=>true | .non,.str _=>true | .str _,.non=>true
 | .int _,.int _=>true | .bl _,.bl _=>true | .str _,.str _=>true | .byt _,.byt _=>true
 | .int _,.str _=>true | .str _,.int _=>true | .bl _,.str _=>true | .str _,.bl _=>true
 | _,_=>false
def rEq:R2:=fun x y H Q=>OV x y=true/\Q (.bl (decide (x=y))) H
def rNe:R2:=fun x y H Q=>OV x y=true/\Q (.bl (!decide (x=y))) H
theorem Da {i j:Int}:decide (V.int i=V.int j)=(i == j):=by
 rw[eO];simp
theorem FM {i j:Bool}:decide (V.bl i=V.bl j)=(i == j):=by
 rw[eO];simp
theorem DO {i j:Str}:decide (V.str i=V.str j)=(i == j):=by
 rw[eO];simp
theorem DE {i j:Array UInt8}:decide (V.byt i=V.byt j)=(i.toList == j.toList):=by
 rw[eO];cases i;cases j;simp
section
variable {X:Cx}{a b c:Expr}{ta tb:TE}{pos:Pos}
theorem kO {pins:List (Addr×Obj)}{σ:St}{H:Hp}{s:Shared}{Q:VK}{k k':Bool}(I:Inv X pins σ H s)(q:Q (.bl k) H)(e:k=k'):EP X pins σ Q (.bool k') s:=by
 subst e;exact⟨.bl k,H,I,Z,q⟩
theorem m7:ux X (compareOp .Eq) rEq:=by
 intro pins s σ H x y v u Q I rx ry h;obtain⟨hs,q⟩:=h;cases x with
 | non =>
  cases rx;cases y with
  | non=>cases ry;exact PySem.EqNone.eq_none_none (kO I q jB)
  | bl j=>cases ry;exact PySem.EqNone.eq_none_bool (kO I q jB)
  | int j=>obtain⟨t',rfl⟩:=ry;exact PySem.EqNone.eq_none_int (kO I q jB)
  | str j=>obtain⟨t',rfl⟩:=ry;exact PySem.EqNone.eq_none_str (kO I q jB)
  | _=>exact absurd (show false=true from hs) bf
 | bl i =>
  cases rx;cases y with
  | non=>cases ry;exact PySem.EqNone.eq_bool_none (kO I q jB)
  | bl j=>cases ry;exact eq_bool (kO I q FM)
  | str j=>obtain⟨t',rfl⟩:=ry;exact PySem.EqMixed.eq_bool_str (kO I q jB)
  | _=>exact absurd (show false=true from hs) bf
 | int i =>
  obtain⟨t,rfl⟩:=rx;cases y with
  | non=>cases ry;exact PySem.EqNone.eq_int_none (kO I q jB)
  | int j=>obtain⟨t',rfl⟩:=ry;exact eq_int (kO I q Da)
  | str j=>obtain⟨t',rfl⟩:=ry;exact PySem.EqMixed.eq_int_str (kO I q jB)
  | _=>exact absurd (show false=true from hs) bf
 | str i =>
  obtain⟨t,rfl⟩:=rx;cases y with
  | non=>cases ry;exact PySem.EqNone.eq_str_none (kO I q jB)
  | bl j=>cases ry;exact PySem.EqMixed.eq_str_bool (kO I q jB)
  | int j=>obtain⟨t',rfl⟩:=ry;exact PySem.EqMixed.eq_str_int (kO I q jB)
  | str j=>obtain⟨t',rfl⟩:=ry;exact eq_str (kO I q DO)
  | _=>exact absurd (show false=true from hs) bf
 | byt i =>
  obtain⟨t,rfl⟩:=rx;cases y with
  | byt j=>obtain⟨t',rfl⟩:=ry;exact PySem.W.eq_bytes (kO I q DE)
  | _=>exact absurd (show false=true from hs) bf
 | _=>cases y<;>exact absurd (show false=true from hs) Bool.false_ne_true
theorem n8:ux X (compareOp .NotEq) rNe:=by
 intro pins s σ H x y v u Q I rx ry h;obtain⟨hs,q⟩:=h;cases x with
 | non =>
  cases rx;cases y with
  | non=>cases ry;exact PySem.EqNone.ne_none_none (kO I q jB)
  | bl j=>cases ry;exact PySem.EqNone.ne_none_bool (kO I q jB)
  | int j=>obtain⟨t',rfl⟩:=ry;exact PySem.EqNone.ne_none_int (kO I q jB)
  | str j=>obtain⟨t',rfl⟩:=ry;exact PySem.EqNone.ne_none_str (kO I q jB)
  | _=>exact absurd (show false=true from hs) bf
 | bl i =>
  cases rx;cases y with
  | non=>cases ry;exact PySem.EqNone.ne_bool_none (kO I q jB)
  | bl j=>cases ry;exact ne_bool (kO I q (congrArg not FM))
  | str j=>obtain⟨t',rfl⟩:=ry;exact PySem.EqMixed.ne_bool_str (kO I q jB)
  | _=>exact absurd (show false=true from hs) bf
 | int i =>
  obtain⟨t,rfl⟩:=rx;cases y with
  | non=>cases ry;exact PySem.EqNone.ne_int_none (kO I q jB)
  | int j=>obtain⟨t',rfl⟩:=ry;exact ne_int (kO I q (congrArg not Da))
  | str j=>obtain⟨t',rfl⟩:=ry;exact PySem.EqMixed.ne_int_str (kO I q jB)
  | _=>exact absurd (show false=true from hs) bf
 | str i =>
  obtain⟨t,rfl⟩:=rx;cases y with
  | non=>cases ry;exact PySem.EqNone.ne_str_none (kO I q jB)
  | bl j=>cases ry;exact PySem.EqMixed.ne_str_bool (kO I q jB)
  | int j=>obtain⟨t',rfl⟩:=ry;exact PySem.EqMixed.ne_str_int (kO I q jB)
  | str j=>obtain⟨t',rfl⟩:=ry;exact ne_str (kO I q (congrArg not DO))
  | _=>exact absurd (show false=true from hs) bf
 | byt i =>
  obtain⟨t,rfl⟩:=rx;cases y with
  | byt j=>obtain⟨t',rfl⟩:=ry;exact PySem.W.ne_bytes (kO I q (congrArg not DE))
  | _=>exact absurd (show false=true from hs) bf
 | _=>cases y<;>exact absurd (show false=true from hs) Bool.false_ne_true
theorem Di:ux X (compareOp .Lt) (Kk fun i j=>.bl (decide (i<j))):=JF fun _ _ _ _ _ _ _ q=>lt_int q
theorem DC:ux X (compareOp .LtE) (Kk fun i j=>.bl (decide (i<=j))):=JF fun _ _ _ _ _ _ _ q=>le_int q
theorem wu:ux X (compareOp .Gt) (Kk fun i j=>.bl (decide (j<i))):=JF fun _ _ _ _ _ _ _ q=>gt_int q
theorem KI:ux X (compareOp .GtE) (Kk fun i j=>.bl (decide (j<=i))):=JF fun _ _ _ _ _ _ _ q=>ge_int q
theorem zN:ux X (compareOp .Is) (fun x y H Q=>y=.non/\Q (.bl (decide (x=.non))) H):=by
 intro pins s σ H x y v u Q I rx ry h;obtain⟨rfl,q⟩:=h;cases ry;refine is_none_gen (kO I q ?_);cases x<;>first
  | (cases rx;rfl)
  | (obtain⟨t,rfl⟩:=rx;rfl)
theorem Jd:ux X (compareOp .IsNot) (fun x y H Q=>y=.non/\Q (.bl (!decide (x=.non))) H):=by
 intro pins s σ H x y v u Q I rx ry h;obtain⟨rfl,q⟩:=h;cases ry;refine isnot_none_gen (kO I q ?_);cases x<;>first
  | (cases rx;rfl)
  | (obtain⟨t,rfl⟩:=rx;rfl)
theorem oZ (b:Expr){op:CmpOp}(h:op≠.In:=by decide)(h2:op≠.NotIn:=by decide):behindInMarks op b=false:=by
 have e1:(op == CmpOp.In)=false:=by cases op<;>first | rfl | exact absurd Z h
 have e2:(op == CmpOp.NotIn)=false:=by cases op<;>first | rfl | exact absurd Z h2
 cases b<;>simp[behindInMarks,e1,e2]
theorem nZ {op:CmpOp}{r:R2}(ho:ux X (compareOp op) r)(ha:PE X a ta)(hb:PE X b tb)(hm:behindInMarks op b=false):PE X (.Compare a [op] [b] pos) (NE r ta tb):=by
 intro pins s σ H Q I h;exact wpAny_Compare1 (Mg ha hb I h fun v u s2 x y H2 I2 rx ry q=>ho pins s2 σ H2 x y v u Q I2 rx ry q) hm
def KB (t:TE):TT:=fun σ H Q=>t σ H fun x H'=>∃k,x=.bl k/\Q k H'
theorem Dc {op:CmpOp}{r:R2}(ho:ux X (compareOp op) r)(ha:PE X a ta)(hb:PE X b tb)(hm:behindInMarks op b=false):PT X (.Compare a [op] [b] pos) (KB (NE r ta tb)):=by
 intro pins s σ H Q I h;refine wpAny_isTrue_Compare1 (mH (ha pins s σ H _ I h) fun v s1 ⟨x,H1,I1,r1,q1⟩=>mH (hb pins s1 σ H1 _ I1 q1) fun u s2 ⟨y,H2,I2,r2,q2⟩ =>
  mH (ho pins s2 σ H2 x y v u _ I2 r1 r2 q2) fun c s3 ⟨z,H3,I3,r3,k,e,q3⟩=>?_) hm
 subst e;cases r3;exact fj ⟨H3,I3,q3⟩
theorem yG:(sizeLine:Nat)<2^63:=by rw[sizeLine_eq];decide
theorem vals1 {x:V}{us:List Value}(r:Vals [x] us):∃u,us=[u]/\RelV x u:=by
 cases r with
 | cons r1 r2=>cases r2;exact⟨_,Z,r1⟩
theorem vals2 {x y:V}{us:List Value}(r:Vals [x,y] us):∃u w',us=[u,w']/\RelV x u/\RelV y w':=by
 cases r with
 | cons r1 r2 =>
  cases r2 with
  | cons r3 r4=>cases r4;exact⟨_,_,Z,r1,r3⟩
theorem oJ:qO X (.builtin "abs") (fun xs H Q=>∃i,xs=[.int i]/\Q (.int (if i<0 then -i else i)) H):=by
 intro pins s σ H xs us Q I r h;obtain⟨i,rfl,q⟩:=h;obtain⟨u,rfl,t,rfl⟩:=vals1 r;exact call_abs_int fun u tk=>⟨.int (if i<0 then -i else i),H,I.tok _,⟨_,Z⟩,q⟩
theorem yd (hc:X.calm=true):qO X (.builtin "max") (fun xs H Q=>∃i j,xs=[.int i,.int j]/\Q (.int (if j > i then j else i)) H):=by
 intro pins s σ H xs us Q I r h;obtain⟨i,j,rfl,q⟩:=h;obtain⟨u,w',rfl,⟨t,rfl⟩,⟨t',rfl⟩⟩:=vals2 r;refine max_two_ints (I.ok.hd hc) fun h' tk k=>⟨_,H,I.kept k,?_,q⟩
 by_cases hj:j > i
 .rw[aC hj,aC hj];exact⟨_,Z⟩
 .rw[ak hj,ak hj];exact⟨_,Z⟩
theorem yc (hc:X.calm=true):qO X (.builtin "min") (fun xs H Q=>∃i j,xs=[.int i,.int j]/\Q (.int (if j<i then j else i)) H):=by
 intro pins s σ H xs us Q I r h;obtain⟨i,j,rfl,q⟩:=h;obtain⟨u,w',rfl,⟨t,rfl⟩,⟨t',rfl⟩⟩:=vals2 r;refine min_two_ints (I.ok.hd hc) fun h' tk k=>⟨_,H,I.kept k,?_,q⟩
 by_cases hj:j<i
 .rw[aC hj,aC hj];exact⟨_,Z⟩
 .rw[ak hj,ak hj];exact⟨_,Z⟩
end
structure BK (h:Heap)(x dx C:Addr)(mA:Str->Option Value):Prop where
 obj:h.get? x=some (PySem.W.instObj C dx)
 ns:h.Ns1 dx mA
 ne:dx≠x
theorem D7 {h:Heap}{dx:Addr}{mA:Str->Option Value}(n:h.Ns1 dx mA):∃od,h.get? dx=some od/\∀name,PySem.W.lookIn name od=some (mA name):=by
 obtain⟨o,es,ep,ho,hd,hk,_,hm⟩:=n;refine⟨o,ho,fun name=>?_⟩;have e:=hm name;unfold nsFind findBy at e;rw[<-Array.find?_toList] at e;unfold PySem.W.lookIn;rw[hd];dsimp only;split
 .rename_i y q;rw[q] at e;exact cU some e
 .rename_i q;rw[q] at e;have a:es.toList.any (·.refKey)=false:=by
   rw[List.any_eq_false];intro y hy;obtain⟨z,t,WN⟩:=hk y (Array.mem_toList_iff.mp hy);simp[DictEntry.refKey,WN]
  have a':¬es.toList.any (·.refKey)=true:=by rw[a];exact bf
  rw[ak a'];exact cU some e
theorem BK.look {h:Heap}{x dx C:Addr}{mA:Str->Option Value}(I:BK h x dx C mA):∃od,PySem.W.InstAt h x (PySem.W.instObj C dx) C (some od)/\∀name,PySem.W.lookIn name od=some (mA name) :=
 let ⟨od,ho,hl⟩:=D7 I.ns
 ⟨od,⟨I.obj,Z,Z,ho⟩,hl⟩
section
variable {prog:Program}{w:World}{A:Around}{E:Value->Shared->Prop}{s:Shared}{K:PySem.W.Frag}{x dx C f:Addr}{mA:Str->Option Value}{name:Str}{v:Value}
theorem get_map {expr:Bool}{Q:Value->Shared->Prop}(X:K.In s.heap)(I:BK s.heap x dx C mA)(hg:PySem.W.plainGet K C name=true)(hh:PySem.W.hasDictIn K C=true)
  (ha:PySem.W.findIn K (.ref C) name=some none)(hv:mA name=some v)(hv':PySem.W.handedIn v=true)(h:Q v { s with toks:=s.toks+1 }) :
  wpAny (model prog w) A (getAttr (.ref x) name expr) Q E s:=by
 obtain⟨od,zfJ,hl⟩:=I.look;exact PySem.W.get_value X zfJ (gN hg).1 (PySem.W.findObj_own hh ha Z (by rw[hl,hv])) hv' h
theorem FC {pl:Sem Bool}{Q:Value×List Value->Shared->Prop}(X:K.In s.heap)(I:BK s.heap x dx C mA)(hg:PySem.W.plainGet K C name=true)
  (hf:PySem.W.findIn K (.ref C) name=some (some (.ref f)))(ht:PySem.W.isFn K (.ref f)=true)(hv:mA name=none)(h:Q (.ref f,[.ref x]) s) :
  wpAny (model prog w) A (getMethod (.ref x) name pl) Q E s:=by
 obtain⟨od,zfJ,hl⟩:=I.look;exact PySem.W.method_fn X zfJ (gN hg).1 (gN hg).2 hf (gR.mp ht) (by show (PySem.W.lookIn name od).map (·.isSome)=some false;rw[hl,hv];rfl) h
theorem JB {ns:List Str}{Q:Unit->Shared->Prop}(X:K.In s.heap)(I:BK s.heap x dx C mA)
  (hs:PySem.W.findIn K (.ref C) "__setattr__"=some (some (.builtin "object.__setattr__")))(hp:PySem.W.plainOver K C=true)(ht:PySem.W.takerIn K C name=some none)(hh:PySem.W.hasDictIn K C=true)
  (hw:PySem.Within mA ns)(hsz:ns.length<=sizeLine)
  (h:∀h',BK h' x dx C (fun y=>if y=name then some v else mA y)->Heap.SameBut dx s.heap h'->Q () { s with heap:=h',toks:=s.toks+2 }) :
  wpAny (model prog w) A (setAttr (.ref x) name v) Q E s:=by
 obtain⟨od,zfJ,hl⟩:=I.look;refine PySem.W.set_plain X zfJ hs (PySem.W.osa_open (s:={ s with toks:=s.toks+1 }) (r:=none) X zfJ hp ht fun b=>?_);obtain⟨cd,hc,NG⟩:=PySem.W.any_some hh;have hx:s.heap.get? x=some ⟨.ref C,some dx,.plain,#[]⟩:=I.obj;refine cB (dI (cB (cB (wpAny_loadPart hx (cB (PySem.W.Looks.here (s:={ s with toks:=s.toks+1 }) (PySem.W.looks_clsIn X hc) ?_))))));rw[NG];refine dI (a:=some dx) (cB (dI (cB ?_)));refine wpAny_nsSet1 (s:={ s with toks:=s.toks+1 }) I.ns fun h' RG hs2=>?_;obtain⟨oD,esD,epD,hoD,hdD,hcD⟩:=RG.count (PySem.Within.cons name v hw);refine cB (wpAny_lookBehind hoD (by rw[hdD];exact pastItsLine_dict (bR hcD (by rw[bw];omega))) ?_);exact dI (h _ ⟨(hs2.2 _ (c7 I.ne)).trans I.obj,RG,I.ne⟩ hs2)
theorem GH {R:Result->Shared->Prop}{vs:List Value}{kw:List (Str×Value)}(X:K.In s.heap)(hm:PySem.W.makesIn K C=true)
  (hi:PySem.W.findIn K (.ref C) "__init__"=some (some (.ref f)))(hf:PySem.W.typeIn K (.ref f)=some (.type "function"))
  (h:codeAny (model prog w) (A.under (.builtin "type.__call__" ⟨.ref C::vs,kw⟩)) (.call (.ref f) ⟨.ref (s.heap.objs.size+1)::vs,kw⟩) (PySem.W.InitBack (s.heap.objs.size+1) R)
   { s with heap:=(s.heap.push PySem.W.emptyDict).push (PySem.W.instObj C s.heap.objs.size) }) :
  codeAny (model prog w) A (.call (.ref C) ⟨vs,kw⟩) R s:=by
 obtain⟨hh,g,d,t,os⟩:=s;exact PySem.W.make_core (PySem.W.makes_of X hm) (PySem.W.looks_findIn X hi) (fun self=>PySem.W.bind_fn X self hf) (.inl Z) h
end
def mO (f:Str)(v:V):List (Str×V)->List (Str×V)
 | []=>[(f,v)]
 | (g,x)::r=>if g=f then (g,v)::r else (g,x)::mO f v r
theorem jQ (f g:Str)(v:V):∀fs:List (Str×V),(mO f v fs).lookup g=if g=f then some v else fs.lookup g
 | []=>by
  show List.lookup g [(f,v)]=_
  by_cases h:g=f
  .have hb:(g == f)=true:=gR.mpr h;simp only[List.lookup,hb,if_pos h]
  .have hb:(g == f)=false:=fY.mpr h;simp only[List.lookup,hb,if_neg h]
 | (k,x)::r=>by
  have ih:=jQ f g v r;rw[show mO f v ((k,x)::r)=(if k=f then (k,v)::r else (k,x)::mO f v r) from Z]
  by_cases hk:k=f
  .rw[aC hk]
   by_cases h:g=k
   .have hb:(g == k)=true:=gR.mpr h;simp only[List.lookup,hb,if_pos (h.trans hk)]
   .have hb:(g == k)=false:=fY.mpr h;simp only[List.lookup,hb,if_neg (fun e:g=f=>h (e.trans hk.symm))]
  .rw[ak hk]
   by_cases h:g=k
   .have hb:(g == k)=true:=gR.mpr h;simp only[List.lookup,hb,if_neg (fun e:g=f=>hk (h.symm.trans e))]
   .have hb:(g == k)=false:=fY.mpr h;simp only[List.lookup,hb];exact ih
theorem ui (f:Str)(v:V):∀fs:List (Str×V),f∈(mO f v fs).map (·.1)/\∀g,g∈fs.map (·.1)->g∈(mO f v fs).map (·.1)
 | []=>⟨by simp[mO],fun g h=>by simp at h⟩
 | (k,x)::r=>by
  obtain⟨i1,i2⟩:=ui f v r;rw[show mO f v ((k,x)::r)=(if k=f then (k,v)::r else (k,x)::mO f v r) from Z]
  by_cases hk:k=f
  .rw[aC hk];subst hk;exact⟨jB,fun g h=>by simpa using h⟩
  .rw[ak hk];refine⟨?_,fun g h=>?_⟩
   .rw[cZ];exact ar _ i1
   .rw[cZ] at h ⊢;rcases List.mem_cons.mp h with e | e
    .exact fv.mpr (.inl e)
    .exact ar _ (i2 g e)
theorem uU (f:Str)(v:V):∀fs:List (Str×V),(mO f v fs).length<=fs.length+1
 | []=>by simp[mO]
 | (k,x)::r=>by
  have ih:=uU f v r;rw[show mO f v ((k,x)::r)=(if k=f then (k,v)::r else (k,x)::mO f v r) from Z]
  by_cases hk:k=f
  .rw[aC hk,bw,bw];omega
  .rw[ak hk,bw,bw];omega
theorem va.some_of {v:V}{o:Option Value}(r:va (some v) o):∃u,o=some u/\RelV v u:=by
 cases o with
 | none=>exact(show dZ from r).elim
 | some u=>exact⟨u,Z,r⟩
theorem va.none_of {o:Option Value}(r:va none o):o=none:=by
 cases o with
 | none=>rfl
 | some u=>exact(show dZ from r).elim
theorem Ev {v:V}{u:Value}(r:RelV v u):PySem.W.handedIn u=true:=by
 cases v with
 | non=>cases (show u=Value.none from r);rfl
 | bl b=>cases (show u=Value.bool b from r);rfl
 | int i=>obtain⟨t,e⟩:=(show ∃t,u=Value.int i t from r);cases e;rfl
 | str x=>obtain⟨t,e⟩:=(show ∃t,u=Value.str x t from r);cases e;rfl
 | byt b=>obtain⟨t,e⟩:=(show ∃t,u=Value.bytes b t from r);cases e;rfl
 | flt b=>obtain⟨t,e⟩:=(show ∃t,u=Value.float b t from r);cases e;rfl
 | ref a=>cases (show u=Value.ref a from r);rfl
 | ty n=>cases (show u=Value.type n from r);rfl
section
variable {P:Program}{w:World}{H:Hp}{h:Heap}{a C dx:Addr}{fs:List (Str×V)}
theorem vq (hok:vi P w H h)(e:H a=some (.ins C dx fs)):∃mA,BK h a dx C mA/\(∀f,va (fs.lookup f) (mA f))/\PySem.Within mA (fs.map (·.1))/\fs.length<=1000/\H dx=some (.own a):=by
 obtain⟨d,z,ne,ob,mA,n,r,q⟩:=(show nh P w H h a (.ins C dx fs) from hok a _ e);exact⟨mA,⟨ob,n,ne⟩,r,q,z,d⟩
end
structure Ft (K:PySem.W.Frag)(C:Addr):Prop where
 pg:PySem.W.plainGet K C Str.empty=true
 hd:PySem.W.hasDictIn K C=true
 po:PySem.W.plainOver K C=true
 sa:PySem.W.findIn K (.ref C) "__setattr__"=some (some (.builtin "object.__setattr__"))
theorem Ft.get {K:PySem.W.Frag}{C:Addr}(c:Ft K C)(f:Str):PySem.W.plainGet K C f=true:=c.pg
def nM (K:PySem.W.Frag)(C:Addr)(f:Str):Prop:=PySem.W.findIn K (.ref C) f=some none
theorem nM.O3 {K:PySem.W.Frag}{C:Addr}{f:Str}(n:nM K C f):PySem.W.takerIn K C f=some none:=by
 unfold PySem.W.takerIn;rw[show PySem.W.findIn K (.ref C) f=some none from n];rfl
structure Meth (K:PySem.W.Frag)(C:Addr)(m:Str)(f:Addr):Prop where
 at_:PySem.W.findIn K (.ref C) m=some (some (.ref f))
 fn:PySem.W.isFn K (.ref f)=true
 kp:PySem.W.keepIn K (.ref f)=true
section
variable {Q:Value->Shared->Prop}
variable {X:Cx}{pins:List (Addr×Obj)}{σ:St}{H:Hp}{s:Shared}{a C dx:Addr}{fs:List (Str×V)}{f:Str}{v:V}{A:Around}{E:Value->Shared->Prop}
theorem Cv {b:Bool}(I:Inv X pins σ H s)(e:H a=some (.ins C dx fs))(c:Ft X.K C)(n:nM X.K C f)(l:fs.lookup f=some v)
 (h:∀u s',Inv X pins σ H s'->RelV v u->Q u s'):wpAny (model X.prog X.w) A (getAttr (.ref a) f b) Q E s:=by
  obtain⟨mA,zfK,r,_,_,_⟩:=vq I.hok e;obtain⟨u,hu,ru⟩:=va.some_of (v:=v) (o:=mA f) (by rw[<-l];exact r f);exact get_map I.vk zfK (c.get f) c.hd n hu (Ev ru) (h u _ (I.tok _) ru)
theorem Cu {m:Str}{g:Addr}{pl:Sem Bool}{Q:Value×List Value->Shared->Prop}(I:Inv X pins σ H s)(e:H a=some (.ins C dx fs))(c:Ft X.K C)(k:Meth X.K C m g)(l:fs.lookup m=none)
 (h:Q (.ref g,[.ref a]) s):wpAny (model X.prog X.w) A (getMethod (.ref a) m pl) Q E s:=by
  obtain⟨mA,zfK,r,_,_,_⟩:=vq I.hok e;have hn:mA m=none:=va.none_of (by rw[<-l];exact r m);exact FC I.vk zfK (c.get m) k.at_ k.fn hn h
theorem Bv {y:V}{u:Value}{Q:Unit->Shared->Prop}(I:Inv X pins σ H s)(e:H a=some (.ins C dx fs))(c:Ft X.K C)(n:nM X.K C f)(hl:fs.length<1000)(ry:RelV y u)
 (h:∀s',Inv X pins σ (upd H a (.ins C dx (mO f y fs))) s'->Q () s'):wpAny (model X.prog X.w) A (setAttr (.ref a) f u) Q E s:=by
  obtain⟨mA,zfK,r,wi,_,ho⟩:=vq I.hok e;have hz:(fs.map (·.1)).length<=sizeLine:=by rw[aa,sizeLine_eq];omega
  refine JB I.vk zfK c.sa c.po n.O3 c.hd wi hz fun h' O' sb=>h _ ?_;have hd:∃o,h'.get? dx=some o:=let ⟨o,_,_,e',_⟩:=O'.ns;⟨o,e'⟩;refine I.write (x:=a) (e:=dx) (by rw[e];exact True.intro) (.inr ho) (fun b q hb z=>(sb.2 b hb).trans z) hd ?_;refine⟨by rw[jW zfK.ne];exact ho,?_,zfK.ne,O'.obj,_,O'.ns,fun g=>?_,fun g hg=>?_⟩
  · have:=uU f y fs;omega
  · show va ((mO f y fs).lookup g) (if g=f then some u else mA g)
    rw[jQ]
    by_cases q:g=f
    · rw[aC q,aC q];exact ry
    · rw[ak q,ak q];exact r g
  · by_cases q:g=f
    · rw[q];exact(ui f y fs).1
    · refine(ui f y fs).2 g (wi g fun z=>hg ?_)
      show (if g=f then some u else mA g)=none
      rw[ak q];exact z
theorem Inv.made (I:Inv X pins σ H s):Inv X pins σ (upd (upd H s.heap.objs.size (.own (s.heap.objs.size+1))) (s.heap.objs.size+1) (.ins C s.heap.objs.size []))
  { s with heap:=(s.heap.push PySem.W.emptyDict).push (PySem.W.instObj C s.heap.objs.size) }:=by
 have e1:(s.heap.push PySem.W.emptyDict).get? s.heap.objs.size=some PySem.W.emptyDict:=bX s.heap Z;have e2:((s.heap.push PySem.W.emptyDict).push (PySem.W.instObj C s.heap.objs.size)).get? (s.heap.objs.size+1)=some (PySem.W.instObj C s.heap.objs.size):=by
  have:=bX (s.heap.push PySem.W.emptyDict) (o:=PySem.W.instObj C s.heap.objs.size) Z;rwa [gT] at this
 have e3:(s.heap.push PySem.W.emptyDict).Ns s.heap.objs.size (fun _=>none):=⟨PySem.W.emptyDict,#[],_,e1,Z,(fun e he=>absurd he jB),fun _=>Z⟩;have I1:=I.laid (a:=s.heap.objs.size) (o:=.own (s.heap.objs.size+1)) (h':=s.heap.push PySem.W.emptyDict) (t':=s.toks) (fun b u q=>aP _ q) (aH _) ⟨_,e1⟩;refine I1.laid (a:=s.heap.objs.size+1) (o:=.ins C s.heap.objs.size []) (t':=s.toks) (fun b u q=>aP _ q) (iz (gT _ _)) ?_;have ne:s.heap.objs.size≠s.heap.objs.size+1:=cF (bJ _);refine⟨by rw[jW ne,jG],dH _,ne,e2,fun _=>none,(Heap.Ns1.of_empty e3).at fun o q=>aP _ q,fun _=>True.intro,fun y hy=>absurd Z hy⟩
theorem IV {prog:Program}{w:World}{env:Env}{e:Expr}{f:Str}{pos:Pos}{s:Shared}(hb:attributeBase e f env (eval e env)=eval e env)
 (h:wpAny (model prog w) A (eval e env) (fun o s₁=>wpAny (model prog w) A (getAttr o f true) Q E s₁) E s):wpAny (model prog w) A (eval (.Attribute e f pos) env) Q E s :=
  Attribute_any_ h (by rw[arm_eval_Attribute,hb])
end
def OY (K:PySem.W.Frag)(ta:TE)(f:Str):TE:=fun σ H Q=>ta σ H fun x H1=>∃a C dx fs v,x=.ref a/\H1 a=some (.ins C dx fs)/\Ft K C/\nM K C f/\fs.lookup f=some v/\Q v H1
def Vi (K:PySem.W.Frag)(ta tv:TE)(f:Str):TS:=fun D σ H=>tv σ H fun y H1=>ta σ H1 fun x H2=>∃a C dx fs,x=.ref a/\H2 a=some (.ins C dx fs)/\Ft K C/\nM K C f/\fs.length<1000 /\
 D.nx σ (upd H2 a (.ins C dx (mO f y fs)))
section
variable {X:Cx}{o e value:Expr}{f:Str}{pos pos':Pos}{ta tv:TE}
theorem mw (he:PE X e ta)(hb:attributeBase e f X.env (eval e X.env)=eval e X.env):PE X (.Attribute e f pos) (OY X.K ta f):=by
 intro pins s σ H Q I h;refine IV hb (mH (he pins s σ H _ I h) fun u s1 ⟨x,H1,I1,rx,a,C,dx,fs,v,ex,ea,c,n,l,q⟩=>?_);subst ex;obtain rfl:u=Value.ref a:=rx;exact Cv I1 ea c n l fun u' s2 I2 ru=>⟨v,H1,I2,ru,q⟩
theorem rW (ha:PE X o ta)(hv:PE X value tv)(hs:swapsWith value (some (.Attribute o f pos')) pos.line X.env=pure false):PS X (.Assign [.Attribute o f pos'] value pos) (Vi X.K ta tv f):=by
 intro pins s σ H D I h;refine plainObj_wpAny_Assign_Attribute (mH (hv pins s σ H _ I h) fun u s1 ⟨y,H1,I1,ry,q⟩=>mH (ha pins s1 σ H1 _ I1 q) fun ov s2 ⟨x,H2,I2,rx,a,C,dx,fs,ex,ea,c,n,l,q2⟩=>?_) hs;subst ex;obtain rfl:ov=Value.ref a:=rx;exact Bv I2 ea c n l ry fun s3 I3=>⟨σ,_,I3,q2⟩
end
section
variable {X:Cx}{pins:List (Addr×Obj)}{σ:St}{H:Hp}{s:Shared}{A:Around}{E:Value->Shared->Prop}{Q:Value->Shared->Prop}{c:Value}{b:Bool}
inductive t8 (K:PySem.W.Frag)(H:Hp):V->Value->Prop where
 | non:t8 K H .non (.type "NoneType")
 | bl (x:Bool):t8 K H (.bl x) (.type "bool")
 | int (i:Int):t8 K H (.int i) (.type "int")
 | str (x:Str):t8 K H (.str x) (.type "str")
 | flt (x:UInt64):t8 K H (.flt x) (.type "float")
 | lst {a:Addr}{xs:List V}(e:H a=some (.lst xs)):t8 K H (.ref a) (.type "list")
 | frz {a:Addr}{o:Obj}{xs:List V}(e:H a=some (.frz o (.lst xs))):t8 K H (.ref a) (.type "list")
 | tup {a:Addr}{xs:List V}(e:H a=some (.tup xs)):t8 K H (.ref a) (.type "tuple")
 | dK {a:Addr}{kvs:List (Key×V)}(e:H a=some (.dK kvs)):t8 K H (.ref a) (.type "dict")
 | dT {a:Addr}{kvs:List (List Key×V)}(e:H a=some (.dT kvs)):t8 K H (.ref a) (.type "dict")
 | ins {a C dx:Addr}{fs:List (Str×V)}(e:H a=some (.ins C dx fs))(cl:Ft K C)(ha:PySem.W.findIn K (.ref C) "__class__"=some (some (.builtin "object.__class__")))
   (hn:PySem.W.specialIn K (.builtin "object.__class__") "__get__"=some (some (.builtin "getset_descriptor.__get__")))(htk:PySem.W.takesIn K (.builtin "object.__class__")=some true)
   (hm:PySem.W.mroIn K C (.type "object")=some true):t8 K H (.ref a) (.ref C)
theorem EG {x:V}{u t:Value}(I:Inv X pins σ H s)(rx:RelV x u)(ty:t8 X.K H x t)(e:PySem.W.kitOne X.K t c=some b)(h:∀tk,Q (.bool b) { s with toks:=tk }) :
  wpAny (model X.prog X.w) A (call (.builtin "isinstance") [u,c]) Q E s:=by
 cases ty with
 | non=>cases (show u=Value.none from rx);exact PySem.W.kia_one PySem.W.kitx_none I.vk True.intro e (fun z=>nomatch z) h
 | bl y=>cases (show u=Value.bool y from rx);exact PySem.W.kia_one PySem.W.kitx_bool I.vk True.intro e (fun z=>nomatch z) h
 | int i=>obtain⟨t,q⟩:=(show ∃t,u=Value.int i t from rx);cases q;exact PySem.W.kia_one PySem.W.kitx_int I.vk True.intro e (fun z=>nomatch z) h
 | str y=>obtain⟨t,q⟩:=(show ∃t,u=Value.str y t from rx);cases q;exact PySem.W.kia_one PySem.W.kitx_str I.vk True.intro e (fun z=>nomatch z) h
 | flt y=>obtain⟨t,q⟩:=(show ∃t,u=Value.float y t from rx);cases q;exact PySem.W.kia_one PySem.W.kitx_float I.vk True.intro e (fun z=>nomatch z) h
 | @lst a xs ea =>
  cases (show u=Value.ref a from rx);obtain⟨_,_,n,_,h1⟩:=(show nh X.prog X.w H s.heap a (.lst xs) from I.hok a _ ea);exact fE i7 I.vk ⟨_,h1,Z⟩ e (fun z=>nomatch z) h
 | @frz a ob xs ea =>
  cases (show u=Value.ref a from rx);obtain⟨_,_,_,n,_,h1⟩:=(show nh X.prog X.w H s.heap a (.frz ob (.lst xs)) from I.hok a _ ea);exact fE i7 I.vk ⟨_,h1,Z⟩ e (fun z=>nomatch z) h
 | @tup a xs ea =>
  cases (show u=Value.ref a from rx);obtain⟨_,_,_,p⟩:=(show nh X.prog X.w H s.heap a (.tup xs) from I.hok a _ ea);obtain⟨o,h1,h2,_⟩:=p;exact fE PySem.W.kitx_tuple I.vk ⟨o,h1,h2⟩ e (fun z=>nomatch z) h
 | @dK a kvs ea =>
  cases (show u=Value.ref a from rx);obtain⟨_,_,vs,_,p⟩:=(show nh X.prog X.w H s.heap a (.dK kvs) from I.hok a _ ea);obtain⟨o,es,ep,h1,h2,_⟩:=p;exact fE i8 I.vk ⟨o,h1,h2.1⟩ e (fun z=>nomatch z) h
 | @dT a kvs ea =>
  cases (show u=Value.ref a from rx);obtain⟨_,_,xs,_,o,es,ep,h1,h2,_⟩:=(show nh X.prog X.w H s.heap a (.dT kvs) from I.hok a _ ea);exact fE i8 I.vk ⟨o,h1,h2.1⟩ e (fun z=>nomatch z) h
 | @ins a C dx fs ea cl ha hn htk hm =>
  cases (show u=Value.ref a from rx);obtain⟨mA,zfK,_⟩:=vq I.hok ea;obtain⟨od,zfJ,_⟩:=zfK.look;exact fE (PySem.W.kitx_own (cl.get _) cl.hd ha hn htk hm) I.vk zfJ e (fun z=>nomatch z) h
end
variable {kw:List (Str×Value)}
structure nC (k:Nat)(A:Around):Prop where
 hd:A.handled=none
 dp:A.depth+3*k+5<recursionLimit
 un:A.units+16*k+200<cLine
theorem nC.mono {j k:Nat}{A:Around}(r:nC k A)(h:j<=k):nC j A:=⟨r.hd,by have:=r.dp;omega,by have:=r.un;omega⟩
theorem nC.deeper {k:Nat}{A:Around}(r:nC (k+1) A)(env:Env):nC k (A.deeper env) :=
 ⟨r.hd,by have:=r.dp;show A.depth+1+3*k+5<_;omega,by have:=r.un;show A.units+3+16*k+200<_;omega⟩
theorem BU {A:Around}{C:Addr}{us:List Value}:(A.under (.builtin "type.__call__" ⟨.ref C::us,kw⟩)).depth=A.depth+1:=by
 first | rfl | simp[Around.under,Code.weight,Code.isCreation,Code.isGuard,Code.isCaller,Code.frames,Code.isFrame,guardIds]
theorem B3 {A:Around}{C:Addr}{us:List Value}:(A.under (.builtin "type.__call__" ⟨.ref C::us,kw⟩)).units=A.units+1:=by
 first | rfl | simp[Around.under,Code.cUnits,Code.frames,Code.isFrame]
theorem nC.make {k:Nat}{A:Around}(r:nC (k+1) A)(C:Addr)(us:List Value)(kw:List (Str×Value)):nC k (A.under (.builtin "type.__call__" ⟨.ref C::us,kw⟩)) :=
 ⟨r.hd,by have:=r.dp;rw[BU];omega,by have:=r.un;rw[B3];omega⟩
theorem nC.depth {k:Nat}{A:Around}(r:nC k A):A.depth<recursionLimit:=by have:=r.dp;omega
def Jm:TA:=fun _ H Q=>Q [] H
def A3 (ta:TE)(tr:TA):TA:=fun σ H Q=>ta σ H fun x H1=>tr σ H1 fun xs H2=>Q (x::xs) H2
section
variable {X:Cx}{e:Expr}{es:List Expr}{te:TE}{t:TA}{pos:Pos}
theorem j5:PA X [] Jm:=fun _ _ _ _ H Q I h=>Calls.spliced_nil ⟨[],H,I,.nil,h⟩
theorem jF (ha:PE X e te)(hr:PA X es t)(hs:starEach (e::es) X.env=(false,eval e X.env)::starEach es X.env:=by rfl):PA X (e::es) (A3 te t):=by
 intro pos pins s σ H Q I h;rw[hs];show wpAny _ _ (spliced ((false,eval e X.env)::backTo pos (starEach es X.env))) _ _ s
 refine Calls.spliced_cons (mH (ha pins s σ H _ I h) fun u s1 ⟨x,H1,I1,r1,q1⟩=>?_);exact mH (hr pos pins s1 σ H1 _ I1 q1) fun us s2 ⟨xs,H2,I2,r2,q2⟩=>⟨x::xs,H2,I2,.cons r1 r2,q2⟩
def Wz (t:TA):TE:=fun σ H Q=>t σ H fun xs H1=>xs.length<=sizeLine/\∀p,H1 p=none->Q (.ref p) (upd H1 p (.tup xs))
def Uu (t:TA):TE:=fun σ H Q=>t σ H fun xs H1=>xs.length<=sizeLine/\∀p,H1 p=none->Q (.ref p) (upd H1 p (.lst xs))
theorem lI {x1}(h:PA X es t):PE X (.Tuple es x1 pos) (Wz t):=by
 intro pins s σ H Q I hq;refine wpAny_Tuple_spliced (mH (h pos pins s σ H _ I hq) fun us s1 ⟨xs,H1,I1,r,z,q⟩=>⟨by rw[<-r.length];exact z,?_⟩);have hf:H1 s1.heap.objs.size=none:=I1.hok.fresh (aH _);refine⟨.ref s1.heap.objs.size,upd H1 s1.heap.objs.size (.tup xs),I1.laid (t':=s1.toks) (fun b u e=>aP _ e) (aH _) ?_,Z,q _ hf⟩;exact⟨z,us,r,⟨_,bX _ Z,Z,_,Z⟩⟩
theorem lD (h:PA X es t):PE X (.List es pos) (Uu t):=by
 intro pins s σ H Q I hq;refine wpAny_List_spliced (mH (h pos pins s σ H _ I hq) fun us s1 ⟨xs,H1,I1,r,z,q⟩=>⟨by rw[<-r.length];exact z,?_⟩);have hf:H1 s1.heap.objs.size=none:=I1.hok.fresh (aH _);refine⟨.ref s1.heap.objs.size,upd H1 s1.heap.objs.size (.lst xs),I1.laid (t':=s1.toks) (fun b u e=>aP _ e) (aH _) ?_,Z,q _ hf⟩;exact⟨z,us,0,r,bX _ Z⟩
end
abbrev Sp:=List V->Hp->VK->XK->Prop
abbrev Gu:=List Env->Hp->Shared->XK->Value->Shared->Prop
structure Bl (P:Program)(w:World)(K:PySem.W.Frag)(mg:Str->Option Value)(base:Heap)(A:Around)(outer:List Env)(s:Shared)(H:Hp):Prop where
 frames:A.frames=some outer
 mod:Mod K mg base
 bs:∀b o,base.get? b=some o->s.heap.get? b=some o/\H b=none
 bsz:base.objs.size<=s.heap.objs.size
 uJ:s.heap.FunFrames base outer
 frf:∀b∈Ey outer,H b=none
 hok:vi P w H s.heap
 bare:AllBare s.gens
def CE (outer:List Env)(P:Program)(w:World)(H:Hp)(s:Shared)(Q:VK)(u:Value)(s':Shared):Prop :=
 ∃v H',s'.os=s.os/\AllBare s'.gens/\Un (Ey outer) [] H H' s.heap s'.heap/\vi P w H' s'.heap/\RelV v u/\Q v H'
def CR (CX:Gu)(outer:List Env)(P:Program)(w:World)(H:Hp)(s:Shared)(Q:VK)(E:XK)(r:Result)(s':Shared):Prop :=
 match r with
 | .ok (.ret u)=>CE outer P w H s Q u s'
 | .ok _=>dZ
 | .error e=>CX outer H s E e s'
structure re (P:Program)(w:World)(K:PySem.W.Frag)(mg:Str->Option Value)(base:Heap)(CX:Gu)(k:Nat)(f:Addr)(fd:FuncData)(ps:List Str)(sp:Sp):Prop where
 len:∀vs H Q E,sp vs H Q E->vs.length=ps.length
 run:∀(A:Around)(outer:List Env)(s:Shared)(H:Hp)(args:Args)(us:List Value)(vs:List V)(Q:VK)(E:XK),nC k A->Bl P w K mg base A outer s H->BindsTo s fd args (ps.zip us)->Vals vs us->sp vs H Q E ->
  codeAny (model P w) A (.call (.ref f) args) (CR CX outer P w H s Q E) s
theorem re.imp {P:Program}{w:World}{K:PySem.W.Frag}{mg:Str->Option Value}{base:Heap}{CX:Gu}{k:Nat}{f:Addr}{fd:FuncData}{ps:List Str}{sp YJ:Sp}(F:re P w K mg base CX k f fd ps sp)
 (h:∀vs H Q E,YJ vs H Q E->sp vs H Q E):re P w K mg base CX k f fd ps YJ :=
  ⟨fun vs H Q E q=>F.len vs H Q E (h _ _ _ _ q),fun A outer s H args us vs Q E hr he hb hv hs=>F.run A outer s H args us vs Q E hr he hb hv (h _ _ _ _ hs)⟩
theorem Bl.make {P:Program}{w:World}{K:PySem.W.Frag}{mg:Str->Option Value}{base:Heap}{A:Around}{outer:List Env}{s:Shared}{H:Hp}(e:Bl P w K mg base A outer s H)(C:Addr)(us:List Value)(kw:List (Str×Value)) :
  Bl P w K mg base (A.under (.builtin "type.__call__" ⟨.ref C::us,kw⟩)) outer s H:=⟨by first | exact e.frames | (simpa [Around.under,Code.envs,Code.isFrame,pushEnvs] using e.frames),e.mod,e.bs,e.bsz,e.uJ,e.frf,e.hok,e.bare⟩
section
variable {X:Cx}{pins:List (Addr×Obj)}{σ:St}{H:Hp}{s s':Shared}
theorem Inv.Oh (I:Inv X pins σ H s):Bl X.prog X.w X.K X.mg X.base X.A X.stack s H :=
 ⟨I.ok.frames,I.ok.mod,I.bs,bR I.ok.bsz I.sz,I.stack,I.C3,I.hok,I.bare⟩
theorem Inv.after {Q:VK}{u:Value}(I:Inv X pins σ H s)(h:CE X.stack X.prog X.w H s Q u s'):EP X pins σ Q u s':=by
 obtain⟨v,H',os,bare,un,hok,r,q⟩:=h;obtain⟨hh,g,d,t,NJ⟩:=s';obtain rfl:NJ=s.os:=os;exact⟨v,H',I.call (h':=hh) (g':=g) (d':=d) (t':=t) (ch:=[]) un hok bare (fun b z=>absurd z jB),r,q⟩
end
def Gf (sp:Sp)(zQ:List V)(E:XK)(t:TA):TE:=fun σ H Q=>t σ H fun vs H1=>sp (vs++zQ) H1 Q E
def Kj (C:Addr)(m:Str)(sp:Sp)(zQ:List V)(E:XK)(ta:TE)(t:TA):TE:=fun σ H Q=>ta σ H fun x H1=>∃a dx fs,x=.ref a/\H1 a=some (.ins C dx fs)/\fs.lookup m=none /\
 t σ H1 fun vs H2=>sp (x::(vs++zQ)) H2 Q E
def KO (C:Addr)(sp:Sp)(zQ:List V)(E:XK)(t:TA):TE:=fun σ H Q=>t σ H fun vs H1=>∀x dx,H1 x=none->H1 dx=none->dx≠x ->
 sp (.ref x::(vs++zQ)) (upd (upd H1 dx (.own x)) x (.ins C dx [])) (fun v H2=>v=.non/\Q (.ref x) H2) E
def Binds (K:PySem.W.Frag)(fd:FuncData)(ps:List Str)(ds:List Value):Prop :=
 ∀(s:Shared)(us:List Value),K.In s.heap->(us++ds).length=ps.length->BindsTo s fd ⟨us,[]⟩ (ps.zip (us++ds))
theorem Binds.all {K:PySem.W.Frag}{fd:FuncData}{ps:List Str}(h:∀us:List Value,us.length=ps.length->bindArgs fd ⟨us,[]⟩=pure (ps.zip us)):Binds K fd ps []:=fun s us _ hl=>by
 rw[gA] at hl ⊢;exact .of_eq (h us hl)
def Passes (CX:Gu)(X:Cx)(E:XK):Prop:=∀(pins:List (Addr×Obj))(σ:St)(H:Hp)(s:Shared)(e:Value)(s':Shared),Inv X pins σ H s->CX X.stack H s E e s'->X.xe e s'
section
variable {pins:List (Addr×Obj)}
variable {X:Cx}{CX:Gu}{k:Nat}{f C:Addr}{fd:FuncData}{ps:List Str}{sp:Sp}{zQ:List V}{ds:List Value}{E:XK}{x m:Str}{p pos apos:Pos}{e o:Expr}{es:List Expr}{ta:TE}{t:TA}
theorem Go {σ:St}{H:Hp}{s:Shared}{Q:VK}{us:List Value}{vs:List V}(F:re X.prog X.w X.K X.mg X.base CX k f fd ps sp)(hr:nC k X.A)(hb:Binds X.K fd ps ds)(hd:Vals zQ ds)(hx:Passes CX X E)
 (I:Inv X pins σ H s)(r:Vals vs us)(h:sp (vs++zQ) H Q E):wpAny (model X.prog X.w) X.A (call (.ref f) us) (EP X pins σ Q) X.xe s:=by
  have r2:Vals (vs++zQ) (us++ds):=r.append hd;have hl:(us++ds).length=ps.length:=by rw[<-r2.length];exact F.len _ _ _ _ h
  refine wpAny_call (ib (F.run X.A X.stack s H ⟨us,[]⟩ (us++ds) (vs++zQ) Q E hr I.Oh (hb s us I.vk hl) r2 h) fun r s' hq=>?_);cases r with
  | error e=>exact hx pins σ H s e s' I hq
  | ok fl =>
    cases fl with
    | ret u=>exact I.after hq
    | next=>exact False.elim hq
    | brk=>exact False.elim hq
    | cont=>exact False.elim hq
theorem JC (F:re X.prog X.w X.K X.mg X.base CX k f fd ps sp)(hr:nC k X.A)(hg:Gl X x)(hm:X.mg x=some (.ref f))(hk:PySem.W.keepIn X.K (.ref f)=true)(hb:Binds X.K fd ps ds)(hd:Vals zQ ds)(hx:Passes CX X E)
  (ha:PA X (e::es) t)(ES:(x == ("__debug__":Str))=false:=by decide)(he:starEach (e::es) X.env=(false,eval e X.env)::starEach es X.env:=by rfl)(wU:(backTo pos (starEach es X.env)).any (·.1)=false:=by rfl) :
  PE X (.Call (.Name x p) (e::es) [] pos) (Gf sp zQ E t):=by
 intro pins s σ H Q I h;refine fS (yE I hg hm ?_ ES);refine gS (h₀:=X.base) I.ok.mod.kin hk (mH (ha pos pins s σ H _ I h) fun us s1 ⟨vs,H1,I1,r,q⟩=>⟨I1.vk,?_⟩) he wU;exact Go F hr hb hd hx I1 r q
theorem Je {pl:Sem Bool}(he:PE X o ta)(c:Ft X.K C)(hm:Meth X.K C m f)(F:re X.prog X.w X.K X.mg X.base CX k f fd ps sp)(hr:nC k X.A)(hb:Binds X.K fd ps ds)(hd:Vals zQ ds)(hx:Passes CX X E)(ha:PA X (e::es) t)
 (t5:starEach (e::es) X.env=(false,eval e X.env)::starEach es X.env:=by rfl)(wU:(backTo pos (starEach es X.env)).any (·.1)=false:=by rfl)
 (ht:eval (.Call (.Attribute o m apos) (e::es) [] pos) X.env=(do
 let ov <-eval o X.env
 standAt apos.atName
 let (f,first) <-holding [ov] (getMethod ov m pl)
 callWith pos f first (backTo pos (starEach (e::es) X.env)) (backToKw pos (keywordEach [] X.env))):=by rfl) :
    PE X (.Call (.Attribute o m apos) (e::es) [] pos) (Kj C m sp zQ E ta t):=by
  intro pins s σ H Q I h;refine PySem.W.methodCall_KW (pl:=pl) (mH (he pins s σ H _ I h) fun u s1 ⟨x,H1,I1,rx,a,dx,fs,ex,ea,l,q⟩=>?_) ht;subst ex;obtain rfl:u=Value.ref a:=rx;refine Cu I1 ea c hm l ?_;refine gS (first:=[.ref a]) (h₀:=X.base) I.ok.mod.kin hm.kp (mH (ha pos pins s1 σ H1 _ I1 q) fun us s2 ⟨vs,H2,I2,r,q2⟩=>⟨I2.vk,?_⟩) t5 wU;exact Go (us:=.ref a::us) (vs:=.ref a::vs) F hr hb hd hx I2 (.cons Z r) q2
structure Mk (K:PySem.W.Frag)(C f:Addr):Prop where
 makes:PySem.W.makesIn K C=true
 init:PySem.W.findIn K (.ref C) "__init__"=some (some (.ref f))
 fn:PySem.W.isFn K (.ref f)=true
 kp:PySem.W.keepIn K (.ref C)=true
theorem Gz {σ:St}{H:Hp}{s:Shared}{Q:VK}{us:List Value}{vs:List V}(M:Mk X.K C f)(F:re X.prog X.w X.K X.mg X.base CX k f fd ps sp)(hr:nC (k+1) X.A)(hb:Binds X.K fd ps ds)(hd:Vals zQ ds)
 (hx:Passes CX X E)(I:Inv X pins σ H s)(r:Vals vs us)
 (h:∀x dx,H x=none->H dx=none->dx≠x->sp (.ref x::(vs++zQ)) (upd (upd H dx (.own x)) x (.ins C dx [])) (fun v H2=>v=.non/\Q (.ref x) H2) E) :
    wpAny (model X.prog X.w) X.A (call (.ref C) us) (EP X pins σ Q) X.xe s:=by
  have hq:=h (s.heap.objs.size+1) s.heap.objs.size (I.hok.fresh (gg _)) (I.hok.fresh (aH _)) (cF (bJ _));have I2:=Inv.made (C:=C) I;have r2:Vals (V.ref (s.heap.objs.size+1)::(vs++zQ)) (Value.ref (s.heap.objs.size+1)::(us++ds)):=.cons Z (r.append hd);have hl:(Value.ref (s.heap.objs.size+1)::us++ds).length=ps.length:=by
    have e:=r2.length;rw[F.len _ _ _ _ hq] at e;exact e.symm
  refine wpAny_call (GH (f:=f) I.vk M.makes M.init (gR.mp M.fn) (ib (F.run _ X.stack _ _ ⟨Value.ref (s.heap.objs.size+1)::us,[]⟩ (Value.ref (s.heap.objs.size+1)::(us++ds)) _ _ E (hr.make C us [])
    (I2.Oh.make C us []) (hb _ (Value.ref (s.heap.objs.size+1)::us) I2.vk hl) r2 hq) fun r s' Bc=>?_))
  cases r with
  | error e=>exact hx pins σ _ _ e s' I2 Bc
  | ok fl =>
    cases fl with
    | ret u =>
      obtain⟨v,H',I3,rv,ev,q3⟩:=I2.after Bc;subst ev;exact⟨rv,⟨V.ref (s.heap.objs.size+1),H',I3,Z,q3⟩⟩
    | next=>exact False.elim Bc
    | brk=>exact False.elim Bc
    | cont=>exact False.elim Bc
theorem Jt (M:Mk X.K C f)(F:re X.prog X.w X.K X.mg X.base CX k f fd ps sp)(hr:nC (k+1) X.A)(hg:Gl X x)(hm:X.mg x=some (.ref C))(hb:Binds X.K fd ps ds)(hd:Vals zQ ds)(hx:Passes CX X E)
  (ha:PA X (e::es) t)(ES:(x == ("__debug__":Str))=false:=by decide)(he:starEach (e::es) X.env=(false,eval e X.env)::starEach es X.env:=by rfl)(wU:(backTo pos (starEach es X.env)).any (·.1)=false:=by rfl) :
  PE X (.Call (.Name x p) (e::es) [] pos) (KO C sp zQ E t):=by
 intro pins s σ H Q I h;refine fS (yE I hg hm ?_ ES);refine gS (h₀:=X.base) I.ok.mod.kin M.kp (mH (ha pos pins s σ H _ I h) fun us s1 ⟨vs,H1,I1,r,q⟩=>⟨I1.vk,?_⟩) he wU;exact Gz M F hr hb hd hx I1 r q
end
structure jS (N P:List Str)(sc:Scope):Prop where
 kind:sc.kind=.function
 co:sc.isCoroutine=false
 gen:sc.isGenerator=false
 nd:N.Nodup
 pre:N.take P.length=P
 par:∀x∈P,sc.names.lookup x=some .local\/sc.names.lookup x=some .cell
 nofree:∀y∈sc.names,y.2≠.free
theorem xX {kindOf:Str->Option NameKind}{x:Str}:∀{binds:List (Str×Value)}{m:Str->Option Value},(∀v,(x,v)∉binds)->bindL kindOf binds m x=m x
 | [],_,_=>rfl
 | (n,v)::r,m,h=>by
  unfold bindL;rw[xX fun w hw=>h w (ar _ hw)];split
  .have:x≠n:=by rintro rfl;exact h v av
   simp[this]
  .rfl
theorem ya {kindOf:Str->Option NameKind}{x:Str}:∀{binds:List (Str×Value)}{m:Str->Option Value},(∀v,(x,v)∉binds)->bindC kindOf binds m x=m x
 | [],_,_=>rfl
 | (n,v)::r,m,h=>by
  unfold bindC;rw[ya fun w hw=>h w (ar _ hw)];split
  .rfl
  .have:x≠n:=by rintro rfl;exact h v av
   simp[this]
theorem xU {kindOf:Str->Option NameKind}{x:Str}{v:Value}:∀{P:List Str}{vs:List Value}{i:Nat}{m:Str->Option Value},P.Nodup->P[i]?=some x->vs[i]?=some v->kindOf x=some .local ->
  bindL kindOf (P.zip vs) m x=some v
 | [],_,_,_,_,h,_,_=>by simp at h
 | _::_,[],_,_,_,_,h,_=>by simp at h
 | p::P,w::vs,0,m,nd,h1,h2,hk=>by
  simp at h1 h2;subst h1;subst h2;show bindL kindOf ((p,w)::P.zip vs) m p=_
  unfold bindL;rw[xX fun v hv=>(eQ.mp nd).1 (js hv).1,aC hk];simp
 | p::P,w::vs,i+1,m,nd,h1,h2,hk=>by
  show bindL kindOf ((p,w)::P.zip vs) m x=_
  unfold bindL;exact xU (i:=i) (eQ.mp nd).2 (by simpa using h1) (by simpa using h2) hk
theorem yj {kindOf:Str->Option NameKind}{x:Str}{v:Value}:∀{P:List Str}{vs:List Value}{i:Nat}{m:Str->Option Value},P.Nodup->P[i]?=some x->vs[i]?=some v->kindOf x≠some .local ->
  bindC kindOf (P.zip vs) m x=some v
 | [],_,_,_,_,h,_,_=>by simp at h
 | _::_,[],_,_,_,_,h,_=>by simp at h
 | p::P,w::vs,0,m,nd,h1,h2,hk=>by
  simp at h1 h2;subst h1;subst h2;show bindC kindOf ((p,w)::P.zip vs) m p=_
  unfold bindC;rw[ya fun v hv=>(eQ.mp nd).1 (js hv).1,ak hk];simp
 | p::P,w::vs,i+1,m,nd,h1,h2,hk=>by
  show bindC kindOf ((p,w)::P.zip vs) m x=_
  unfold bindC;exact yj (i:=i) (eQ.mp nd).2 (by simpa using h1) (by simpa using h2) hk
def start (N:List Str)(vs:List V):St:=vs.map some++List.replicate (N.length-vs.length) none
def xt (CX:Gu)(P:Program)(w:World)(K:PySem.W.Frag)(mg:Str->Option Value)(base:Heap)(N:List Str)(qual:Str)(scope:Scope)(f:Addr)(cd:Value)(A:Around)(outer:List Env)(s:Shared)(H:Hp)(E:XK):Cx where
 prog:=P
 w:=w
 K:=K
 mg:=mg
 base:=base
 A:=A.deeper (envOfC qual scope s.heap.objs.size f cd)
 N:=N
 s₀:=s
 H₀:=H
 env:=envOfC qual scope s.heap.objs.size f cd
 outer:=outer
 stack:=envOfC qual scope s.heap.objs.size f cd::outer
 ex:=[]
 calm:=true
 fn:=fun _=>true
 pn:=[]
 xe:=fun e s'=>wpAny (model P w) (A.deeper (envOfC qual scope s.heap.objs.size f cd)) (leaving (envOfC qual scope s.heap.objs.size f cd) e) (fun _ Qc=>CX outer H s E e Qc) (fun e' Qc=>CX outer H s E e' Qc) s'
theorem AL {sc:Scope}{n:Nat}{x:Str}(h:sc.names.lookup x=some .cell):∃c,(cellsFrom n sc.names []).lookup x=some c:=by
 have q:=iA sc.names n [] (.inl h);exact io.mp q
theorem Ee {CX:Gu}{P:Program}{w:World}{K:PySem.W.Frag}{mg:Str->Option Value}{base:Heap}{N ps:List Str}{qual:Str}{scope:Scope}{f:Addr}{cd:Value}{A:Around}{outer:List Env}{s s1:Shared}{H:Hp}{E:XK}{us:List Value}{vs:List V}
 (S:jS N ps scope)(hd:A.handled=none)(e0:Bl P w K mg base A outer s H)(hl:vs.length=ps.length)(r:Vals vs us)
 (x:InCallC s s.heap.objs.size (bindL (envOfC qual scope s.heap.objs.size f cd).kindOf (ps.zip us) fun _=>none) (cellsFrom (s.heap.objs.size+1) scope.names []) (bindC (envOfC qual scope s.heap.objs.size f cd).kindOf (ps.zip us) fun _=>none) s1) :
    Inv (xt CX P w K mg base N qual scope f cd A outer s H E) [] (start N vs) H s1:=by
  have wU:ps.length<=N.length:=by have:=cU List.length S.pre;rw[cJ] at this;omega
  obtain⟨h1,tk,rfl,hk⟩:=x.done;have noA:∀b:Addr,b∉(xt CX P w K mg base N qual scope f cd A outer s H E).ex:=fun b z=>absurd (show b∈([]:List Addr) from z) jB;refine⟨⟨e0.mod,S.kind,Z,Z,aH _,fun y z c h1 h2=>?_,fun y hy=>?_,fun y c _ h=>?_,fun _=>hd,Around.frames_deeper e0.frames,.inr ⟨Z,Z⟩,fun b z=>absurd z (noA b),e0.bs,e0.bsz,fun b _ _=>noA b,fun b z=>absurd z (noA b),e0.uJ,e0.frf⟩,
    Z,e0.bare,Un.kept hk,⟨_,x.toInCall.ns,fun i y v h1 h2 h3=>?_⟩,fun y c h=>⟨_,x.cell y c h⟩,e0.hok.fresh (aH _),fun y c h=>?_,fun p hp=>absurd (show p∈([]:List (Addr×Obj)) from hp) jB,e0.hok.kept hk,?_⟩
  · exact name_of_addr x.apart (fq h1) (fq h2)
  · have hy:scope.names.lookup y=some .cell\/scope.names.lookup y=some .free:=hy
    rcases hy with hy | hy
    · exact AL hy
    · exact absurd Z (S.nofree _ (fq hy))
  · exact d5 (x.above y c (fq h))
  · have hi:i<vs.length:=by
      unfold start at h2
      by_cases hi:i<vs.length
      · exact hi
      · rw[c9 (by simpa using hi)] at h2
        rw[fI] at h2;split at h2<;>cases h2
    have ha:vs[i]?=some v:=by
      unfold start at h2;rw[dj (by simpa using hi),List.getElem?_map] at h2;cases e:vs[i]? with
      | none=>rw[e] at h2;cases h2
      | some a=>rw[e] at h2;cases h2;rfl
    obtain⟨u,hu,rv⟩:=r.get ha;have hp:ps[i]?=some y:=by
      rw[<-S.pre,ip jD];exact h1
    have YK:ps.Nodup:=by rw[<-S.pre];exact S.nd.sublist (List.take_sublist _ _)
    refine⟨u,rv,?_⟩;rcases S.par y (List.mem_of_getElem? hp) with k | k
    · exact .inl ⟨k,xU YK hp hu k⟩
    · obtain⟨c,e⟩:=AL (n:=s.heap.objs.size+1) k
      refine .inr ⟨.inl k,c,e,?_⟩;have q:=x.cell y c e;rw[yj YK hp hu (by show scope.names.lookup y≠_;rw[k];decide)] at q;exact q
  · exact e0.hok.fresh (d5 (x.above y c (fq h)))
  · unfold start
    show _=N.length
    rw[aJ,aa,aR];omega
theorem Ov {CX:Gu}{P:Program}{w:World}{K:PySem.W.Frag}{mg:Str->Option Value}{base:Heap}{k:Nat}{f:Addr}{name qual:Str}{params:Arguments}{body:List Stmt}{scope:Scope}{dV kV doc pm cdv ct oc:Value}{an od:Option Addr}
 {osl:Array (Option Value)}{N ps:List Str}{sp:Sp}(lk:K.lookup f=some ⟨oc,od,.func (PySem.W.fnOf name qual params body scope dV kV doc pm an cdv ct),osl⟩)(DV:PySem.W.codeIn K cdv qual=true)(S:jS N ps scope)
 (len:∀vs H Q E,sp vs H Q E->vs.length=ps.length)
 (hbody:∀(A:Around)(outer:List Env)(s:Shared)(H:Hp)(vs:List V)(Q:VK)(E:XK),nC k (A.deeper (envOfC qual scope s.heap.objs.size f cdv))->sp vs H Q E ->
 ∃t,xK (xt CX P w K mg base N qual scope f cdv A outer s H E) body t/\t { nx:=fun _ H'=>Q .non H',rt:=Q } (start N vs) H) :
    re P w K mg base CX (k+1) f (PySem.W.fnOf name qual params body scope dV kV doc pm an cdv ct) ps sp:=by
  refine⟨len,fun A outer s H args us vs Q E hr e0 hb r hsp=>?_⟩;have hl:=len _ _ _ _ hsp;have KX:K.In s.heap:=e0.mod.kin.keeps fun b o e=>(e0.bs b o e).1;have lim:s.heap.NoLimit:=e0.mod.nolimit.keeps fun b o e=>(e0.bs b o e).1;have qh:∀y∈ps.zip us,scope.names.lookup y.1=some .local\/(scope.names.lookup y.1=some .cell/\((cellsFrom (s.heap.objs.size+1) scope.names []).lookup y.1).isSome=true):=fun ⟨n,v⟩ hy=>by
    rcases S.par n (List.of_mem_zip hy).1 with q | q
    · exact .inl q
    · exact .inr ⟨q,iA _ _ _ (.inl q)⟩
  refine codeAny_call_function hr.depth (KX _ _ lk) Z S.co S.gen Z (PySem.W.codeRec_of KX DV) (hb _ _ _ _ ?_);refine wpAny_newFunctionEnv_cells S.kind qh fun env he s1 x=>?_;subst he;refine⟨lim.keeps x.toInCall.keep,codeAny_func ?_⟩;obtain⟨t,ht,hq⟩:=hbody A outer s H vs Q E (hr.deeper _) hsp;have I:Inv (xt CX P w K mg base N qual scope f cdv A outer s H E) [] (start N vs) H s1:=Ee S hr.hd e0 hl r x;refine ef (ht [] s1 (start N vs) H _ I hq) (fun fl s' hs=>?_) fun e s' hs=>hs;have fin:∀{kW:St}{H':Hp}{v:V}{u:Value},Inv (xt CX P w K mg base N qual scope f cdv A outer s H E) [] kW H' s'->RelV v u->Q v H'->CE outer P w H s Q u s' :=
    fun {kW H' v u} zfJ rv q=>⟨v,H',zfJ.os,zfJ.bare,zfJ.base,zfJ.hok,rv,q⟩
  cases fl with
  | ret u =>
    obtain⟨v,kW,H',zfJ,rv,q⟩:=hs;exact fin zfJ rv q
  | next =>
    obtain⟨kW,H',zfJ,q⟩:=hs;exact fin (v:=V.non) (u:=Value.none) zfJ Z q
  | brk =>
    obtain⟨_,_,_,q⟩:=hs;exact False.elim q
  | cont =>
    obtain⟨_,_,_,q⟩:=hs;exact False.elim q
section
variable {X:Cx}{x:Str}{p pos:Pos}{e:Expr}{es:List Expr}{t:TA}{id T:String}{r:List V->Hp->VK->Prop}
def Uq (r:List V->Hp->VK->Prop)(t:TA):TE:=fun σ H Q=>t σ H fun vs H1=>r vs H1 Q
theorem kE (hc:qO X (.builtin id) r)(hg:Gl X x)(hm:X.mg x=none)(hv:bootBuiltins x=some (.builtin id))(ha:PA X (e::es) t)(hn:x≠"__name__":=by decide)(ES:(x == ("__debug__":Str))=false:=by decide)
  (he:starEach (e::es) X.env=(false,eval e X.env)::starEach es X.env:=by rfl)(wU:(backTo pos (starEach es X.env)).any (·.1)=false:=by rfl):PE X (.Call (.Name x p) (e::es) [] pos) (Uq r t):=by
 intro pins s σ H Q I h;refine fS (pT I hg hm hv ?_ hn ES);exact PyProof.Rows.callWith_builtin1 (mH (ha pos pins s σ H _ I h) fun us s1 ⟨vs,H1,I1,r1,q1⟩=>hc pins s1 σ H1 vs us Q I1 r1 q1) he wU
theorem p6 (hc:qO X (.type T) r)(hg:Gl X x)(hm:X.mg x=none)(hv:bootBuiltins x=some (.type T))(ha:PA X (e::es) t)(hn:x≠"__name__":=by decide)(ES:(x == ("__debug__":Str))=false:=by decide)
  (he:starEach (e::es) X.env=(false,eval e X.env)::starEach es X.env:=by rfl)(wU:(backTo pos (starEach es X.env)).any (·.1)=false:=by rfl):PE X (.Call (.Name x p) (e::es) [] pos) (Uq r t):=by
 intro pins s σ H Q I h;refine fS (pT I hg hm hv ?_ hn ES);exact cy (mH (ha pos pins s σ H _ I h) fun us s1 ⟨vs,H1,I1,r1,q1⟩=>hc pins s1 σ H1 vs us Q I1 r1 q1) he wU
end
end L2
namespace HT
open PySem PyProof.Rows
section
def Al (n d:Nat):Option Int->Nat
 | none=>d
 | some v=>if v<0 then (v+(n:Int)).toNat else min v.toNat n
theorem Hl (n d:Nat):Al n d none=d:=rfl
theorem yX (n d k:Nat):Al n d (some (k:Int))=min k n:=by
 show (if (k:Int)<0 then ((k:Int)+(n:Int)).toNat else min (k:Int).toNat n)=min k n
 rw[ak jD,ae]
end
end HT
namespace L2
open PySem PySem.Spec PyProof.Rows
abbrev TO:=St->Hp->(Option Int->Hp->Prop)->Prop
def PO (X:Cx)(e:Option Expr)(t:TO):Prop :=
 ∀(pins:List (Addr×Obj))(s:Shared)(σ:St)(H:Hp)(Q:Option Int->Hp->Prop),Inv X pins σ H s->t σ H Q ->
  wpAny (model X.prog X.w) X.A (evalPart e X.env) (fun u s'=>∃o H',Inv X pins σ H' s'/\IsPart u o/\Q o H') X.xe s
def Jr:TO:=fun _ H Q=>Q none H
def PR (t:TE):TO:=fun σ H Q=>t σ H fun x H1=>∃i,x=.int i/\Q (some i) H1
section
variable {X:Cx}{e:Expr}{te:TE}{lo hi:Option Expr}{tl th:TO}{pos p2:Pos}
theorem C6:PO X none Jr:=by
 intro pins s σ H Q I h;rw[evalPart_none];exact dI ⟨none,H,I,.none,h⟩
theorem rX (h:PE X e te):PO X (some e) (PR te):=by
 intro pins s σ H Q I hw;rw[evalPart_some];refine mH (h pins s σ H _ I hw) fun u s1 ⟨x,H1,I1,r1,q1⟩=>?_;obtain⟨i,rfl,q⟩:=q1;obtain⟨t,rfl⟩:=r1;exact⟨some i,H1,I1,.int i t,q⟩
def VR (X:Cx)(r:V->Option Int->Option Int->Hp->VK->Prop):Prop :=
 ∀(pins:List (Addr×Obj))(s:Shared)(σ:St)(H:Hp)(x:V)(v vl vu:Value)(lo hi:Option Int)(sl:Addr)(Q:VK),Inv X pins σ H s->RelV x v->s.heap.IsSliceOf sl vl vu .none->IsPart vl lo->IsPart vu hi->r x lo hi H Q ->
  ∃T id,typeLookup (.type T) "__getitem__"=pure (some (.builtin id))/\s.TypeIs v T/\wpAny (model X.prog X.w) X.A (getItem v (.ref sl)) (EP X pins σ Q) X.xe s
def tSl (r:V->Option Int->Option Int->Hp->VK->Prop)(te:TE)(tl th:TO):TE:=fun σ H Q=>te σ H fun x H1=>tl σ H1 fun l H2=>th σ H2 fun u H3=>r x l u H3 Q
theorem tf {r:V->Option Int->Option Int->Hp->VK->Prop}(hr:VR X r)(he:PE X e te)(hl:PO X lo tl)(hu:PO X hi th):PE X (.Subscript e (.Slice lo hi none p2) pos) (tSl r te tl th):=by
 intro pins s σ H Q I h;refine Subscript_ (mH (he pins s σ H _ I h) fun v s1 ⟨x,H1,I1,r1,q1⟩=>?_);refine wpAny_Slice (mH (hl pins s1 σ H1 _ I1 q1) fun vl s2 ⟨l,H2,I2,pl,q2⟩=>mH (hu pins s2 σ H2 _ I2 q2) fun vu s3 ⟨u,H3,I3,pu,q3⟩=>?_);rw[evalPart_none];refine dI ?_;have I4:Inv X pins σ H3 { s3 with heap:=s3.heap.push { cls:=.type "slice",data:=.fields #[vl,vu,.none] } }:=I3.kept (t':=s3.toks) fun b ob q=>aP _ q;obtain⟨T,id,hT,ht,hg⟩:=hr pins { s3 with heap:=s3.heap.push { cls:=.type "slice",data:=.fields #[vl,vu,.none] } } σ H3 x v vl vu l u s3.heap.objs.size Q I4 r1 (Heap.IsSliceOf.new ..) pl pu q3;show wpAny (model X.prog X.w) X.A (subscriptTail e (.Slice lo hi none p2) v (.ref s3.heap.objs.size)) (EP X pins σ Q) X.xe { s3 with heap:=s3.heap.push { cls:=.type "slice",data:=.fields #[vl,vu,.none] } }
 exact tail_any (ops:=[.ref s3.heap.objs.size,v]) ht hT hg (by with_unfolding_all rfl)
def tE (xs:List V)(lo hi:Option Int):List V:=(xs.drop (HT.Al xs.length 0 lo)).take (HT.Al xs.length xs.length hi-HT.Al xs.length 0 lo)
theorem Ae (xs:List V)(lo hi:Option Int):(tE xs lo hi).length<=xs.length:=by
 unfold tE;rw[cJ,cC];omega
end
def Iu (n:Nat)(i:Int):Option Nat:=if 0<=i then (if i<n then some i.toNat else none) else if -(n:Int)<=i then some (i+n).toNat else none
def lY {α:Type}(xs:List α)(i:Int):Option α:=(Iu xs.length i).bind fun j=>xs[j]?
theorem DT {n:Nat}{i:Int}{j:Nat}(h:Iu n i=some j):seqIndex? i n=some j/\j<n/\-(n:Int)<=i/\i<n:=by
 unfold Iu at h
 by_cases h0:0<=i
 .rw[aC h0] at h
  by_cases h1:i<n
  .rw[aC h1] at h;have e:i.toNat=j:=bI h;exact⟨by rw[jy h0 h1,e],jD,jD,h1⟩
  .rw[ak h1] at h;cases h
 .rw[ak h0] at h
  by_cases h1:-(n:Int)<=i
  .rw[aC h1] at h;have e:(i+n).toNat=j:=bI h;exact⟨by rw[jd jD h1,e],jD,h1,jD⟩
  .rw[ak h1] at h;cases h
theorem De {α:Type}{xs:List α}{i:Int}{v:α}(h:lY xs i=some v):∃j,seqIndex? i xs.length=some j/\xs[j]?=some v/\j<xs.length/\-(xs.length:Int)<=i/\i<xs.length:=by
 unfold lY at h;cases e:Iu xs.length i with
 | none=>rw[e] at h;cases h
 | some j =>
  rw[e] at h;obtain⟨h1,h2,h3,h4⟩:=DT e;exact⟨j,h1,h,h2,h3,h4⟩
theorem lU {α:Type}{xs:List α}{j:Nat}{v:α}(h:xs[j]?=some v):lY xs (j:Int)=some v:=by
 have hj:j<xs.length:=(aF.mp h).1;have e:Iu xs.length (j:Int)=some j:=by
  unfold Iu;rw[aC jD,aC jD];simp
 unfold lY;rw[e];exact h
def C5 (b:Expr):Prop:=∀o i,subscripted b false o i=operate [o,i] (getItem o i)
def NC (X:Cx)(r:R2):Prop :=
 ∀(value slice:Expr)(pins:List (Addr×Obj))(s:Shared)(σ:St)(H:Hp)(x y:V)(v u:Value)(Q:VK),Inv X pins σ H s->RelV x v->RelV y u->r x y H Q ->
  subscripted slice false v u=operate [v,u] (getItem v u)->wpAny (model X.prog X.w) X.A (subscriptTail value slice v u) (EP X pins σ Q) X.xe s
def YD (X:Cx)(id:String)(r:V->List V->Hp->VK->Prop):Prop :=
 ∀(pins:List (Addr×Obj))(s:Shared)(σ:St)(H:Hp)(x:V)(xs:List V)(v:Value)(us:List Value)(Q:VK),Inv X pins σ H s->RelV x v->Vals xs us->r x xs H Q ->
  wpAny (model X.prog X.w) X.A (call (.builtin id) (v::us)) (EP X pins σ Q) X.xe s
section
variable {pins:List (Addr×Obj)}{s:Shared}
variable {X:Cx}{a b:Expr}{ta tb:TE}{pos:Pos}
theorem P1 {r:R2}(hr:NC X r)(ha:PE X a ta)(hb:PE X b tb)(hs:C5 b):PE X (.Subscript a b pos) (NE r ta tb):=by
 intro pins s σ H Q I h;exact Subscript_ (Mg ha hb I h fun v u s2 x y H2 I2 rx ry q=>hr a b pins s2 σ H2 x y v u Q I2 rx ry q (hs _ _))
def OE (K:PySem.W.Frag):R2:=fun x y H Q=>∃p xs i v,x=.ref p/\y=.int i/\jV K H p xs/\lY xs i=some v/\Q v H
def OP (K:PySem.W.Frag):R2:=fun x y H Q=>∃p xs i v,x=.ref p/\y=.int i/\kJ K H p xs/\lY xs i=some v/\Q v H
theorem kC:NC X (OE X.K):=by
 intro value slice pins s σ H x y v u Q I rx ry h hs;obtain⟨p,xs,i,z,rfl,rfl,hq,he,q⟩:=h;cases rx;obtain⟨t,rfl⟩:=ry;obtain⟨its,r,pl,hz⟩:=I.list hq;obtain⟨j,h1,h2,h3,h4,h5⟩:=De he;obtain⟨w,ew,EF⟩:=r.get h2;have hl:=r.length;have hn:=yG;have fin:EP X pins σ Q w s:=⟨z,H,I,EF,q⟩
 by_cases h0:0<=i
 .have hj:i.toNat=j:=by
   rw[jy h0 h5] at h1;exact bI h1
  exact item_listR pl.isList h0 jD (by rw[hj];simpa using ew) fin hs
 .have hj:(i+(its.toArray.size:Int)).toNat=j:=by
   rw[jd jD h4] at h1;rw[cq,<-hl];exact bI h1
  exact subscriptTail_builtinR (x:=w) pl.isList.typeIs slot_list_getitem.lookup
   (wpAny_getItem_list_neg (Q:=fun r s'=>r=w/\EP X pins σ Q r s') pl.isList jD (by rw[cq]<;>omega) jD (by rw[hj];simpa using ew) ⟨Z,fin⟩) hs
theorem jZ:NC X (OP X.K):=by
 intro value slice pins s σ H x y v u Q I rx ry h hs;obtain⟨p,xs,i,z,rfl,rfl,hq,he,q⟩:=h;cases rx;obtain⟨t,rfl⟩:=ry;obtain⟨its,r,pl,hz⟩:=I.tuple hq;obtain⟨j,h1,h2,h3,h4,h5⟩:=De he;obtain⟨w,ew,EF⟩:=r.get h2;have hl:=r.length;have hn:=yG;have fin:EP X pins σ Q w s:=⟨z,H,I,EF,q⟩;exact subscriptTail_builtinR (x:=w) pl.typeIs slot_tuple_getitem.lookup
  (getItem_tuple (j:=j) (Q:=fun r s'=>r=w/\EP X pins σ Q r s') pl jD jD (by rw[cq,<-hl];exact h1) (by simpa using ew) ⟨Z,fin⟩) hs
theorem B9 (its:List Value)(n j:Nat)(u:Value):Obj.mapSeq (·.setIfInBounds j u) { cls:=.type "list",data:=.seq its.toArray n }={ cls:=.type "list",data:=.seq (its.set j u).toArray n }:=by
 simp[Obj.mapSeq]
theorem Inv.lst {pins:List (Addr×Obj)}{σ:St}{H:Hp}{s:Shared}{p:Addr}{xs:List V}(I:Inv X pins σ H s)(h:H p=some (.lst xs)) :
  ∃(its:List Value)(n:Nat),Vals xs its/\s.heap.get? p=some { cls:=.type "list",data:=.seq its.toArray n }/\xs.length<=sizeLine:=by
 obtain⟨z,its,n,r,e⟩:=I.hok p _ h;exact⟨its,n,r,e,z⟩
theorem Inv.L1 {σ:St}{H:Hp}{p:Addr}{xs ys:List V}{its its':List Value}{n n':Nat}{f:Obj->Obj}(I:Inv X pins σ H s)(h:H p=some (.lst xs))
 (ho:s.heap.get? p=some { cls:=.type "list",data:=.seq its.toArray n })(hf:f { cls:=.type "list",data:=.seq its.toArray n }={ cls:=.type "list",data:=.seq its'.toArray n' })(r:Vals ys its')(hz:ys.length<=sizeLine)(t:Nat) :
    Inv X pins σ (upd H p (.lst ys)) { s with heap:=s.heap.update p f,toks:=t }:=by
  have e:(s.heap.update p f).get? p=some { cls:=.type "list",data:=.seq its'.toArray n' }:=by
    rw[Heap.get?_update_self f ho (by rw[hf]<;>rfl),hf]
  refine I.write (x:=p) (e:=p) (by rw[h];trivial) (.inl Z) (fun b u hb q=>(je _ _ (c7 hb)).trans q) ⟨_,e⟩ ?_;exact⟨hz,its',n',r,e⟩
def O7:V->V->V->Hp->(Hp->Prop)->Prop:=fun o i v H Q=>∃p xs k j,o=.ref p/\i=.int k/\H p=some (.lst xs)/\Iu xs.length k=some j/\Q (upd H p (.lst (xs.set j v)))
theorem set_list:Oy X O7:=by
 intro pins s σ H o i v ov iv u Q I ro ri rv h;obtain⟨p,xs,k,j,rfl,rfl,hp,hj,q⟩:=h;cases ro;obtain⟨t,rfl⟩:=ri;obtain⟨its,n,r,ho,hz⟩:=I.lst hp;obtain⟨h1,h2,h3,h4⟩:=DT hj;have hl:=r.length;have hn:=yG;have I':Inv X pins σ (upd H p (.lst (xs.set j v))) { s with heap:=s.heap.update p (Obj.mapSeq (·.setIfInBounds j u)) } :=
  I.L1 hp ho (B9 its n j u) (r.set rv j) (by rw[cf];exact hz) s.toks
 by_cases h0:0<=k
 .have hk:k.toNat=j:=by
   rw[jy h0 h4] at h1;exact bI h1
  exact PySem.W.ki_setAt ho h0 jD (by rw[cq,<-hl];exact h4) (by rw[hk];exact⟨_,I',q⟩)
 .have hk:(k+(its.toArray.size:Int)).toNat=j:=by
   rw[jd jD h3] at h1;rw[cq,<-hl];exact bI h1
  exact PySem.W.ki_setBack ho jD (by rw[cq,<-hl];exact h3) jD (by rw[hk];exact⟨_,I',q⟩)
theorem zx (lo hi:Option Int)(n:Nat):(sliceBounds lo hi none n).1=((HT.Al n 0 lo:Nat):Int)/\(sliceBounds lo hi none n).2.1=((HT.Al n n hi:Nat):Int)/\(sliceBounds lo hi none n).2.2=1:=by
 refine⟨?_,?_,Z⟩
 .cases lo with
  | none=>simp[sliceBounds,HT.Al]
  | some i =>
   simp only[sliceBounds,HT.Al,Option.getD_none,show (1:Int) > 0 by decide,if_true]
   by_cases h:i<0
   .simp only[h,if_true]<;>omega
   .simp only[h,if_false]<;>omega
 .cases hi with
  | none=>simp[sliceBounds,HT.Al]
  | some i =>
   simp only[sliceBounds,HT.Al,Option.getD_none,show (1:Int) > 0 by decide,if_true]
   by_cases h:i<0
   .simp only[h,if_true]<;>omega
   .simp only[h,if_false]<;>omega
theorem xy (its:List Value)(lo hi:Option Int):slicePick its.toArray lo hi none=((its.drop (HT.Al its.length 0 lo)).take (HT.Al its.length its.length hi-HT.Al its.length 0 lo)).toArray:=by
 obtain⟨h1,h2,h3⟩:=zx lo hi its.toArray.size;unfold slicePick;rw[h1,h2,h3];simp only[sliceRange_one,pick_run,List.size_toArray]<;>rfl
def Pa (K:PySem.W.Frag):V->Option Int->Option Int->Hp->VK->Prop:=fun x lo hi H Q=>∃a xs,x=.ref a/\jV K H a xs/\∀p,H p=none->Q (.ref p) (upd H p (.lst (tE xs lo hi)))
theorem vp:VR X (Pa X.K):=by
 intro pins s σ H x v vl vu lo hi sl Q I rx hs pl pu h;obtain⟨a,xs,rfl,hx,q⟩:=h;cases rx;obtain⟨its,r,ht,hz⟩:=I.list hx;have hlen:=r.length;refine⟨"list",_,slot_list_getitem.lookup,ht.isList.typeIs,?_⟩;refine wpAny_getItem_list_slice ht.isList hs pl pu .none jB ?_ (by rw[List.size_toArray]<;>omega);rw[xy,<-hlen];refine⟨.ref s.heap.objs.size,_,I.laid (t':=s.toks) (o:=.lst (tE xs lo hi)) (fun b ob q=>aP _ q) (aH _) ?_,Z,q _ (I.hok.fresh (aH _))⟩;exact⟨bR (Ae xs lo hi) hz,_,0,(r.drop (HT.Al xs.length 0 lo)).take (HT.Al xs.length xs.length hi-HT.Al xs.length 0 lo),bX _ Z⟩
def tU:V->Bool
 | .non=>true
 | .bl _=>true
 | .int _=>true
 | .str _=>true
 | _=>false
def KA:V->V->Bool
 | .non,.non=>true
 | .bl a,.bl b=>a == b
 | .bl a,.int b=>(if a then 1 else 0) == b
 | .int a,.bl b=>a == (if b then 1 else 0)
 | .int a,.int b=>a == b
 | .str a,.str b=>a == b
 | _,_=>false
theorem MT {A:Around}{y x:V}{u v:Value}(ry:RelV y u)(rx:RelV x v)(fy:tU y=true)(fx:tU x=true):SeqAt.EqAt A s u v (KA y x):=by
 cases y with
 | non =>
  cases ry;cases x with
  | non=>cases rx;exact SeqAt.EqAt.same _
  | bl b=>cases rx;exact SeqAt.EqAt.none_bool b
  | int b=>obtain⟨t,rfl⟩:=rx;exact SeqAt.EqAt.none_int b t
  | str b=>obtain⟨t,rfl⟩:=rx;exact SeqAt.EqAt.none_str b t
  | _=>exact absurd (show false=true from fx) bf
 | bl a =>
  cases ry;cases x with
  | non=>cases rx;exact SeqAt.EqAt.bool_none a
  | bl b=>cases rx;exact SeqAt.EqAt.bool_bool a b
  | int b=>obtain⟨t,rfl⟩:=rx;exact SeqAt.EqAt.bool_int a b t
  | str b=>obtain⟨t,rfl⟩:=rx;exact SeqAt.EqAt.bool_str a b t
  | _=>exact absurd (show false=true from fx) bf
 | int a =>
  obtain⟨t',rfl⟩:=ry;cases x with
  | non=>cases rx;exact SeqAt.EqAt.int_none a t'
  | bl b=>cases rx;exact SeqAt.EqAt.int_bool a t' b
  | int b=>obtain⟨t,rfl⟩:=rx;exact SeqAt.EqAt.int_int a t' b t
  | str b=>obtain⟨t,rfl⟩:=rx;exact SeqAt.EqAt.int_str a t' b t
  | _=>exact absurd (show false=true from fx) bf
 | str a =>
  obtain⟨t',rfl⟩:=ry;cases x with
  | non=>cases rx;exact SeqAt.EqAt.str_none a t'
  | bl b=>cases rx;exact SeqAt.EqAt.str_bool a t' b
  | int b=>obtain⟨t,rfl⟩:=rx;exact SeqAt.EqAt.str_int a t' b t
  | str b=>obtain⟨t,rfl⟩:=rx;exact SeqAt.EqAt.str_str a t' b t
  | _=>exact absurd (show false=true from fx) bf
 | _=>exact absurd (show false=true from fy) bf
def II (x:V)(u:Value):Bool:=match u with
 | .none=>KA .non x
 | .bool b=>KA (.bl b) x
 | .int i _=>KA (.int i) x
 | .str z _=>KA (.str z) x
 | _=>false
theorem Fc {x y:V}{u:Value}(r:RelV y u)(f:tU y=true):II x u=KA y x:=by
 cases y with
 | non=>cases r;rfl
 | bl b=>cases r;rfl
 | int i=>obtain⟨t,rfl⟩:=r;rfl
 | str z=>obtain⟨t,rfl⟩:=r;rfl
 | _=>exact absurd (show false=true from f) bf
theorem y9 {x:V}:∀{xs:List V}{us:List Value},Vals xs us->xs.all tU=true->us.any (II x)=xs.any fun y=>KA y x
 | _,_,.nil,_=>rfl
 | y::xs,u::us,.cons r t,f=>by
  rw[ir,fe] at f;rw[iu,iu,Fc r f.1,y9 t f.2]
theorem wL {A:Around}{s:Shared}{x:V}{v:Value}(rx:RelV x v)(fx:tU x=true):∀{xs:List V}{us:List Value},Vals xs us->xs.all tU=true->∀u∈us,SeqAt.EqAt A s u v (II x u)
 | _,_,.nil,_=>fun u hu=>by cases hu
 | y::xs,u::us,.cons r t,f=>fun u' hu=>by
  rw[ir,fe] at f;rcases List.mem_cons.mp hu with rfl | hu
  .rw[Fc r f.1];exact MT r rx f.1 fx
  .exact wL rx fx t f.2 u' hu
def Og (x:V)(xs:List V):Bool:=xs.any fun y=>KA y x
def rIn (K:PySem.W.Frag)(neg:Bool):R2:=fun x y H Q=>∃p xs,y=.ref p/\(jV K H p xs\/kJ K H p xs)/\tU x=true/\xs.all tU=true/\Q (.bl (if neg then !Og x xs else Og x xs)) H
theorem yR:ux X (compareOp .NotIn) (rIn X.K true):=by
 intro pins s σ H x y v u Q I rx ry h;obtain⟨p,xs,rfl,hq,fx,fs,q⟩:=h;cases ry;rcases hq with hq | hq
 .obtain⟨its,r,pl,hz⟩:=I.list hq;refine SeqAt.notIn_listAt (II x) pl.isList (fun w hw=>wL rx fx r fs w (by simpa using hw)) ⟨.bl _,H,I,Z,?_⟩;rw[show its.toArray.any (II x)=its.any (II x) by simp,y9 r fs];exact q
 .obtain⟨its,r,pl,hz⟩:=I.tuple hq;refine SeqAt.notIn_tupleAt (II x) pl (fun w hw=>wL rx fx r fs w (by simpa using hw)) ⟨.bl _,H,I,Z,?_⟩;rw[show its.toArray.any (II x)=its.any (II x) by simp,y9 r fs];exact q
theorem tO:qO X (.builtin "len") (fun xs H Q=>∃p ys,xs=[.ref p]/\(jV X.K H p ys\/kJ X.K H p ys)/\Q (.int ys.length) H):=by
 intro pins s σ H xs us Q I r h;obtain⟨p,ys,rfl,hq,q⟩:=h;obtain⟨u,rfl,rx⟩:=vals1 r;cases rx;have hn:=yG;rcases hq with hq | hq
 .obtain⟨its,r',pl,hz⟩:=I.list hq;have hlen:=r'.length;exact Calls.call_len_list pl.isList (by simp only[List.size_toArray]<;>omega) ⟨.int ys.length,H,I.tok _,⟨s.toks+1,by rw[List.size_toArray,hlen]⟩,q⟩
 .obtain⟨its,r',pl,hz⟩:=I.tuple hq;have hlen:=r'.length;exact len_tuple pl (by simp only[List.size_toArray]<;>omega) ⟨.int ys.length,H,I.tok _,⟨s.toks+1,by rw[List.size_toArray,hlen]⟩,q⟩
theorem nJ:qO X (.type "list") (fun xs H Q=>∃p ys,xs=[.ref p]/\(jV X.K H p ys\/kJ X.K H p ys)/\∀l,H l=none->Q (.ref l) (upd H l (.lst ys))):=by
 intro pins s σ H xs us Q I r h;obtain⟨p,ys,rfl,hq,q⟩:=h;obtain⟨u,rfl,rx⟩:=vals1 r;cases rx;have fin:∀(its:List Value),Vals ys its->ys.length<=sizeLine->∀(h':Heap)(c':Nat),(∀b o',s.heap.get? b=some o'->h'.get? b=some o') ->
   h'.get? s.heap.objs.size=some { cls:=.type "list",dict:=none,data:=.seq its.toArray c',slots:=#[] }->EP X pins σ Q (.ref s.heap.objs.size) { s with heap:=h' }:=fun its r' hz h' c' kp e =>
  ⟨.ref s.heap.objs.size,_,I.laid (t':=s.toks) kp (aH _) (show nh X.prog X.w _ h' _ (.lst ys) from ⟨hz,its,c',r',e⟩),Z,q _ (I.hok.fresh (aH _))⟩
 rcases hq with hq | hq
 .obtain⟨its,r',pl,hz⟩:=I.list hq;have hlen:=r'.length;obtain⟨o,ho,hc,n,hd⟩:=pl.isList;exact call_list_seq p (.inl Z) ho hc hd (fun h' c' kp e=>fin its r' hz h' c' kp e) (by simp only[List.size_toArray]<;>omega)
 .obtain⟨its,r',pl,hz⟩:=I.tuple hq;have hlen:=r'.length;obtain⟨o,ho,hc,n,hd⟩:=pl;exact call_list_seq p (.inr Z) ho hc hd (fun h' c' kp e=>fin its r' hz h' c' kp e) (by simp only[List.size_toArray]<;>omega)
def Vj (K:PySem.W.Frag)(T:String)(x:V)(H:Hp):Prop:=match x with
 | .str _=>T = "str"
 | .int _=>T = "int"
 | .ref p=>(T = "list"/\∃xs,jV K H p xs)\/(T = "tuple"/\∃o,K.lookup p=some o/\o.cls=.type "tuple"/\o.dict=none) \/
   (T = "dict"/\((∃kvs,H p=some (.dK kvs))\/∃kvs,H p=some (.dT kvs)))\/(T = "set"/\∃S n,H p=some (.set S n))
 | _=>dZ
theorem FH {σ:St}{H:Hp}{T:String}{x:V}{v:Value}(I:Inv X pins σ H s)(r:RelV x v)(ty:Vj X.K T x H) :
  s.TypeIs v T/\∀a,v=.ref a->∃ob,s.heap.get? a=some ob/\ob.dict=none:=by
 cases x with
 | str z =>
  obtain⟨t,rfl⟩:=r;cases (show T = "str" from ty);exact⟨typeIs_str s z t,fun _ e=>nomatch e⟩
 | int i =>
  obtain⟨t,rfl⟩:=r;cases (show T = "int" from ty);exact⟨typeIs_int s i t,fun _ e=>nomatch e⟩
 | ref p =>
  cases r;rcases ty with ⟨rfl,xs,hq⟩ | ⟨rfl,o,hk,hc,hd⟩ | ⟨rfl,hk⟩ | ⟨rfl,S,n,hk⟩
  .obtain⟨its,_,pl,_⟩:=I.list hq;refine⟨pl.isList.typeIs,fun a e=>?_⟩;cases e;obtain⟨o,n,e,c,hd,_⟩:=pl;exact⟨o,e,hd⟩
  .refine⟨⟨o,I.vk p o hk,hc⟩,fun a e=>?_⟩;cases e;exact⟨o,I.vk _ o hk,hd⟩
  .have z:∃o,s.heap.get? p=some o/\o.ExactDict:=by
    rcases hk with ⟨kvs,hk⟩ | ⟨kvs,hk⟩
    .obtain⟨_,_,_,_,o,_,_,e,ex,_⟩:=I.hok p _ hk;exact⟨o,e,ex⟩
    .obtain⟨_,_,_,_,o,_,_,e,ex,_⟩:=I.hok p _ hk;exact⟨o,e,ex⟩
   obtain⟨o,e,ex⟩:=z;refine⟨⟨o,e,ex.1⟩,fun a e2=>?_⟩;cases e2;exact⟨o,e,ex.2.1⟩
  .obtain⟨o,_,_,_,e,ex,_⟩:=I.hok p _ hk;refine⟨⟨o,e,ex.1⟩,fun a e2=>?_⟩;cases e2;exact⟨o,e,ex.2.1⟩
 | _=>exact False.elim ty
def VG (K:PySem.W.Frag)(T:String)(r:V->List V->Hp->VK->Prop)(to:TE):TE:=fun σ H Q=>to σ H fun x H1=>Vj K T x H1/\r x [] H1 Q
def tBM (K:PySem.W.Frag)(T:String)(r:V->List V->Hp->VK->Prop)(to:TE)(t:TA):TE:=fun σ H Q=>to σ H fun x H1=>Vj K T x H1/\t σ H1 fun xs H2=>r x xs H2 Q
variable {o e:Expr}{es:List Expr}{to:TE}{t:TA}{name:Str}{apos cpos:Pos}{T id:String}{r:V->List V->Hp->VK->Prop}
theorem wJ (pa:PlainAttrs T)(slot:Slot T name id)(WO:typeOf (.builtin id)=pure (.type "method_descriptor"))(hm:YD X id r)(ho:PE X o to)
  (HS:attributeBase o name X.env (eval o X.env)=eval o X.env:=by rfl)(HU:(apos.endLine == cpos.line)=true:=by rfl):PE X (.Call (.Attribute o name apos) [] [] cpos) (VG X.K T r to):=by
 intro pins s σ H Q I h;refine wpAny_Call_method0_late HS HU (mH (ho pins s σ H _ I h) fun v s1 ⟨x,H1,I1,r1,ty,q1⟩=>?_);obtain⟨h1,h2⟩:=FH I1 r1 ty;exact⟨T,id,pa,slot,WO,h1,h2,jf Z (PySem.evalArgs_none (hm pins s1 σ H1 x [] v [] Q I1 r1 .nil q1))⟩
theorem uV (pa:PlainAttrs T)(slot:Slot T name id)(WO:typeOf (.builtin id)=pure (.type "method_descriptor"))(hm:YD X id r)(ho:PE X o to)(ha:PA X (e::es) t)
  (HS:attributeBase o name X.env (eval o X.env)=eval o X.env:=by rfl)
  (WP:((backTo cpos (starEach (e::es) X.env)).all (fun x=>!x.1) && (backToKw cpos (keywordEach [] X.env)).all (fun x=>x.1.isSome)
   && decide ((e::es).length+([]:List Keyword).length+(if ([]:List Keyword).isEmpty then 0 else 1)<30))=true:=by rfl)
  (HU:(apos.endLine == cpos.line)=true:=by rfl)(hs:starEach (e::es) X.env=(false,eval e X.env)::starEach es X.env:=by rfl)(MZ:(backTo cpos (starEach es X.env)).any (·.1)=false:=by rfl) :
  PE X (.Call (.Attribute o name apos) (e::es) [] cpos) (tBM X.K T r to t):=by
 intro pins s σ H Q I h;refine wpAny_Call_method_late HS WP HU Z (mH (ho pins s σ H _ I h) fun v s1 ⟨x,H1,I1,r1,ty,q1⟩=>?_);obtain⟨h1,h2⟩:=FH I1 r1 ty;refine⟨T,id,pa,slot,WO,h1,h2,?_⟩;have hA:=ha cpos pins s1 σ H1 _ I1 q1;rw[hs] at hA ⊢;refine jf (by show (false || (backTo cpos (starEach es X.env)).any (·.1))=false;rw[MZ]<;>rfl) (Calls.evalArgs_plain ?_);exact mH hA fun us s2 ⟨vs,H2,I2,r2,q2⟩=>hm pins s2 σ H2 x vs v us Q I2 r1 r2 q2
end
def Yz (X:Cx)(id:String)(r:V->List V->Hp->VK->Prop):Prop :=
 ∀(pins:List (Addr×Obj))(s:Shared)(σ:St)(H:Hp)(x:V)(xs:List V)(v:Value)(us:List Value)(Q:VK),Inv X pins σ H s->RelV x v->Vals xs us->r x xs H Q ->
  wpAny (model X.prog X.w) X.A (call (.builtin id) (v::us)) (EP X pins σ Q) X.xe s
theorem Vals.one:∀{x:V}{us:List Value},Vals [x] us->∃u,us=[u]/\RelV x u
 | _,_,.cons r .nil=>⟨_,Z,r⟩
theorem Vals.zero:∀{us:List Value},Vals [] us->us=[]
 | _,.nil=>rfl
theorem Vals.rep {xs:List V}{us:List Value}(h:Vals xs us):∀k:Nat,Vals (List.replicate k xs).flatten (List.replicate k us).flatten
 | 0=>.nil
 | k+1=>by
  rw[cW,cW,eR,eR];exact Vals.append h (Vals.rep h k)
theorem foldl_rep (its:List Value):∀(k:Nat)(acc:List Value),
  List.foldl (fun x1 x2=>x1++x2) acc.toArray (List.replicate k its.toArray)=(acc++(List.replicate k its).flatten).toArray
 | 0,acc=>by simp
 | k+1,acc=>by
  have e:acc.toArray++its.toArray=(acc++its).toArray:=by simp
  have e2:(acc++its)++(List.replicate k its).flatten=acc++(List.replicate (k+1) its).flatten:=by
   rw[cW,eR,gh]
  rw[<-e2,<-foldl_rep its k (acc++its),<-e,cW,List.foldl_cons]
section
variable {X:Cx}{pins:List (Addr×Obj)}{σ:St}{H:Hp}{s:Shared}{l:Addr}{xs ys:List V}
theorem Inv.Wp {its its':List Value}{n:Nat}{f:Array Value->Array Value}{t':Nat}(I:Inv X pins σ H s)(hH:H l=some (.lst xs))
  (e:s.heap.get? l=some { cls:=.type "list",data:=.seq its.toArray n })(hf:f its.toArray=its'.toArray)(hv:Vals ys its')(hz:ys.length<=sizeLine) :
  Inv X pins σ (upd H l (.lst ys)) { s with heap:=s.heap.update l (Obj.mapSeq f),toks:=t' }:=by
 have q:=PySem.IsL.update e f;rw[hf] at q;refine I.write (x:=l) (e:=l) (by rw[hH];exact trivial) (.inl Z) (fun b' u hb hu=>(je s.heap (Obj.mapSeq f) (c7 hb)).trans hu) ⟨_,q⟩ ?_;exact⟨hz,its',_,hv,q⟩
theorem Inv.PC {its:List Value}{t':Nat}(I:Inv X pins σ H s)(hv:Vals ys its)(hz:ys.length<=sizeLine) :
  Inv X pins σ (upd H s.heap.objs.size (.lst ys)) { s with heap:=s.heap.push { cls:=.type "list",data:=.seq its.toArray },toks:=t' } :=
 I.laid (fun _ _ q=>aP _ q) (aH _) ⟨hz,its,0,hv,bX _ Z⟩
theorem Inv.fresh (I:Inv X pins σ H s):H s.heap.objs.size=none:=I.hok.fresh (aH _)
theorem Inv.Jx (I:Inv X pins σ H s)(hH:H l=some (.lst xs)):xs.length<=sizeLine/\∃(its:List Value)(n:Nat),Vals xs its/\xs.length=its.length/\s.heap.get? l=some { cls:=.type "list",data:=.seq its.toArray n }:=by
 obtain⟨z,its,n,r,e⟩:=I.hok l _ hH;exact⟨z,its,n,r,r.length,e⟩
theorem FS {n:Nat}(h:n<=sizeLine):Builtin.List.listTooLong n=false:=by
 unfold Builtin.List.listTooLong;exact d4 jD
end
section
variable {X:Cx}
def IQ:V->List V->Hp->VK->Prop:=fun x vs H Q=>∃l xs y,x=.ref l/\vs=[y]/\H l=some (.lst xs)/\xs.length<sizeLine/\Q .non (upd H l (.lst (xs++[y])))
theorem nw:Yz X "list.append" IQ:=by
 intro pins s σ H x vs v us Q I rx rv h;obtain⟨l,xs,y,rfl,rfl,hH,hz,q⟩:=h;cases rx;obtain⟨u,rfl,ru⟩:=rv.one;obtain⟨z,its,n,r,hl,e⟩:=I.Jx hH;refine call_meets F.slot_list_append ⟨_,e,Z⟩ F.entry_list_append (F.args_list_append_2 _ _) (PySem.list_append l its.toArray n u (by rw[cq];omega)) ⟨e,?_⟩;refine⟨.non,_,I.Wp (its':=its++[u]) hH e jB (r.append (.cons ru .nil)) ?_,Z,q⟩;rw[aJ,dr];omega
def Tl:R2:=fun x y H Q=>∃l b xs zs,x=.ref l/\y=.ref b/\H l=some (.lst xs)/\H b=some (.lst zs)/\xs.length+zs.length<=sizeLine/\∀p,H p=none->Q (.ref p) (upd H p (.lst (xs++zs)))
theorem sF:ux X (binaryOp .Add) Tl:=by
 intro pins s σ H x y v u Q I rx ry h;obtain⟨l,b,xs,zs,rfl,rfl,hH,hB,hz,q⟩:=h;cases rx;cases ry;obtain⟨z,its,n,r,hl,e⟩:=I.Jx hH;obtain⟨z2,Qd,n2,r2,J0,e2⟩:=I.Jx hB;refine PySem.P.add_list e e2 ?_ (by rw[cq,cq];omega);have ea:its.toArray++Qd.toArray=(its++Qd).toArray:=by simp
 rw[ea];exact⟨.ref _,_,I.PC (t':=s.toks) (r.append r2) (by rw[aJ];omega),Z,q _ I.fresh⟩
def TC:R2:=fun x y H Q=>∃l k xs,x=.ref l/\y=.int k/\H l=some (.lst xs)/\-(2^63)<=k/\k<2^63/\xs.length*k.toNat<=sizeLine /\
 ∀p,H p=none->Q (.ref p) (upd H p (.lst (List.replicate k.toNat xs).flatten))
theorem len_rep {α:Type}(xs:List α)(k:Nat):(List.replicate k xs).flatten.length=k*xs.length:=by
 induction k with
 | zero=>simp
 | succ k ih=>rw[cW,eR,aJ,ih,f9,Nat.add_comm]
theorem oS:ux X (binaryOp .Mult) TC:=by
 intro pins s σ H x y v u Q I rx ry h;obtain⟨l,k,xs,rfl,rfl,hH,h1,h2,hz,q⟩:=h;cases rx;obtain⟨t,rfl⟩:=ry;obtain⟨z,its,n,r,hl,e⟩:=I.Jx hH;have hlen:its.toArray.size*k.toNat<=sizeLine:=by rw[cq,<-hl];exact hz
 have wV:¬its.toArray.size*k.toNat > (2^63-1)/8:=by
  have:(sizeLine:Nat)<=(2^63-1)/8:=O;omega
 have WQ:¬(!Builtin.List.listFitsIndex k)=true:=by
  rw[fitsIndex_both h1 h2];exact bf
 have Qe:¬Builtin.List.listTooLong (its.toArray.size*k.toNat)=true:=by
  rw[FS hlen];exact bf
 have WR:List.foldl (fun x1 x2=>x1++x2) #[] (List.replicate (if its.toArray.isEmpty=true then 0 else k.toNat) its.toArray)=(List.replicate k.toNat its).flatten.toArray:=by
  have f0:∀m:Nat,List.foldl (fun x1 x2=>x1++x2) #[] (List.replicate m its.toArray)=(List.replicate m its).flatten.toArray:=fun m=>by
   have:=foldl_rep its m [];rw[hI] at this;exact this
  rw[f0];cases its with
  | nil=>simp
  | cons a r'=>rw[ak jB]
 refine wpAny_binaryOp_repeat_ref (T:="list") (U:="int") O ⟨_,e,Z⟩ (fun s'=>typeIs_int s' k t) noFill_list_mul F.fills_int_mul F.slot_int_rmul repeat_list F.slot_int_index.lookup
  (call_meets F.slot_int_rmul (typeIs_int s k t) F.entry_int_rmul (F.args_int_rmul_2 _ _) (int___rmul___int_list k t l its.toArray n)
   ⟨e,Z,⟨_,e,Z⟩,call_meets F.slot_list_mul ⟨_,e,Z⟩ F.entry_list_mul (F.args_list_mul_2 _ _) (AutoListH.list___mul___list_int_3 l its.toArray n k t WQ wV Qe) ⟨e,?_⟩⟩)
 rw[WR];exact⟨.ref _,_,I.PC (t':=s.toks) (r.rep k.toNat) (by rw[len_rep,fQ];exact hz),Z,q _ I.fresh⟩
end
end L2
namespace Att
open PySem PySem.W PySem.Calls PyProof.Rows
theorem u9 {P:Params}{h:Heap}:∀(ns:List Int)(vs:List Value),WellAll P h vs (ns.map WData.int)->IntsAre vs ns:=by
 intro ns
 induction ns with
 | nil =>
  intro vs w;rw[iB] at w;cases w;exact .nil
 | cons n ns ih =>
  intro vs w;rw[cZ] at w;cases w with
  | cons a b =>
   cases a;exact .cons _ _ (ih _ b)
theorem ED {l:OpenLaw}{n:Nat}(hn:l.most=some n){P:Params}{h:Heap}{args:List WData}{vals:List Value}
  (ET:l.row.toRowW.claim.pre args=true)(Qf:WellAll P h vals args) :
  ∃a vs ns,vals=[Value.ref a]/\args=[WData.list (ns.map WData.int)]/\h.get? a=some { cls:=.type "list",data:=.seq vs.toArray }/\IntsAre vs ns/\ns.length<=n:=by
 have hsh:WShape.hasAll [] args [.list .int]=true:=(pre_splitW ET).1;have hc:l.pre.holds [] { args:=args }=true:=(pre_splitW ET).2;obtain⟨d,r,rfl,h1,h2⟩:=hasAllW_cons hsh;obtain rfl:=hasAllW_nil h2;obtain⟨xs,rfl,h3⟩:=hasW_list h1;obtain⟨ns,rfl⟩:=items_int h3;have hlen:ns.length<=n:=by
  unfold OpenLaw.pre at hc;have h4:(WTm.not (.lt (.lit (.int (n:Int))) (.len (.arg 0)))).holds [] { args:=[.list (ns.map .int)] }=true:=by
   have h4:=(holds_andW hc).1;rw[hn] at h4;exact h4
  have h5:=condW_of h4 (w_not (w_lt w_lit (w_len_list (w_arg Z))));rw[aa] at h5;refine fi fun q=>?_;have q':(n:Int)<((ns.length:Nat):Int):=jD
  first
   | (rw[b9 q'] at h5;exact absurd h5 O)
   | (simp at h5;omega)
 cases Qf with
 | cons w1 w2 =>
  cases w2;cases w1 with
  | list ho WS=>exact⟨_,_,ns,Z,Z,ho,u9 ns _ WS,hlen⟩
theorem Er (l:OpenLaw)(args:List WData):l.row.toRowW.claim.post args (.bool true) args=true :=
 postW_of (r:=l.row.toRowW) (X:=(true == true))
  (show WShape.has [] (.bool true) .bool=true by first | rfl | decide | simp[WShape.has,WShape.arms,WShape.armsAll])
  (show (WTm.eq .res (.lit (.bool true))).value [] { args:=args,res:=some (.bool true),after:=args }=some (.bool (true == true)) from w_eq_bool (w_res Z) w_lit) Z
theorem Ax {l:OpenLaw}{n:Nat}{q:Program}{loose:List Str}{XP:(Str->Option Value)->Heap->Prop}{YP:World->Heap->Prop}{d:DefRec}
  (hn:l.most=some n)(Qg:d.params.defaults=[])
  (call:∀(w:World)(s₀ s₁:Shared)(mg mb:Str->Option Value)(fa:Addr)(o:Obj)(pm cd doc:Value)(a:Addr)(vs:List Value)(ns:List Int),
   Ground q loose [] XP w s₀ mg mb s₁.heap->YP w s₁.heap ->
   s₁.heap.get? fa=some o->o.data=.func (docDef d.name d.params d.body d.scope pm cd doc)->s₁.heap.CodeRec cd d.name->mg d.name=some (.ref fa) ->
   s₁.heap.get? a=some { cls:=.type "list",data:=.seq vs.toArray }->IntsAre vs ns->ns.length<=n->s₁.gens=#[] ->
   codeAny (model l.prog w) callerA (.call (.ref fa) ⟨[.ref a],[]⟩) (fun r s'=>r=.ok (.ret (.bool true))/\OldK s₁.heap s'.heap/\s'.os=s₁.os/\AllBare s'.gens) s₁) :
  WalkO q loose XP YP l.row.toRowW d [] (fun f vs=>PySem.call f vs):=by
 intro w s₀ s₁ mg mb G Y fa o pm cd doc dV kV ho hd DV hD M0 hg args vals as ET Qh YL Qf wX;obtain rfl:dV=.none:=Dflts.none hD Qg;obtain rfl:kV=.none:=Dflts.noKw hD;obtain⟨a,vs,ns,rfl,rfl,M3,hints,hlen⟩:=ED hn ET Qf;refine enter_call (ib (call w s₀ s₁ mg mb fa o pm cd doc a vs ns G Y ho (fd_plain hd) DV M0 M3 hints hlen hg) fun r s' hq=>?_);obtain⟨rfl,h2,h3,h4⟩:=hq;exact⟨.inl ⟨.bool true,.bool true,[],Z,fun _=>Z,.bool true,Er l _,fun _=>⟨List.Pairwise.nil,fun _ hm=>(nomatch hm)⟩⟩,h2,h3,h4⟩
end Att
namespace L2
open PySem PySem.Spec PyProof.Rows
theorem xJ:∀{vs:List Value}{ns:List Int},IntsAre vs ns->Vals (ns.map V.int) vs
 | _,_,.nil=>.nil
 | _,_,.cons n t h=>.cons ⟨t,Z⟩ (xJ h)
def Lx (H:Hp):Prop:=∀b,H b=none\/∃o xs,H b=some (.frz o (.lst xs))
theorem GP {P:Program}{w:World}{K:PySem.W.Frag}{mg mb:Str->Option Value}{CX:Gu}{k:Nat}{fa a:Addr}{fd:FuncData}{x:Str}{sp:Sp}{s₁:Shared}{vs:List Value}{ns:List Int}
  (KX:K.In s₁.heap)(YM:s₁.heap.Ns mainGlobals mg)(hb:s₁.heap.Ns builtinsNs mb)(hbb:∀x:Str,x≠"__name__"->mb x=bootBuiltins x)(WT:s₁.heap.NoLimit)(hg:s₁.gens=#[])
  (ha:s₁.heap.get? a=some { cls:=.type "list",data:=.seq vs.toArray })(hi:IntsAre vs ns)(hl:ns.length<=sizeLine)(hr:nC k callerA)
  (F:∀base:Heap,K.In base->base.Ns mainGlobals mg->re P w K mg base CX k fa fd [x] sp)(Qi:∀(s:Shared)(u:Value),BindsTo s fd ⟨[u],[]⟩ [(x,u)])
  (hsp:∀H:Hp,Lx H->jV K H a (ns.map V.int)->sp [.ref a] H (fun v _=>v=.bl true) fun _ _ _=>dZ)
  (hCX:∀H e s',CX [] H s₁ (fun _ _ _=>dZ) e s'->dZ) :
  codeAny (model P w) callerA (.call (.ref fa) ⟨[.ref a],[]⟩) (fun r s'=>r=.ok (.ret (.bool true))/\OldK s₁.heap s'.heap/\s'.os=s₁.os/\AllBare s'.gens) s₁:=by
 have rv:=xJ hi;have WU:=hi.length
 -- from an abstract heap in YN nothing but the script may be tracked
 have core:∀H:Hp,Lx H->jV K H a (ns.map V.int)->vi P w H s₁.heap->(∀b,H b≠none->b=a)->(H a≠none->K.lookup a=none) ->
   codeAny (model P w) callerA (.call (.ref fa) ⟨[.ref a],[]⟩) (fun r s'=>r=.ok (.ret (.bool true))/\OldK s₁.heap s'.heap/\s'.os=s₁.os/\AllBare s'.gens) s₁:=by
  intro H hO hS hok hA hK;have base_of:∀{b:Addr}{o:Obj},s₁.heap.get? b=some o->H b=none->(zK s₁.heap H).get? b=some o:=fun e n=>Fb e n;have noA:∀{b:Addr}{o:Obj}{es:Array DictEntry}{ep:Nat},s₁.heap.get? b=some o->o.data=.dict es ep->H b=none:=fun {b o es ep} e d=>by
   cases q:H b with
   | none=>rfl
   | some u =>
    have e':b=a:=hA b (by rw[q];simp);subst e';rw[ha] at e;cases e;have d':Data.seq vs.toArray _=Data.dict es ep:=d;cases d'
  have RH:∀{b:Addr}{m:Str->Option Value},s₁.heap.Ns b m->(zK s₁.heap H).Ns b m:=fun {b m} ⟨o,es,ep,e,d,r⟩=>⟨o,es,ep,base_of e (noA e d),d,r⟩;have YO:K.In (zK s₁.heap H):=fun b o e=>base_of (KX b o e) (by
   cases q:H b with
   | none=>rfl
   | some u =>
    have e':b=a:=hA b (by rw[q];simp);subst e';rw[hK (by rw[q];simp)] at e;cases e)
  have hM:Mod K mg (zK s₁.heap H):=⟨YO,RH YM,⟨mb,RH hb,hbb⟩,let ⟨mc,h1,h2⟩:=WT;⟨mc,RH h1,h2⟩⟩;have e0:Bl P w K mg (zK s₁.heap H) callerA [] s₁ H:=⟨Z,hM,fun b o e=>IC e,iz (Eu _ _),trivial,fun b hb=>absurd (show b∈([]:List Addr) from hb) jB,hok,.of_eq hg⟩;refine ib ((F _ YO (RH YM)).run callerA [] s₁ H ⟨[.ref a],[]⟩ [.ref a] [.ref a] _ _ hr e0 (Qi s₁ (.ref a)) (.cons Z .nil) (hsp H hO hS)) fun r s' h=>?_;cases r with
  | error e=>exact(hCX H e s' h).elim
  | ok fl =>
   cases fl with
   | next=>exact False.elim h
   | brk=>exact False.elim h
   | cont=>exact False.elim h
   | ret u =>
    obtain⟨v,H',os,bare,un,WV,r',q⟩:=h;have q':v=.bl true:=q;subst q';obtain rfl:u=Value.bool true:=r';refine⟨Z,OldK.of_keep fun b o e=>?_,os,bare⟩;cases q:H b with
    | none=>exact un.keep b o e q (by intro z;exact absurd (show b∈([]:List Addr) from z) jB) jB
    | some u =>
     rcases hO b with z | ⟨ob,xs,z⟩
     .rw[q] at z;cases z
     .have z2:=un.frzs b ob _ z;obtain⟨e1,_⟩:=hok b _ z;obtain⟨e2,_⟩:=WV b _ z2;rw[e] at e1;cases e1;exact e2
 cases hk:K.lookup a with
 | some o =>
  -- the script is one of the Qj own objects
  have e:=KX a o hk;rw[ha] at e;cases e;refine core (fun _=>none) (fun _=>.inl Z) (.inr ⟨_,vs.toArray,_,hk,Z,Z,Z,by rw[cq,WU];exact hl,by simpa using rv⟩) (fun b u z=>by have z':(none:Option HO)=some u:=z;cases z') (fun b z=>absurd Z z) fun z=>absurd Z z
 | none =>
  refine core (fun b=>if b=a then some (.frz { cls:=.type "list",data:=.seq vs.toArray } (.lst (ns.map V.int))) else none) (fun b=>?_) (.inl (.inr ⟨{ cls:=.type "list",data:=.seq vs.toArray },aC Z⟩)) (fun b u z=>?_) (fun b z=>?_) fun _=>hk
  .by_cases hb:b=a
   .exact .inr ⟨_,_,aC hb⟩
   .exact .inl (ak hb)
  .by_cases hb:b=a
   .have z':=(aC hb).symm.trans z;cases z';subst hb;exact⟨ha,by rw[aa];exact hl,vs,_,rv,ha⟩
   .have z':=(ak hb).symm.trans z;cases z'
  .by_cases hb:b=a
   .exact hb
   .exact absurd (ak hb) z
theorem JR {l:PySem.W.OpenLaw}{n k:Nat}{q:Program}{loose:List Str}{XP:(Str->Option Value)->Heap->Prop}{YP:World->Heap->Prop}{d:DefRec}{K:Params->PySem.W.Frag}{CX:World->Gu}{sp:World->Sp}{x:Str}
  (hn:l.most=some n)(RG:n<=sizeLine)(Qg:d.params.defaults=[])(hr:nC k callerA)
  (hY:∀(w:World)(h:Heap),YP w h->(K w.params).In h)
  (F:∀(w:World)(mg:Str->Option Value)(fa:Addr)(h:Heap),(K w.params).In h->h.Ns mainGlobals mg->mg d.name=some (.ref fa) ->
   ∃fd:FuncData,(∀(s:Shared)(u:Value),BindsTo s fd ⟨[u],[]⟩ [(x,u)]) /\
    ∀base:Heap,(K w.params).In base->base.Ns mainGlobals mg->re l.prog w (K w.params) mg base (CX w) k fa fd [x] (sp w))
  (hsp:∀(w:World)(H:Hp)(a:Addr)(ns:List Int),ns.length<=n->Lx H->jV (K w.params) H a (ns.map V.int)->sp w [.ref a] H (fun v _=>v=.bl true) fun _ _ _=>dZ)
  (hCX:∀(w:World)(H:Hp)(s:Shared)(e:Value)(s':Shared),CX w [] H s (fun _ _ _=>dZ) e s'->dZ) :
  PySem.W.WalkO q loose XP YP l.row.toRowW d [] (fun f vs=>PySem.call f vs):=by
 refine Att.Ax hn Qg fun w s₀ s₁ mg mb fa o pm cd doc a vs ns G Y ho hd DV M0 M3 hints hlen hg=>?_;have KX:=hY w _ Y;obtain⟨fd,hb,hF⟩:=F w mg fa _ KX G.T.g M0;exact GP KX G.T.g G.T.b G.T.builtins G.T.nolimit hg M3 hints (bR hlen RG) hr hF hb (fun H hO hS=>hsp w H a ns hlen hO hS) fun H e s'=>hCX w H s₁ e s'
variable {A B:Prop}
def inClass (s:Stmt)(j:Nat):Stmt:=match s with
 | .ClassDef _ _ _ body _ _ _ _ _ _ _=>body.getD j (.Pass ⟨0,0,0,0⟩)
 | _=>.Pass ⟨0,0,0,0⟩
def lQ (s:Stmt):Arguments:=match s with
 | .FunctionDef _ a _ _ _ _ _ _ _ _=>a
 | _=>{ posonlyargs:=[],args:=[],vararg:=none,kwonlyargs:=[],kw_defaults:=[],kwarg:=none,defaults:=[] }
def kY (s:Stmt):List Stmt:=match s with
 | .FunctionDef _ _ b _ _ _ _ _ _ _=>b
 | _=>[]
def jP (s:Stmt):Scope:=match s with
 | .FunctionDef _ _ _ _ _ _ sc _ _ _=>sc
 | _=>{ kind:=.function,names:=[],isGenerator:=false,isCoroutine:=false }
abbrev DL:Gu:=fun _ _ _ _ _ _=>dZ
abbrev E0:XK:=fun _ _ _=>dZ
theorem GR {X:Cx}:Passes DL X E0:=fun _ _ _ _ _ _ _ h=>h.elim
structure DF (K:PySem.W.Frag)(x qual:Str)(st:Stmt)(f:Addr)(fd:FuncData):Prop where
 ex:∃(oc:Value)(od:Option Addr)(kV doc pm:Value)(an:Option Addr)(cdv ct:Value)(osl:Array (Option Value)),
  fd=PySem.W.fnOf x qual (lQ st) (kY st) (jP st) .none kV doc pm an cdv ct/\K.lookup f=some ⟨oc,od,.func fd,osl⟩/\PySem.W.codeIn K cdv qual=true
 kp:PySem.W.keepIn K (.ref f)=true
section
variable {P:Program}{w:World}{K:PySem.W.Frag}{mg:Str->Option Value}{base:Heap}
theorem DF.ok {x qual:Str}{st:Stmt}{f:Addr}{fd:FuncData}{N ps:List Str}{k:Nat}{sp:Sp}(F:DF K x qual st f fd)(S:jS N ps (jP st))(len:∀vs H Q E,sp vs H Q E->vs.length=ps.length)
  (hbody:∀(cdv:Value)(A:Around)(outer:List Env)(s:Shared)(H:Hp)(vs:List V)(Q:VK)(E:XK),nC k (A.deeper (envOfC qual (jP st) s.heap.objs.size f cdv))->sp vs H Q E ->
   ∃t,xK (xt DL P w K mg base N qual (jP st) f cdv A outer s H E).EZ (kY st) t/\t { nx:=fun _ H'=>Q .non H',rt:=Q } (start N vs) H):re P w K mg base DL (k+1) f fd ps sp:=by
 obtain⟨oc,od,kV,doc,pm,an,cdv,ct,osl,rfl,lk,DV⟩:=F.ex;refine Ov lk DV S len fun A outer s H vs Q E hr hsp=>?_;obtain⟨t,h,q⟩:=hbody cdv A outer s H vs Q E hr hsp;exact⟨t,h.EZ,q⟩
theorem DF.binds {x qual:Str}{st:Stmt}{f:Addr}{fd:FuncData}{ps:List Str}(F:DF K x qual st f fd)
  (h:∀(kV doc pm:Value)(an:Option Addr)(cdv ct:Value)(us:List Value),us.length=ps.length->bindArgs (PySem.W.fnOf x qual (lQ st) (kY st) (jP st) .none kV doc pm an cdv ct) ⟨us,[]⟩=pure (ps.zip us)):Binds K fd ps []:=by
 obtain⟨oc,od,kV,doc,pm,an,cdv,ct,osl,rfl,lk,DV⟩:=F.ex;exact .all (h kV doc pm an cdv ct)
theorem Ge {x qual:Str}{st:Stmt}{f:Addr}{oc:Value}{od an:Option Addr}{osl:Array (Option Value)}{kV doc pm cdv ct:Value}(l:K.lookup f=some ⟨oc,od,.func (PySem.W.fnOf x qual (lQ st) (kY st) (jP st) .none kV doc pm an cdv ct),osl⟩)
  (c:PySem.W.codeIn K cdv qual=true)(k:PySem.W.keepIn K (.ref f)=true):DF K x qual st f (PySem.W.fnOf x qual (lQ st) (kY st) (jP st) .none kV doc pm an cdv ct):=⟨⟨oc,od,kV,doc,pm,an,cdv,ct,osl,Z,l,c⟩,k⟩
end
section
variable {X:Cx}
theorem pv (i:Nat){x:Str}{pos:Pos}(hN:X.N[i]?=some x:=by rfl)(hv:RB X.env.scope x:=by first | exact Or.inl Z | exact Or.inr (Or.inl Z) | exact Or.inr (Or.inr Z))(hd:(x == ("__debug__":Str))=false:=by decide)
  (DV:(x == ("__classdict__":Str))=false:=by decide):PE X (.Name x pos) (OH i):=LM hN hv hd DV
end
theorem yt (h:B):if false=true then A else B:=by
 rw[ak bf];exact h
theorem Oe (h:A):if true=true then A else B:=by
 rw[aC Z];exact h
theorem mM {c:Prop} [Decidable c] (h1:c->A)(h2:¬c->B):if c then A else B:=by
 by_cases h:c
 .rw[aC h];exact h1 h
 .rw[ak h];exact h2 h
theorem xW {c:Prop} [Decidable c] (hc:c)(h:B):if (!decide c)=true then A else B:=by
 rw[b9 hc];exact yt h
def jM (H H':Hp):Prop:=∀b o,H b=some o->H' b=some o
theorem jM.refl (H:Hp):jM H H:=fun _ _ h=>h
theorem jM.trans {H H1 H2:Hp}(a:jM H H1)(b:jM H1 H2):jM H H2:=fun c o h=>b c o (a c o h)
theorem jM.free {H H':Hp}(e:jM H H'){l:Addr}(h:H' l=Option.none):H l=Option.none:=by
 cases q:H l with
 | none=>rfl
 | some o =>
  rw[e l o q] at h;cases h
theorem jM.seq {K:PySem.W.Frag}{H H':Hp}{a:Addr}{xs:List V}(e:jM H H')(h:jV K H a xs):jV K H' a xs:=by
 rcases h with (h | ⟨o,h⟩) | h
 .exact .inl (.inl (e _ _ h))
 .exact .inl (.inr ⟨o,e _ _ h⟩)
 .exact .inr h
set_option maxHeartbeats 5000000
variable {cl:List (Str×Addr)}{ifs:List Expr}{mL:List (Str×Nat)}{oH:List Str}{g:TG}{tc:TT}{te:TE}
section
variable {A:Around}{prog:Program}{w:World}{s:Shared}{R:Result->Shared->Prop}
theorem zO {el RJ src:Expr}{tests:List Expr}{sc:Scope}{ps:Pos}{KU ac:Value}{env:Env}(zfJ:Nat->Shared->Prop)
  (trn:∀k t,zfJ k t->wpAny (model prog w) A (pyNext KU) (fun z EU=>match z with
   | none=>R (.ok .next) EU
   | some v=>wpAny (model prog w) A (letOwnedTupleGo RJ KU v) (fun _ EU=>wpAny (model prog w) A (assign RJ env v) (fun _ Qk =>
     wpAny (model prog w) A (forIn tests true fun YQ go=>if go=true then do let yes <-isTrue YQ env (eval YQ env);pure (ForInStep.yield yes) else pure (ForInStep.yield go)) (fun yes M4 =>
      if yes=true then wpAny (model prog w) A (eval el env) (fun x Ql =>
       wpAny (model prog w) A (call (.builtin "list.append") [ac,x]) (fun _ Qm=>∃m,m<k/\zfJ m Qm) (fun _ _=>dZ) Ql) (fun _ _=>dZ) M4
      else ∃m,m<k/\zfJ m M4) (fun _ _=>dZ) Qk) (fun _ _=>dZ) EU) (fun _ _=>dZ) EU) (fun _ _=>dZ) t)
  (k:Nat)(h:zfJ k s):codeAny (model prog w) A (.compLoop (.ListComp el [⟨RJ,src,tests,0⟩] sc ps) 0 KU ac env) R s:=by
 refine codeAny_loop Z zfJ (fun k t hJ=>?_) k h;refine(wpAny_noted (m:=compTurn (.ListComp el [⟨RJ,src,tests,0⟩] sc ps) 0 KU ac env) ?_:wpAny _ A _ _ _ t);rw[compTurn_list];refine cB (iZ (cB (ef (trn k t hJ) (fun z EU J1=>?_) fun _ _ f=>f.elim)));cases z with
 | none=>exact dI J1
 | some v =>
  refine cB (ef J1 (fun _ EU J1=>?_) fun _ _ f=>f.elim);refine cB (ef J1 (fun _ Qk WW=>cB (ef WW (fun yes M4 Qn=>?_) fun _ _ f=>f.elim)) fun _ _ f=>f.elim);cases yes with
  | false=>exact dI (And.intro Z Qn)
  | true =>
   exact cB (cB (ef Qn (fun x Ql WX=>cB (ef WX (fun _ Qm WY=>dI (dI ⟨Z,WY⟩)) fun _ _ f=>f.elim)) fun _ _ f=>f.elim))
end
theorem CW {cells:List (Str×Addr)}:∀x c,([]:List (Str×Addr)).lookup x=some c->cells.lookup x=some c:=fun _ _ h=>by cases h
theorem AJ {cells r:List (Str×Addr)}{k:Str}{a:Addr}(h1:cells.lookup k=some a)(h2:∀x c,r.lookup x=some c->cells.lookup x=some c) :
  ∀x c,((k,a)::r).lookup x=some c->cells.lookup x=some c:=fun x c h=>by
 rw[g3] at h;cases e:x == k with
 | true =>
  rw[e] at h;have:x=k:=by simpa using e
  subst this;cases h;exact h1
 | false =>
  rw[e] at h;exact h2 x c h
theorem tP {env:Env}:∀{names:List (Str×NameKind)}{x:Str},(∀y∈names,y.2≠.cell) ->
    ((names.map fun (n,k)=>if (k == NameKind.free && env.scope.kind == .function && env.kindOf n == some .cell) then (n,NameKind.cell) else (n,k)).lookup x=some .cell \/
     (names.map fun (n,k)=>if (k == NameKind.free && env.scope.kind == .function && env.kindOf n == some .cell) then (n,NameKind.cell) else (n,k)).lookup x=some .free)->(x,NameKind.free)∈names
  | [],x,_,h=>by simp at h
  | (n,k)::r,x,hc,h=>by
    have ih:=@tP env r x (fun y hy=>hc y (ar _ hy));rw[cZ] at h;dsimp only at h
    by_cases c:(k == NameKind.free && env.scope.kind == .function && env.kindOf n == some .cell)=true
    · have hk:k=.free:=by
        have:=(fV.mp (fV.mp c).1).1;cases k<;>first | rfl | (exact absurd this O)
      rw[aC c,g3] at h;cases e:x == n with
      | true =>
        have:x=n:=by simpa using e
        subst this;subst hk;exact av
      | false =>
        rw[e] at h;exact ar _ (ih h)
    · rw[ak c,g3] at h
      cases e:x == n with
      | true =>
        have:x=n:=by simpa using e
        subst this;rw[e] at h;rcases h with h | h
        · exact absurd (bI h) (hc (x,k) av)
        · have:=bI h
          subst this;exact av
      | false =>
        rw[e] at h;exact ar _ (ih h)
theorem Dz {names:List (Str×NameKind)}(h:names.all (fun y=>!(y.2 == NameKind.free) || (cl.lookup y.1).isSome)=true):∀y∈names,y.2=.free->∃c,cl.lookup y.1=some c:=fun y hy e=>by
 have q:=dC.mp h y hy;rw[e] at q;exact io.mp (by simpa using q)
theorem DA {α:Type}{F:α->Prop}:∀p∈([]:List α),F p:=fun _ h=>(nomatch h)
theorem Au {α:Type}{F:α->Prop}{p:α}{l:List α}(h:F p)(r:∀q∈l,F q):∀q∈p::l,F q:=fun q hq=>by
 rcases List.mem_cons.mp hq with e | e
 .rw[e];exact h
 .exact r q e
def kU (X:Cx)(scope:Scope)(cl:List (Str×Addr))(N':List Str)(C:Addr)(s:Shared)(H:Hp)(fp:List Addr):Cx where
 prog:=X.prog
 w:=X.w
 K:=X.K
 mg:=X.mg
 base:=X.base
 A:=X.A
 N:=N'
 s₀:=s
 H₀:=H
 env:=compEnvC scope cl C X.env
 outer:=X.stack
 stack:=X.stack
 ex:=fp
 fn:=fun _=>false
 calm:=X.calm
 pn:=[]
 xe:=fun _ _=>dZ
def Kw (X:Cx)(ifs:List Expr)(t:TT):Prop :=
 ∀(pins:List (Addr×Obj))(s:Shared)(σ:St)(H:Hp)(Q:Bool->Hp->Prop),Inv X pins σ H s->t σ H Q ->
  wpAny (model X.prog X.w) X.A (forIn ifs true fun c r=>if r=true then do let ok <-isTrue c X.env (eval c X.env);pure (ForInStep.yield ok) else pure (ForInStep.yield r)) (TP X pins σ Q) X.xe s
def xC:TT:=fun _ H Q=>Q true H
theorem kd {X:Cx}:Kw X [] xC:=fun _ _ _ H _ I h=>wpAny_tests_nil ⟨H,I,h⟩
theorem DJ {X:Cx}{c:Expr}{t:TT}(h:PT X c t):Kw X [c] t:=fun pins s σ H Q I q=>wpAny_tests_one (h pins s σ H Q I q)
def pO (mL:List (Str×Nat))(k:Nat)(σ:St):St:=mL.map (fun p=>(σ[p.2]?).join)++List.replicate k none
def mS (zfJ:It)(g:TG)(tc:TT)(te:TE)(kW:St)(Q:VK)(H1:Hp):Prop :=
 ∃W:Nat->Nat->List V->Hp->Prop,(∃m,W 0 m [] H1)/\∀i m ys H,W i m ys H ->
  (zfJ.stop i H/\∀D,H D=none->Q (.ref D) (upd H D (.lst ys))) \/
  (zfJ.go i H/\ys.length<sizeLine/\∃N:List V->Hp->Prop,(∀M5 H',N M5 H'->∃m',m'<m/\W (i+1) m' M5 H') /\
   ∀x H',zfJ.yld i H x H'->g x kW H' fun mK H2=>tc mK H2 fun b H3=>if b=true then te mK H3 fun y H4=>N (ys++[y]) H4 else N ys H3)
def AX (mL:List (Str×Nat))(k:Nat)(wi:TI)(g:TG)(tc:TT)(te:TE):TE:=fun σ H Q=>wi σ H fun zfJ H1=>mS zfJ g tc te (pO mL k σ) Q H1
def rG (n:Nat)(g:TG):Prop:=∀x σ H Q,g x σ H Q->g x σ H fun mK H2=>(mK.length=σ.length/\∀j,j<n->mK[j]?=σ[j]?)/\Q mK H2
theorem uT {n i:Nat}(h:n<=i):rG n (kZ i):=fun x σ H Q q=>⟨⟨jB,fun j hj=>by rw[List.getElem?_set_ne jD]⟩,q⟩
abbrev wH (us:List Value):Obj:={ cls:=.type "list",data:=.seq us.toArray us.length }
structure Fin (X:Cx)(pins:List (Addr×Obj))(H:Hp)(s:Shared)(C:Addr):Prop where
 none:H C=Option.none
 loc:C≠X.env.locals
 sz:X.s₀.heap.objs.size<=C
 cel:∀x c,X.env.cells.lookup x=some c->c≠C
 pin:∀p∈X.pn++pins,p.1≠C
 ns:∃m,s.heap.Ns C m
theorem Fin.go {X:Cx}{pins:List (Addr×Obj)}{σ:St}{H:Hp}{s:Shared}{C:Addr}(f:Fin X pins H s C)(I:Inv X pins σ H s){h':Heap}(sb:Heap.SameBut C s.heap h'):Inv X pins σ H { s with heap:=h' } :=
 I.turned (t':=s.toks) (it:=C) (fun b o hb e=>(sb.2 b hb).trans e) f.none f.loc (.inr f.sz) f.cel f.pin
theorem xH {X:Cx}{elt iter tg:Expr}{scope:Scope}{pos pos':Pos}{wi:TI}
 (hc:X.calm=true)(hclos:closureFor scope X.env=pure cl)(qh:scope.kind=.function)
 (qL:∀x∈scope.names,x.2=.local->scope.names.lookup x.1=some .local)(qg:∀y∈scope.names,y.2≠.cell)
 (qY:∀y∈scope.names,y.2=.free->∃c,cl.lookup y.1=some c)
 (sf:∀x c,cl.lookup x=some c->X.env.cells.lookup x=some c)
 (wV:∀p∈mL,X.N[p.2]?=some p.1/\(X.env.kindOf p.1=some .cell\/X.env.kindOf p.1=some .free)/\((relabel scope X.env).names.lookup p.1=some .cell\/(relabel scope X.env).names.lookup p.1=some .free)/\∃c,cl.lookup p.1=some c)
 (hl:rG mL.length g)(hi:PI X tg iter wi)
 (hb:∀C s H fp,PG (kU X scope cl (mL.map (·.1)++oH) C s H fp) tg g/\Kw (kU X scope cl (mL.map (·.1)++oH) C s H fp) ifs tc/\PE (kU X scope cl (mL.map (·.1)++oH) C s H fp) elt te)
 (hs:∀x,foldedSetIterable iter X.env x=pure x)
 {pins:List (Addr×Obj)}{s:Shared}{σ:St}{H:Hp}{Q:VK}{Qp:Value->Shared->Prop}{use:Option (Value->Sem Unit)}(I:Inv X pins σ H s)(h:AX mL oH.length wi g tc te σ H Q)
 (fin:∀D C H' s',Inv X pins σ H' s'->Fin X pins H' s' C->Q (.ref D) H'->compPost (model X.prog X.w) X.A X.xe use Qp (.ref D) C (.ok .next) s') :
    wpAny (model X.prog X.w) X.A (comprehension (.ListComp elt [⟨tg,iter,ifs,0⟩] scope pos) scope X.env pos' (newList []) false (eval iter X.env) use) Qp X.xe s:=by
  refine wpAny_comprehension_free (g:=⟨tg,iter,ifs,0⟩) (gs:=[]) Z hs hclos qh qL ?_;refine mH (hi pins s σ H _ I h) fun v s1 h1=>mH h1 fun KU s2 h2=>?_;obtain⟨it,fp,tn,zfJ,H2,e,I2,T,KW,f2,W,⟨m0,w0⟩,turn⟩:=h2;subst e;refine wpAny_newObj_type (wpAny_newFunctionEnv qg (fun y hy=>(by simp at hy)) (fun J2 CB hsb₁=>?_) qh);dsimp only at CB hsb₁ ⊢;generalize WZ:s2.heap.push { cls:=.type "list",dict:=none,data:=.seq ([]:List Value).toArray }=HH at CB hsb₁ ⊢;have hC:HH.objs.size=s2.heap.objs.size+1:=by rw[<-WZ,gT]
  have W1:s2.heap.objs.size≠HH.objs.size:=by rw[hC];exact cF (bJ _)
  have below:∀b,b<s2.heap.objs.size->b≠HH.objs.size/\b≠s2.heap.objs.size:=fun b hb=>⟨by rw[hC];exact cF (bF hb),cF hb⟩;have old:∀b o,s2.heap.get? b=some o->J2.get? b=some o:=fun b o e=>hsb₁.extBut b o (below b (bL e)).1 (aP _ (WZ▸aP _ e));have W3:J2.get? s2.heap.objs.size=some (wH []):=hsb₁.extBut _ _ W1 (aP _ (WZ▸bX _ Z));have DW:∀b∈fp,b<s2.heap.objs.size:=fun b hb=>let ⟨o,e,_⟩:=T.obj _ _ KW b hb;bL e;have W4:∀x c,cl.lookup x=some c->c<s2.heap.objs.size:=fun x c e=>let ⟨v,q⟩:=I2.cell x c (sf x c e);q.lt;have Qo:∀b∈Ey X.stack,b<s2.heap.objs.size:=fun b hb=>by
    obtain⟨_,o,ho,_⟩:=I2.stack.mem hb;exact bL ho
  generalize hX:kU X scope cl (mL.map (·.1)++oH) HH.objs.size s2 H2 fp=X';have ok':X'.Ok:=by
    subst hX;refine { mod:=I2.ok.mod,kind:=qh,glob:=I2.ok.glob,blt:=I2.ok.blt,above:=?_,inj:=fun x y c a b=>I2.ok.inj x y c (sf x c a) (sf y c b),has:=?_,cab:=fun x c h=>(nomatch h),hd:=I2.ok.hd,frames:=I2.ok.frames,stk:=.inl Z,exf:=?_,bs:=I2.bs,bsz:=bR I2.ok.bsz I2.sz,noex:=?_,exfs:=?_,uJ:=I2.stack,frf:=I2.C3 }
    · show s2.heap.objs.size<=HH.objs.size
      rw[hC];exact gg _
    · intro x hx
      exact qY (x,.free) (tP qg hx) Z
    · intro b hb
      exact⟨(below b (DW b hb)).1,fun x c e=>(f2 b hb).2.2.2.2.1 x c (sf x c e)⟩
    · intro b o e hb
      rcases (f2 b hb).2.2.2.1 with z | z
      · exact I2.ok.noex b o e z
      · exact absurd (bj (bL (I2.ok.bs b o e).1) z) (d7 _)
    · intro b hb hm
      rcases List.mem_cons.mp (I2.Bw b hm) with z | z
      · exact(f2 b hb).2.1 z
      · exact(f2 b hb).2.2.1 z
  have W5:Inv X' [(s2.heap.objs.size,wH [])] (pO mL oH.length σ) H2 { s2 with heap:=J2,toks:=s2.toks+([]:List (Str×Value)).length }:=by
    subst hX;refine⟨ok',Z,I2.bare,Un.kept old,⟨_,CB,?_⟩,fun x c e=>?_,I2.hok.fresh (by rw[hC];exact gg _),fun x c e=>I2.freeC x c (sf x c e),fun p hp=>?_,I2.hok.kept old,?_⟩
    · intro j y v e1 e2 e3
      have NK:(mL.map (·.1)++oH)[j]?=some y:=e1
      by_cases hj:j<mL.length
      · unfold pO at e2
        rw[dj (by simpa using hj),List.getElem?_map] at e2;rw[dj (by simpa using hj),List.getElem?_map] at NK;rw[aA hj] at NK e2;have ey:mL[j].1=y:=by simpa using NK
        have ev:(σ[mL[j].2]?).join=some v:=by simpa using e2
        obtain⟨c1,c2,c3,c,c4⟩:=wV mL[j] (List.getElem_mem hj);have RK:σ[mL[j].2]?=some (some v):=by
          cases q:σ[mL[j].2]? with
          | none=>rw[q] at ev;cases ev
          | some z=>rw[q] at ev;exact cU some ev
        rw[ey] at c1 c2 c3 c4;obtain⟨m,hn,hl'⟩:=I2.loc;have vis:RB X.env.scope y:=by
          rcases c2 with c2 | c2
          · exact .inr (.inl c2)
          · exact .inr (.inr c2)
        obtain⟨u,ru,lu⟩:=hl' _ y v c1 RK vis;refine⟨u,ru,.inr ⟨c3,c,c4,?_⟩⟩;rcases lu with ⟨k,_⟩ | ⟨_,c',e',q⟩
        · rcases c2 with c2 | c2<;>(rw[k] at c2;cases c2)
        · rw[sf y c c4] at e'
          cases e';obtain⟨o,ho,hd⟩:=q;exact⟨o,old _ _ ho,hd⟩
      · unfold pO at e2
        rw[c9 (by simpa using hj),List.getElem?_replicate] at e2;split at e2<;>cases e2
    · obtain⟨v,o,ho,hd⟩:=I2.cell x c (sf x c e)
      exact⟨v,o,old _ _ ho,hd⟩
    · have W6:p∈([(s2.heap.objs.size,wH [])]:List (Addr×Obj)):=hp
      obtain rfl:=List.mem_singleton.mp W6;refine⟨W3,I2.hok.fresh (aH _),W1,fun z=>d7 _ (Qo _ z),fun v z=>?_⟩;have z':Data.seq _ _=Data.cell v:=z;cases z'
    · show (pO mL oH.length σ).length=(mL.map (·.1)++oH).length
      unfold pO;simp
  have W7:∀{us:List Value}{H':Hp},(∀b∈fp,H' b=none)->∀b∈fp,yK X' [(s2.heap.objs.size,wH us)] H' b:=by
    subst hX;intro us H' hn b hb;refine⟨hn b hb,(below b (DW b hb)).1,fun z=>ok'.exfs b hb z,.inl hb,fun x c e=>(f2 b hb).2.2.2.2.1 x c (sf x c e),fun p hp=>?_⟩;have W6:p∈([(s2.heap.objs.size,wH us)]:List (Addr×Obj)):=hp;obtain rfl:=List.mem_singleton.mp W6;exact c7 (below b (DW b hb)).2
  have eP:X'.prog=X.prog:=by subst hX;rfl
  have eW:X'.w=X.w:=by subst hX;rfl
  have eK:X'.K=X.K:=by subst hX;rfl
  have eA:X'.A=X.A:=by subst hX;rfl
  have eE:X'.env=compEnvC scope cl HH.objs.size X.env:=by subst hX;rfl
  have eF:X'.fs=Ey X.stack:=by subst hX;rfl
  have eX:X'.ex=fp:=by subst hX;rfl
  have eH:X'.H₀=H2:=by subst hX;rfl
  have eS:X'.s₀=s2:=by subst hX;rfl
  have ec:X'.calm=true:=by subst hX;exact hc
  have Qr:X'.pn=[]:=by subst hX;rfl
  have W8:X'.xe=fun _ _=>dZ:=by subst hX;rfl
  obtain⟨hg,ht,he⟩:PG X' tg g/\Kw X' ifs tc/\PE X' elt te:=by subst hX;exact hb _ _ _ _
  have loop:codeAny (model X.prog X.w) X.A (.compLoop (.ListComp elt [⟨tg,iter,ifs,0⟩] scope pos) 0 (.ref it) (.ref s2.heap.objs.size) (compEnvC scope cl HH.objs.size X.env))
      (compPost (model X.prog X.w) X.A X.xe use Qp (.ref s2.heap.objs.size) HH.objs.size) { s2 with heap:=J2,toks:=s2.toks+([]:List (Str×Value)).length }:=by
    refine zO (fun n s'=>∃i ys us H',Inv X' [(s2.heap.objs.size,wH us)] (pO mL oH.length σ) H' s'/\Vals ys us/\ys.length<=sizeLine/\tn i s'.heap/\(∀b∈fp,H' b=none)/\W i n ys H') ?_ m0
      ⟨0,[],[],H2,W5,.nil,dH _,T.keep _ _ _ KW fun b _ o e=>old b o e,fun b hb=>(f2 b hb).1,w0⟩
    rintro n s3 ⟨i,ys,us,H3,I3,rv,hz,Qa,Qb,w3⟩;rcases turn i n ys H3 w3 with ⟨stop,qn⟩ | ⟨go,hlen,N,hN,step⟩
    · have d:=T.done X' eP eW eK ec i _ s3 _ H3 (fun _ _=>dZ) I3 (W7 Qb) Qa stop
      rw[eA] at d;refine mH d fun r s4 ⟨hr,I4⟩=>?_;subst hr;obtain⟨m,hn,_⟩:=id I4.loc;rw[eE] at hn;have pD:=I4.pin (s2.heap.objs.size,wH us) (by rw[Qr];simp);have fC:H3 HH.objs.size=none:=by have:=I4.free;rw[eE] at this;exact this
      have un:=I4.base;rw[eF,eX,eH,eS] at un;have nD:∀b o,s2.heap.get? b=some o->b≠s2.heap.objs.size:=fun b o e=>(below b (bL e)).2;have W9:H2 s2.heap.objs.size=none:=I2.hok.fresh (aH _);have leC:s2.heap.objs.size<=HH.objs.size:=by rw[hC];exact gg _
      refine fin s2.heap.objs.size HH.objs.size (upd H3 s2.heap.objs.size (.lst ys)) s4 (I2.OR (ch:=fp) ?_ ?_ ?_ I4.bare ?_)
        ⟨by rw[jW (c7 W1)];exact fC,c7 (below _ I2.lt).1,bR I2.sz leC,fun x c e=>?_,fun p hp=>(below _ (bL (I2.pin p hp).1)).1,⟨m,hn⟩⟩ (qn _ pD.2.1)
      · have:=I4.os;rw[eS] at this;exact this
      · refine⟨un.keep,un.slot,fun b o e n hx=>?_,un.there,fun b xs q=>?_,fun b o u q=>?_,fun b ps q=>?_⟩
        · rw[jW (nD b o e)];exact un.free b o e n hx
        · rw[jW (jX q W9)];exact un.tups b xs q
        · rw[jW (jX q W9)];exact un.frzs b o u q
        · rw[jW (jX q W9)];exact un.tbls b ps q
      · have hok:=I4.hok
        rw[eP,eW] at hok;intro b u e
        by_cases hb:b=s2.heap.objs.size
        · subst hb
          rw[jG] at e;cases e;exact⟨hz,us,us.length,rv,pD.1⟩
        · rw[jW hb] at e
          exact(hok b u e).By (fun c v P9 q=>q) (fun c q=>by rw[jW (jX q pD.2.1)];exact q) fun c xs q=>by rw[jW (jX q pD.2.1)];exact q
      · exact fun b hb=>⟨(f2 b hb).2.2.2.1,(f2 b hb).2.1,(f2 b hb).2.2.2.2.1,(f2 b hb).2.2.2.2.2⟩
      · obtain⟨v,q⟩:=I2.cell x c e
        exact(below c q.lt).1
    · have d:=T.item X' eP eW eK ec i _ s3 _ H3 (fun _ _=>dZ) I3 (W7 Qb) Qa go
      rw[eA] at d;refine mH d fun r s4 ⟨u,hr,h4⟩=>?_;subst hr;refine mH h4 fun _ s5 ⟨x,H5,I5,r5,y5,JZ,WK⟩=>?_;have WL:=I5.pinned (W7 WK) (T.obj _ _ JZ);have a6:=hg _ s5 _ H5 x u _ WL r5 (hl x _ H5 _ (step x H5 y5));rw[eP,eW,eA,eE,W8] at a6;refine mH a6 fun _ s6 ⟨NI,H6,I6,⟨kl,kj⟩,q6⟩=>?_;have a7:=ht _ s6 NI H6 _ I6 q6;rw[eP,eW,eA,eE,W8] at a7;refine mH a7 fun ok s7 ⟨H7,I7,q7⟩=>?_;have wk:∀{pl:List (Addr×Obj)}{H':Hp}{s':Shared},Inv X' pl NI H' s'->Inv X' [] (pO mL oH.length σ) H' s':=fun {pl H' s'} I' =>
        (I'.weak kl.symm fun j v e=>by
          by_cases hj:j<mL.length
          · rw[kj j hj];exact e
          · unfold pO at e
            rw[c9 (by simpa using hj),List.getElem?_replicate] at e;split at e<;>cases e).tY fun p hp=>(nomatch hp)
      have DX:∀{H':Hp}{s':Shared},Inv X' ([(s2.heap.objs.size,wH us)]++wM fp s5.heap) NI H' s'->(∀b∈fp,∀o,s5.heap.get? b=some o->s'.heap.get? b=some o/\H' b=none):=fun {H' s'} I' b hb o e=>by
        have z:=I'.pin (b,o) (by rw[Qr];exact bp _ (bp _ (sI hb e)));exact⟨z.1,z.2.1⟩
      cases ok with
      | false =>
        have q7':N ys H7:=q7;obtain⟨m',hm,w7⟩:=hN _ _ q7';have pD:=I7.pin (s2.heap.objs.size,wH us) (by rw[Qr];simp);refine⟨m',hm,i+1,ys,us,H7,?_,rv,hz,T.keep _ _ _ JZ fun b hb o e=>(DX I7 b hb o e).1,fun b hb=>?_,w7⟩
        · exact(wk I7).tY fun p hp=>by
            cases List.mem_singleton.mp hp;exact pD
        · obtain⟨o,e,_⟩:=T.obj _ _ JZ b hb
          exact(DX I7 b hb o e).2
      | true =>
        have a8:=he _ s7 NI H7 _ I7 q7;rw[eP,eW,eA,eE,W8] at a8;refine mH a8 fun uy s8 ⟨y,H8,I8,ry,q8⟩=>?_;obtain⟨m',hm,w8⟩:=hN _ _ q8;have pD:=I8.pin (s2.heap.objs.size,wH us) (by rw[Qr];simp);refine append_at (hsz:=by show us.toArray.size<=sizeLine;rw[cq,<-rv.length];exact hz) pD.1 fun h9 YR hD9=>?_;have fpD:∀b∈fp,b≠s2.heap.objs.size:=fun b hb=>(below b (DW b hb)).2;have I9:Inv X' [] (pO mL oH.length σ) H8 { s8 with heap:=h9 }:=(wk I8).turned (t':=s8.toks) (it:=s2.heap.objs.size) (fun b o hb e=>(YR.2 b hb).trans e) pD.2.1 pD.2.2.1 (.inr (by rw[eS];exact aH _))
          (fun x c e z=>by
            rw[eE] at e;exact absurd (W4 x c e) (by rw[z];exact d7 _)) (fun p hp=>by rw[Qr] at hp;exact(nomatch hp))
        refine⟨m',hm,i+1,ys++[y],us++[uy],H8,?_,rv.append (.cons ry .nil),by rw[aJ,dr];exact hlen,T.keep _ _ _ JZ fun b hb o e=>(YR.2 b (fpD b hb)).trans (DX I8 b hb o e).1,fun b hb=>?_,w8⟩
        · refine I9.tY fun p hp=>?_
          cases List.mem_singleton.mp hp;refine⟨?_,pD.2.1,pD.2.2.1,pD.2.2.2.1,fun v z=>?_⟩
          · show h9.get? _=some (wH (us++[uy]))
            rw[hD9];show some ({ cls:=.type "list",data:=.seq (us.toArray.push uy) (us.length+1) }:Obj)=some { cls:=.type "list",data:=.seq (us++[uy]).toArray (us++[uy]).length }
            rw[List.push_toArray,aJ,dr]
          · have z':Data.seq _ _=Data.cell v:=z
            cases z'
        · obtain⟨o,e,_⟩:=T.obj _ _ JZ b hb
          exact(DX I8 b hb o e).2
  exact codeAny_compStart_list loop (T.self _ 0 _ _ _ (T.keep _ _ _ KW fun b _ o e=>old b o e) loop)
theorem Aw {X:Cx}{elt iter tg:Expr}{scope:Scope}{pos:Pos}{wi:TI}
 (hc:X.calm=true)(hclos:closureFor scope X.env=pure cl)(qh:scope.kind=.function)
 (qL:∀x∈scope.names,x.2=.local->scope.names.lookup x.1=some .local)(qg:∀y∈scope.names,y.2≠.cell)
 (qY:∀y∈scope.names,y.2=.free->∃c,cl.lookup y.1=some c)
 (sf:∀x c,cl.lookup x=some c->X.env.cells.lookup x=some c)
 (wV:∀p∈mL,X.N[p.2]?=some p.1/\(X.env.kindOf p.1=some .cell\/X.env.kindOf p.1=some .free)/\((relabel scope X.env).names.lookup p.1=some .cell\/(relabel scope X.env).names.lookup p.1=some .free)/\∃c,cl.lookup p.1=some c)
 (hl:rG mL.length g)(hi:PI X tg iter wi)
 (hb:∀C s H fp,PG (kU X scope cl (mL.map (·.1)++oH) C s H fp) tg g/\Kw (kU X scope cl (mL.map (·.1)++oH) C s H fp) ifs tc/\PE (kU X scope cl (mL.map (·.1)++oH) C s H fp) elt te)
 (hs:∀x,foldedSetIterable iter X.env x=pure x:=by intro _;rfl) :
    PE X (.ListComp elt [⟨tg,iter,ifs,0⟩] scope pos) (AX mL oH.length wi g tc te):=by
  intro pins s σ H Q I h;rw[eval_ListComp];refine xH hc hclos qh qL qg qY sf wV hl hi hb hs I h fun D C H' s' I' f q=>?_;obtain⟨m,hn⟩:=f.ns;exact⟨m,hn,fun h' sb=>⟨.ref D,H',f.go I' sb,Z,q⟩⟩
theorem BN {X:Cx}{elt iter tg:Expr}{scope:Scope}{pos py HV:Pos}{y:Str}{i:Nat}{wi:TI}
 (hN:X.N.Nodup)(Xa:X.N[i]?=some y)(hy:Loc X.env.scope y)
 (hc:X.calm=true)(hclos:closureFor scope X.env=pure cl)(qh:scope.kind=.function)
 (qL:∀x∈scope.names,x.2=.local->scope.names.lookup x.1=some .local)(qg:∀y∈scope.names,y.2≠.cell)
 (qY:∀y∈scope.names,y.2=.free->∃c,cl.lookup y.1=some c)
 (sf:∀x c,cl.lookup x=some c->X.env.cells.lookup x=some c)
 (wV:∀p∈mL,X.N[p.2]?=some p.1/\(X.env.kindOf p.1=some .cell\/X.env.kindOf p.1=some .free)/\((relabel scope X.env).names.lookup p.1=some .cell\/(relabel scope X.env).names.lookup p.1=some .free)/\∃c,cl.lookup p.1=some c)
 (hl:rG mL.length g)(hi:PI X tg iter wi)
 (hb:∀C s H fp,PG (kU X scope cl (mL.map (·.1)++oH) C s H fp) tg g/\Kw (kU X scope cl (mL.map (·.1)++oH) C s H fp) ifs tc/\PE (kU X scope cl (mL.map (·.1)++oH) C s H fp) elt te)
 (hs:∀x,foldedSetIterable iter X.env x=pure x:=by intro _;rfl)
 (Xb:swapsWith (.ListComp elt [⟨tg,iter,ifs,0⟩] scope pos) (some (.Name y py)) HV.line X.env=pure true:=by rfl)
 (hf:X.fn y=true\/X.env.scope.names.lookup y=some .local:=by first | exact .inl Z | exact .inr Z | assumption) :
    PS X (.Assign [.Name y py] (.ListComp elt [⟨tg,iter,ifs,0⟩] scope pos) HV) (Gh (AX mL oH.length wi g tc te) (kZ i)):=by
  intro pins s σ H D I h;rw[exec_Assign_Name_used _ _ _ _ Xb];refine cB (iZ (cB ?_));show wpAny _ X.A (do let _ <-comprehension (.ListComp elt [⟨tg,iter,ifs,0⟩] scope pos) scope X.env _ (newList []) false (eval iter X.env) (some (assign (.Name y py) X.env))) _ _ s
  refine cB (ef (xH (use:=some (assign (.Name y py) X.env)) (Qp:=fun _ s'=>SP X pins D .next s') hc hclos qh qL qg qY sf wV hl hi hb hs I h fun D' C H' s' I' f q=>?_) (fun _ s' hq=>dI (dI hq)) fun _ _ e=>e);show wpAny _ X.A (assign (.Name y py) X.env (.ref D')) _ _ _
  refine wpAny_assign_Name (yf I' hN Xa hy (v:=.ref D') Z (fun Qc I'' ⟨a,sa,ha⟩=>?_) hf);obtain⟨m,hn⟩:=f.ns;have YS:C≠a:=by
    rcases ha with z | z
    · rw[z];exact f.loc
    · exact c7 (f.cel _ _ z)
  have f'':Fin X pins H' Qc C:=⟨f.none,f.loc,f.sz,f.cel,f.pin,⟨m,hn.sameBut sa YS⟩⟩;exact⟨m,hn.sameBut sa YS,fun h' sb=>⟨_,H',f''.go I'' sb,q⟩⟩
theorem oG {K:PySem.W.Frag}{a:Addr}{xs:List V}{kW:St}{H:Hp}{Q:VK}(Pv:Nat->List V->Hp->Prop)(h0:Pv 0 [] H)(hl:∀i ys H,i<=xs.length->Pv i ys H->jV K H a xs)(hz:∀i ys H,i<xs.length->Pv i ys H->ys.length<sizeLine)
 (hs:∀i x ys H,xs[i]?=some x->Pv i ys H->g x kW H fun mK H2=>tc mK H2 fun b H3=>if b=true then te mK H3 fun y H4=>Pv (i+1) (ys++[y]) H4 else Pv (i+1) ys H3)(hd:∀ys H,Pv xs.length ys H->∀D,H D=none->Q (.ref D) (upd H D (.lst ys))) :
    mS (JO K a) g tc te kW Q H:=by
  refine⟨fun i m ys H=>m=xs.length-i/\i<=xs.length/\Pv i ys H,⟨xs.length,jB,Nat.zero_le _,h0⟩,?_⟩;rintro i m ys H ⟨rfl,hi,p⟩;have q:=hl i ys H hi p
  by_cases pB:i<xs.length
  · refine .inr ⟨⟨xs,xs[i],q,by simp[pB]⟩,hz i ys H pB p,Pv (i+1),fun M5 H' p'=>⟨xs.length-(i+1),jD,Z,pB,p'⟩,fun x H' y=>?_⟩
    obtain⟨e,y⟩:=y;subst e;exact hs i x ys _ (y xs q) p
  · have e:i=xs.length:=jD
    subst e;exact .inl ⟨⟨xs,q,aH _⟩,hd ys H p⟩
theorem vR {lo:Int}{n:Nat}{kW:St}{H:Hp}{Q:VK}(Pv:Nat->List V->Hp->Prop)(h0:Pv 0 [] H)(hz:∀i ys H,i<n->Pv i ys H->ys.length<sizeLine)
 (hs:∀i ys H,i<n->Pv i ys H->g (.int (lo+i)) kW H fun mK H2=>tc mK H2 fun b H3=>if b=true then te mK H3 fun y H4=>Pv (i+1) (ys++[y]) H4 else Pv (i+1) ys H3)(hd:∀ys H,Pv n ys H->∀D,H D=none->Q (.ref D) (upd H D (.lst ys))) :
    mS (Ci lo n) g tc te kW Q H:=by
  refine⟨fun i m ys H=>m=n-i/\i<=n/\Pv i ys H,⟨n,jB,Nat.zero_le _,h0⟩,?_⟩;rintro i m ys H ⟨rfl,hi,p⟩
  by_cases pB:i<n
  · refine .inr ⟨pB,hz i ys H pB p,Pv (i+1),fun M5 H' p'=>⟨n-(i+1),jD,Z,pB,p'⟩,fun x H' y=>?_⟩
    obtain⟨e,y⟩:=y;subst e y;exact hs i ys _ pB p
  · have e:i=n:=jD
    subst e;exact .inl ⟨aH _,hd ys H p⟩
variable {a b:Int}
section
variable {X:Cx}
theorem ko:ux X (binaryOp .Mult) (rI IntMulOk fun i j=>.int (i*j)):=PF fun _ _ _ _ _ _ _ hc q=>mul_int q hc
def Gm (i j:Int):Prop:=0<j/\j.natAbs.log2<9000
theorem kq:ux X (binaryOp .FloorDiv) (rI Gm fun i j=>.int (i/j)):=PF fun i j _ _ _ _ _ hc q=>by
 have e:i/j=i.fdiv j:=(dY i (gU hc.1)).symm;rw[e] at q;exact floordiv_int (Int.ne_of_gt hc.1) q (.inl (PyProof.noPylong_of_log2 hc.2))
theorem mi:qO X (.builtin "isinstance") (fun xs H Q=>∃x T t b,xs=[x,.ty T]/\t8 X.K H x t/\PySem.W.kitOne X.K t (.type T)=some b/\Q (.bl b) H):=by
 intro pins s σ H xs us Q I r h;obtain⟨x,T,t,b,rfl,ty,e,q⟩:=h;obtain⟨u,w',rfl,rx,EF⟩:=vals2 r;have ew:w'=Value.type T:=EF;subst ew;exact EG I rx ty e fun tk=>⟨.bl b,H,I.tok tk,Z,q⟩
end
theorem lO:bootBuiltins "isinstance"=some (.builtin "isinstance"):=by decide +kernel
theorem sU:bootBuiltins "abs"=some (.builtin "abs"):=by decide +kernel
theorem GW:bootBuiltins "len"=some (.builtin "len"):=by decide +kernel
theorem Fs:bootBuiltins "sum"=some (.builtin "sum"):=by decide +kernel
theorem Mo:bootBuiltins "int"=some (.type "int"):=by decide +kernel
theorem IY:bootBuiltins "bool"=some (.type "bool"):=by decide +kernel
theorem pF:bootBuiltins "list"=some (.type "list"):=by decide +kernel
theorem tx:bootBuiltins "tuple"=some (.type "tuple"):=by decide +kernel
def Uo (t u:TS):TS:=fun D σ H=>∃M:St->Hp->Prop,t { D with nx:=M } σ H/\∀kW H',M kW H'->u D kW H'
theorem zB {X:Cx}{st:Stmt}{rest:List Stmt}{t u:TS}(h1:PS X st t)(h2:xK X rest u):xK X (st::rest) (Uo t u):=by
 intro pins s σ H D I h;obtain⟨M,ht,hu⟩:=h;refine ii (mH (h1 pins s σ H { D with nx:=M } I ht) fun f s1 q=>?_);cases f with
 | next =>
  obtain⟨kW,H',I',q⟩:=q;exact h2 pins s1 kW H' D I' (hu kW H' q)
 | ret v=>exact q
 | brk=>exact q
 | cont=>exact q
structure Df (P:Program)(w:World)(K:PySem.W.Frag)(mg:Str->Option Value)(base:Heap)(k:Nat)(x:Str)(ps:List Str)(sp:Sp):Prop where
 ex:∃(f:Addr)(fd:FuncData),re P w K mg base DL k f fd ps sp/\Binds K fd ps []/\PySem.W.keepIn K (.ref f)=true/\mg x=some (.ref f)
section
variable {X:Cx}{k:Nat}{x:Str}{ps:List Str}{sp:Sp}{e:Expr}{es:List Expr}{t:TA}{p pos:Pos}
theorem MR (D:Df X.prog X.w X.K X.mg X.base k x ps sp)(hr:nC k X.A)(hg:Gl X x)(ha:PA X (e::es) t)(ES:(x == ("__debug__":Str))=false:=by decide)
  (he:starEach (e::es) X.env=(false,eval e X.env)::starEach es X.env:=by rfl)(wU:(backTo pos (starEach es X.env)).any (·.1)=false:=by rfl) :
  PE X (.Call (.Name x p) (e::es) [] pos) (Gf sp [] E0 t):=by
 obtain⟨f,fd,F,hb,hk,hm⟩:=D.ex;exact JC F hr hg hm hk hb .nil GR ha ES he wU
end
structure Dn (K:PySem.W.Frag)(mg:Str->Option Value)(x:Str)(st:Stmt)(ps:List Str):Prop where
 ex:∃(f:Addr)(fd:FuncData),DF K x x st f fd/\Binds K fd ps []/\mg x=some (.ref f)
theorem Dn.ok {P:Program}{w:World}{K:PySem.W.Frag}{mg:Str->Option Value}{base:Heap}{x:Str}{st:Stmt}{N ps:List Str}{k:Nat}{sp:Sp}(D:Dn K mg x st ps)(S:jS N ps (jP st))(len:∀vs H Q E,sp vs H Q E->vs.length=ps.length)
  (hbody:∀(f:Addr)(cdv:Value)(A:Around)(outer:List Env)(s:Shared)(H:Hp)(vs:List V)(Q:VK)(E:XK),nC k (A.deeper (envOfC x (jP st) s.heap.objs.size f cdv))->sp vs H Q E ->
   ∃t,xK (xt DL P w K mg base N x (jP st) f cdv A outer s H E).EZ (kY st) t/\t { nx:=fun _ H'=>Q .non H',rt:=Q } (start N vs) H):Df P w K mg base (k+1) x ps sp:=by
 obtain⟨f,fd,F,b,m⟩:=D.ex;exact⟨f,fd,F.ok S len (fun cdv A outer s H vs Q E hr h=>hbody f cdv A outer s H vs Q E hr h),b,F.kp,m⟩
theorem n4 {K:PySem.W.Frag}(T:String):PySem.W.kitOne K (.type T) (.type T)=some true:=aC jB
theorem MC {K:PySem.W.Frag}:PySem.W.kitOne K (.type "int") (.type "bool")=some false:=by
 first
 | rfl
 | decide +kernel
 | (show (if (Value.type "int" == Value.type "bool")=true then some true else _)=_;rw[ak O];rfl)
 | (show (if (Value.type "int" == Value.type "bool")=true then some true else _)=_;rw[ak O];kernel_rfl)
theorem uK (h:decide (V.int a=V.int b)=true):a=b:=by
 have:=eT h;injection this
theorem wQ (h:¬decide (V.int a=V.int b)=true):¬a=b:=fun e=>h (by rw[e];simp)
theorem MA (h:(!decide (V.int a=V.int b))=true):¬a=b:=fun e=>by rw[e] at h;simp at h
theorem FJ (h:¬(!decide (V.int a=V.int b))=true):a=b:=by
 by_cases e:a=b
 .exact e
 .exact absurd (by simp[e]) h
theorem dec {p:Prop} [Decidable p] (h:decide p=true):p:=eT h
theorem xj {p:Prop} [Decidable p] (h:¬decide p=true):¬p:=fun e=>h (b9 e)
theorem ku {H H':Hp}{r:Addr}{o:HO}(h:jM H H')(n:H r=none):jM H (upd H' r o):=fun b u q=>by rw[jW (jX q n)];exact h b u q
theorem jK {H H':Hp}{r:Addr}{o:HO}(h:jM H H')(n:H' r=none):jM H (upd H' r o):=ku h (h.free n)
theorem mD {n:Nat}(h:n<=20000):n<sizeLine:=bZ h O
theorem mW {n:Nat}(h:n<=20000):n<=sizeLine:=d5 (mD h)
theorem kQ {α β:Type}{F:α->β->Prop}:∀{HL:List α}{HM:List β}{i:Nat}{a:α},Paired F HL HM->HL[i]?=some a->∃b,HM[i]?=some b/\F a b
 | _,_,0,_,.cons h _,e=>by cases e;exact⟨_,Z,h⟩
 | _,_,i+1,_,.cons _ t,e=>kQ (i:=i) t (by rw[dJ] at e;exact e)
theorem int_at {ms:List Int}{i:Nat}{x:V}(h:(ms.map V.int)[i]?=some x):∃v,x=.int v/\ms[i]?=some v:=by
 rw[af] at h;cases e:ms[i]? with
 | none=>rw[e] at h;cases h
 | some v=>rw[e] at h;cases h;exact⟨v,Z,Z⟩
theorem Mi {ns:List Int}{k:Int}(h0:0<=k)(h:k<(ns.length:Int)):∃v:Int,lY (ns.map V.int) k=some (.int v)/\ns[k.toNat]?=some v:=by
 have hk:k.toNat<ns.length:=jD;have ek:k=((k.toNat:Nat):Int):=jD;have q:lY (ns.map V.int) ((k.toNat:Nat):Int)=some (.int ns[k.toNat]):=lU (by rw[af,aA hk]<;>rfl);rw[<-ek] at q;exact⟨ns[k.toNat],q,aA hk⟩
theorem bits_le {m:Nat}(h:a.natAbs<2^m):Builtin.Int.intBits a<=m:=by
 unfold Builtin.Int.intBits;split
 .exact dH _
 .rename_i hz;have h0:a.natAbs≠0:=by
   intro z;apply hz;simpa using z
  have:=(g6 h0).mpr h;omega
theorem rR {m n:Nat}(ha:a.natAbs<2^m)(hb:b.natAbs<2^n)(h:m+n<=134217728):IntMulOk a b:=IntMulOk.of_le (bits_le ha) (bits_le hb) h
theorem nq (h1:-1000000000<=a)(h2:a<=1000000000):IntMulOk a b:=IntMulOk.of_left (fO jD jD)
theorem kK {i j:Int}(h0:0<j)(h:j<=1000000000):Gm i j:=by
 refine⟨h0,?_⟩;have hn:j.natAbs<2^30:=jD;have:=(g6 (show j.natAbs≠0 by omega)).mpr hn;omega
variable {K:PySem.W.Frag}{xs:List V}
section
variable {X:Cx}{pins:List (Addr×Obj)}{σ:St}{H:Hp}{s:Shared}{h':Heap}
theorem Inv.DH {t':Nat}{its:List Addr}(I:Inv X pins σ H s)(k:∀b o,b∉its->s.heap.get? b=some o->h'.get? b=some o)(hf:∀b∈its,yK X pins H b):Inv X pins σ H { s with heap:=h',toks:=t' }:=by
 have P7:∀b u,H b=some u->b∉its:=fun b u e z=>by rw[(hf b z).1] at e;cases e
 refine I.step (g':=s.gens) (d':=s.drawn) (ch:=its) (fun b hb=>?_) (fun b o _ _ hc e _=>k b o hc e) (fun b o _ _ hc e _=>⟨o.slots,k b o hc e⟩) (fun _ _ _ _ n=>n)
  (fun b o hc e=>⟨o,k b o hc e⟩) (fun _ _ e=>e) (fun _ _ _ e=>e) (fun b ps e=>⟨#[],by rw[e];simp⟩) (fun m hm=>?_) (fun b u e=>?_) I.bare
 .obtain⟨_,f1,_,f3,f4,f5⟩:=hf b hb;exact⟨f3,f1,f4,f5⟩
 .obtain⟨o,es,ep,ho,r⟩:=hm;exact⟨o,es,ep,k _ o (fun z=>(hf _ z).2.1 Z) ho,r⟩
 .refine(I.hok b u e).By (fun c v hc q=>k c v ?_ q) (fun _ q=>q) fun _ _ q=>q;rcases hc with z | z
  .rw[z];exact P7 b u e
  .exact P7 c _ z
theorem Inv.Du {t':Nat}{its:List Addr}{xs:List V}{us:List Value}(I:Inv X pins σ H s)(k:∀b o,b∉its->s.heap.get? b=some o->h'.get? b=some o)(hf:∀b∈its,yK X pins H b)(pB:∀b∈its,b<s.heap.objs.size)
  (ht:h'.get? s.heap.objs.size=some { cls:=.type "tuple",data:=.seq us.toArray })(hz:xs.length<=sizeLine)(r:Vals xs us) :
  Inv X pins σ (upd H s.heap.objs.size (.tup xs)) { s with heap:=h',toks:=t' }/\∀b∈its,upd H s.heap.objs.size (.tup xs) b=none:=by
 have nf:∀b∈its,upd H s.heap.objs.size (.tup xs) b=none:=fun b hb=>by rw[jW (cF (pB b hb))];exact(hf b hb).1
 refine⟨?_,nf⟩;have I1:Inv X pins σ (upd H s.heap.objs.size (.tup xs)) { s with heap:=s.heap.push { cls:=.type "tuple",data:=.seq us.toArray },toks:=s.toks } :=
  I.laid (t':=s.toks) (fun b u e=>aP _ e) (aH _) ⟨hz,us,r,⟨_,bX _ Z,Z,_,Z⟩⟩
 have I2:=I1.DH (h':=h') (t':=t') (its:=its) (fun b o hb e=>?_) (fun b hb=>⟨nf b hb,(hf b hb).2⟩)
 .exact I2
 .have e':(s.heap.push { cls:=.type "tuple",data:=.seq us.toArray }).get? b=some o:=e;have NL:b<s.heap.objs.size+1:=by have:=bL e';rw[gT] at this;exact this
  rcases Nat.lt_or_ge b s.heap.objs.size with z | z
  .cases q:s.heap.get? b with
   | none =>
    exact absurd e' (by
     intro YT;have:(s.heap.push { cls:=.type "tuple",data:=.seq us.toArray }).get? b=s.heap.get? b:=by
      first | exact Heap.get?_push_lt _ z | exact Heap.get?_push_of_lt _ z | (simp[Heap.get?,Heap.push,Array.getElem?_push,Nat.ne_of_lt z])
     rw[this,q] at YT;cases YT)
   | some o' =>
    have:=aP { cls:=.type "tuple",data:=.seq us.toArray } q;rw[e'] at this;cases this;exact k b o hb q
  .have eb:b=s.heap.objs.size:=Nat.le_antisymm (Nat.le_of_lt_succ NL) z;subst eb;rw[bX _ Z] at e';rw[ht];exact e'
end
def ME (K:PySem.W.Frag)(a:Addr):It :=
 ⟨fun i H=>∃xs x,jV K H a xs/\xs[i]?=some x,fun i H v H'=>∃p x,v=.ref p/\H p=none/\(∀xs,jV K H a xs->xs[i]?=some x)/\H'=upd H p (.tup [.int i,x]),fun i H=>∃xs,jV K H a xs/\xs.length<=i⟩
theorem D6 {P:Program}{w:World}{elts:List Expr}{x1}{pos:Pos}(a e it:Addr)(YU:e≠it):Turn P w K (.Tuple elts x1 pos) (ME K a) [e,it] e (fun i h=>∃old,IsEnum h e it ((i:Nat):Int) old/\h.IsListIter it a i) where
 mem:=by simp
 obj:=fun i h st b hb=>by
  obtain⟨old,he,o,e1,c,d⟩:=st;rcases List.mem_cons.mp hb with z | z
  .subst z;exact⟨_,he,fun v z=>by
    have z':Data.fields _=Data.cell v:=z;cases z'⟩
  .have z':b=it:=by simpa using z
   subst z';exact⟨o,e1,fun v z=>by rw[d] at z;cases z⟩
 keep:=fun i h h' st k=>by
  obtain⟨old,he,st⟩:=st;exact⟨old,k e jB _ he,st.at fun o e'=>k it jB o e'⟩
 item:=by
  intro X hP hw hK hc i pins s σ H E I hf st hg;subst hP hw hK;obtain⟨old,he,st⟩:=st;obtain⟨xs,x,hq,hx⟩:=hg;obtain⟨its,rv,p,hz⟩:=I.list hq;obtain⟨u,hu,ru⟩:=rv.get hx;have YV:e<s.heap.objs.size:=bL he;have YW:it<s.heap.objs.size:=by obtain⟨o,e1,_⟩:=st;exact Heap.lt_size e1
  refine wpAny_pyNext_enum_item he st p.isList (x:=u) (by simpa using hu) YU fun h1 eo st1 ht1 hz1 hk1=>?_;refine⟨_,Z,wpAny_letOwnedTupleGo_enum eo fun h2 NN hs2=>?_⟩
  replace hs2:Heap.SameBut e h1 h2:=hs2
  have nm:∀b,b∉[e,it]->b≠e/\b≠it:=fun b hb=>⟨fun z=>hb (by simp[z]),fun z=>hb (by simp[z])⟩;have IT:=I.Du (t':=s.toks+1) (h':=h2) (its:=[e,it]) (xs:=[.int ((i:Nat):Int),x]) (us:=[.int i s.toks,u]) (fun b o hb q=>hs2.extBut b o (nm b hb).1 (hk1 b o (nm b hb).1 (nm b hb).2 q)) hf
   (fun b hb=>by
    rcases List.mem_cons.mp hb with z | z
    .rw[z];exact YV
    .have z':b=it:=by simpa using z
     rw[z'];exact YW)
   (hs2.extBut _ _ (iy YV) ht1) jI (.cons ⟨_,Z⟩ (.cons ru .nil))
  refine⟨.ref s.heap.objs.size,_,IT.1,Z,⟨_,x,Z,I.hok.fresh (aH _),fun ys hy=>by rw[I.sZ hy hq];exact hx,Z⟩,⟨u,?_,st1.extBut hs2.extBut (c7 YU)⟩,IT.2⟩;have:((i+1:Nat):Int)=(i:Int)+1:=by push_cast;rfl
  rw[this];exact NN
 done:=by
  intro X hP hw hK hc i pins s σ H E I hf st hg;subst hP hw hK;obtain⟨old,he,st⟩:=st;obtain⟨xs,hq,hx⟩:=hg;obtain⟨its,rv,p,hz⟩:=I.list hq;have hl:=rv.length;obtain⟨f0,f1,f2,f3,f4,f5⟩:=hf it jB;exact wpAny_pyNext_enum_end (I.ok.hd hc) he st p.isList (by simp;lia) fun h' eb=>⟨Z,I.turned (t':=s.toks) (fun b o hb e=>eb b o hb e) f0 f1 f3 f4 f5⟩
 self:=fun A i s Q E st h=>by
  obtain⟨old,he,st⟩:=st;exact wpAny_pyIter_enum he h
section
variable {X:Cx}
def PV (K:PySem.W.Frag)(ta:TA):TI:=fun σ H R=>ta σ H fun vs H1=>∃a,vs=[.ref a]/\(∃xs,jV K H1 a xs)/\R (ME K a) H1
theorem oy {elts:List Expr}{x1}{pos':Pos}{a:Expr}{ta:TA}{p pos:Pos}(hg:Gl X "enumerate")(hm:X.mg "enumerate"=none)(ha:PA X [a] ta)(hs:starEach [a] X.env=[(false,eval a X.env)]:=by rfl):PI X (.Tuple elts x1 pos') (.Call (.Name "enumerate" p) [a] [] pos) (PV X.K ta):=by
 intro pins s σ H R I h;refine Call_ (pT I hg hm boot_enumerate (cy (mH (ha pos pins s σ H _ I h) fun us s1 ⟨vs,H1,I1,r1,q1⟩=>?_) hs Z));obtain⟨a,e,⟨xs,hq⟩,q⟩:=q1;subst e;cases r1 with
 | cons r rr =>
  cases rr;cases r;obtain⟨its,rv,p,hz⟩:=I1.list hq;refine call_enumerate_list p.isList fun h' he hit hz hk=>?_;have I2:Inv X pins σ H1 { s1 with heap:=h' }:=I1.kept (t':=s1.toks) hk;refine wpAny_pyIter_enum he ?_;refine⟨_,[s1.heap.objs.size+1,s1.heap.objs.size],_,_,H1,Z,I2,D6 a _ _ (Nat.succ_ne_self _),⟨.none,he,hit⟩,fun b hb=>?_,q⟩;rcases List.mem_cons.mp hb with z | z
  .subst z;exact I1.Cy (gg _) (I1.hok.fresh (gg _))
  .have z':b=s1.heap.objs.size:=by simpa using z
   subst z';exact I1.Cy (aH _) (I1.hok.fresh (aH _))
end
def Ko (K:PySem.W.Frag)(a b:Addr):It :=
  ⟨fun i H=>∃xs ys x y,jV K H a xs/\jV K H b ys/\xs[i]?=some x/\ys[i]?=some y,fun i H v H'=>∃p x y,v=.ref p/\H p=none/\(∀xs,jV K H a xs->xs[i]?=some x)/\(∀ys,jV K H b ys->ys[i]?=some y)/\H'=upd H p (.tup [x,y]),
   fun i H=>∃xs ys,jV K H a xs/\jV K H b ys/\(xs.length<=i\/ys.length<=i)⟩
theorem Fo {P:Program}{w:World}{elts:List Expr}{x1}{pos:Pos}(a b z TI TO i1 i2:Addr)(D:ZipApart z TI TO i1 i2 a b):Turn P w K (.Tuple elts x1 pos) (Ko K a b) [z,TI,TO,i1,i2] z
  (fun i h=>IsZip h z TI TO .none/\IsPair h TI (.ref i1) (.ref i2)/\(∃u v,IsPair h TO u v)/\h.IsListIter i1 a i/\h.IsListIter i2 b i) where
 mem:=by simp
 obj:=fun i h st c hc=>by
  obtain⟨hz,h1,⟨u,v,h2⟩,⟨o1,e1,c1,d1⟩,⟨o2,e2,c2,d2⟩⟩:=st;simp only[List.mem_cons,List.not_mem_nil,or_false] at hc;rcases hc with rfl | rfl | rfl | rfl | rfl
  .exact⟨_,hz,fun v q=>by
    have q':Data.fields _=Data.cell v:=q;cases q'⟩
  .exact⟨_,h1,fun v q=>by
    have q':Data.seq _ _=Data.cell v:=q;cases q'⟩
  .exact⟨_,h2,fun v q=>by
    have q':Data.seq _ _=Data.cell v:=q;cases q'⟩
  .exact⟨o1,e1,fun v q=>by rw[d1] at q;cases q⟩
  .exact⟨o2,e2,fun v q=>by rw[d2] at q;cases q⟩
 keep:=fun i h h' st k=>by
  obtain⟨hz,h1,⟨u,v,h2⟩,s1,s2⟩:=st;exact⟨k z jB _ hz,k TI jB _ h1,⟨u,v,k TO jB _ h2⟩,s1.at fun o e=>k i1 jB o e,s2.at fun o e=>k i2 jB o e⟩
 item:=by
  intro X hP hw hK hc i pins s σ H E I hf st hg;subst hP hw hK;obtain⟨hz,h1,⟨u0,v0,h2⟩,s1,s2⟩:=st;obtain⟨xs,ys,x,y,hq,Bc,hx,hy⟩:=hg;obtain⟨its,rv,p,hzl⟩:=I.list hq;obtain⟨its',RL,p',Xc⟩:=I.list Bc;obtain⟨u,hu,ru⟩:=rv.get hx;obtain⟨u',Xd,ru'⟩:=RL.get hy;have ltz:z<s.heap.objs.size:=bL hz;have lt1:TI<s.heap.objs.size:=bL h1;have YX:TO<s.heap.objs.size:=bL h2;have YW:i1<s.heap.objs.size:=by obtain⟨o,e1,_⟩:=s1;exact Heap.lt_size e1
  have ltj:i2<s.heap.objs.size:=by obtain⟨o,e1,_⟩:=s2;exact Heap.lt_size e1
  refine wpAny_pyNext_zip_item D hz h1 h2 s1 s2 p.isList p'.isList (x:=u) (y:=u') (by simpa using hu) (by simpa using Xd) fun g1 a1 a2 a3 a4 a5 a6 hk=>?_;refine⟨_,Z,wpAny_letOwnedTupleGo_zip a1 fun g2 NN hs2=>?_⟩
  replace hs2:Heap.SameBut z g1 g2:=hs2
  have nm:∀b,b∉[z,TI,TO,i1,i2]->b≠z/\b≠TO/\b≠i1/\b≠i2:=fun b hb=>⟨fun q=>hb (by simp[q]),fun q=>hb (by simp[q]),fun q=>hb (by simp[q]),fun q=>hb (by simp[q])⟩;have IT:=I.Du (t':=s.toks) (h':=g2) (its:=[z,TI,TO,i1,i2]) (xs:=[x,y]) (us:=[u,u']) (fun b o hb q=>hs2.extBut b o (nm b hb).1 (hk b o (nm b hb).1 (nm b hb).2.1 (nm b hb).2.2.1 (nm b hb).2.2.2 q)) hf
   (fun b hb=>by
    simp only[List.mem_cons,List.not_mem_nil,or_false] at hb;rcases hb with rfl | rfl | rfl | rfl | rfl<;>assumption)
   (hs2.extBut _ _ (iy ltz) a5) jI (.cons ru (.cons ru' .nil))
  exact⟨.ref s.heap.objs.size,_,IT.1,Z,⟨_,x,y,Z,I.hok.fresh (aH _),fun ys CD=>by rw[I.sZ CD hq];exact hx,fun ys CD=>by rw[I.sZ CD Bc];exact hy,Z⟩,
   ⟨NN,hs2.extBut _ _ D.TIz (hk _ _ D.TIz D.TITO D.TIi1 D.TIi2 h1),⟨_,_,hs2.extBut _ _ D.TOz a2⟩,a3.extBut hs2.extBut D.i1z,a4.extBut hs2.extBut D.i2z⟩,IT.2⟩
 done:=by
  intro X hP hw hK hc i pins s σ H E I hf st hg;subst hP hw hK;obtain⟨hz,h1,⟨u0,v0,h2⟩,s1,s2⟩:=st;obtain⟨xs,ys,hq,Bc,hx⟩:=hg;obtain⟨its,rv,p,hzl⟩:=I.list hq;obtain⟨its',RL,p',Xc⟩:=I.list Bc;have hl:=rv.length;have hl':=RL.length;refine wpAny_pyNext_zip_end (I.ok.hd hc) D hz h1 h2 s1 s2 p.isList p'.isList (by rcases hx with q | q;exact .inl (by simp;lia);exact .inr (by simp;lia)) fun h' hk=>⟨rfl,I.DH (t':=s.toks) (its:=[z,TI,TO,i1,i2]) (fun b o hb e=>hk b o ?_ ?_ ?_ ?_ e) hf⟩
  .exact fun q=>hb (by simp[q])
  .exact fun q=>hb (by simp[q])
  .exact fun q=>hb (by simp[q])
  .exact fun q=>hb (by simp[q])
 self:=fun A i s Q E st h=>wpAny_pyIter_zip st.1 h
section
variable {X:Cx}
def Va (K:PySem.W.Frag)(ta:TA):TI:=fun σ H R=>ta σ H fun vs H1=>∃a b,vs=[.ref a,.ref b]/\(∃xs,jV K H1 a xs)/\(∃ys,jV K H1 b ys)/\R (Ko K a b) H1
theorem nF {elts:List Expr}{x1}{pos':Pos}{a b:Expr}{ta:TA}{p pos:Pos}(hg:Gl X "zip")(hm:X.mg "zip"=none)(ha:PA X [a,b] ta)(hs:starEach [a,b] X.env=[(false,eval a X.env),(false,eval b X.env)]:=by rfl)(hs2:starEach [b] X.env=[(false,eval b X.env)]:=by rfl) :
  PI X (.Tuple elts x1 pos') (.Call (.Name "zip" p) [a,b] [] pos) (Va X.K ta):=by
 intro pins s σ H R I h;refine Call_ (pT I hg hm boot_zip (cy (mH (ha pos pins s σ H _ I h) fun us s1 ⟨vs,H1,I1,r1,q1⟩=>?_) (by rw[hs,hs2]) (by rw[hs2];rfl)));obtain⟨a,b,e,⟨xs,hq⟩,⟨ys,Bc⟩,q⟩:=q1;subst e;cases r1 with
 | cons r rr =>
  cases rr with
  | cons r' rr =>
   cases rr;cases r;cases r';obtain⟨its,rv,p,hz⟩:=I1.list hq;obtain⟨its',RL,p',hz'⟩:=I1.list Bc;have la:a<s1.heap.objs.size:=by obtain⟨o,e1,_⟩:=p.isList;exact Heap.lt_size e1
   have lb:b<s1.heap.objs.size:=by obtain⟨o,e1,_⟩:=p'.isList;exact Heap.lt_size e1
   refine call_zip_2 p.isList p'.isList fun h' hz hTI hTO hi1 hi2 hsz hk=>?_;have I2:Inv X pins σ H1 { s1 with heap:=h' }:=I1.kept (t':=s1.toks) hk;refine wpAny_pyIter_zip hz ?_;refine⟨_,_,_,_,H1,Z,I2,Fo a b _ _ _ _ _ (zipApart_new la lb),⟨hz,hTI,⟨_,_,hTO⟩,hi1,hi2⟩,fun c hc=>?_,q⟩;simp only[List.mem_cons,List.not_mem_nil,or_false] at hc;rcases hc with rfl | rfl | rfl | rfl | rfl<;>exact I1.Cy J (I1.hok.fresh J)
end
theorem oK {a:Addr}{g:TG}{tb:TS}{D:Ends}{σ:St}{H:Hp}(Pv:Nat->St->Hp->Prop)(h0:Pv 0 σ H)(hl:∀i σ H,i<=xs.length->Pv i σ H->jV K H a xs)
 (hs:∀i x σ H p,xs[i]?=some x->Pv i σ H->H p=none->g (.ref p) σ (upd H p (.tup [.int i,x])) fun mK H2=>tb { D with nx:=Pv (i+1),ct:=Pv (i+1),bk:=D.nx } mK H2)(hd:∀σ H,Pv xs.length σ H->D.nx σ H) :
    ∃W:Nat->Nat->St->Hp->Prop,(∃m,W 0 m σ H)/\∀i m σ H,W i m σ H ->
      ((ME K a).stop i H/\D.nx σ H)\/((ME K a).go i H/\∃N:St->Hp->Prop,(∀kW H',N kW H'->∃m',m'<m/\W (i+1) m' kW H')/\∀x H',(ME K a).yld i H x H'->g x σ H' fun mK H2=>tb { D with nx:=N,ct:=N,bk:=D.nx } mK H2):=by
  refine⟨fun i m σ H=>m=xs.length-i/\i<=xs.length/\Pv i σ H,⟨xs.length,jB,Nat.zero_le _,h0⟩,?_⟩;rintro i m σ H ⟨rfl,hi,p⟩;have q:=hl i σ H hi p
  by_cases pB:i<xs.length
  · refine .inr ⟨⟨xs,xs[i],q,by simp[pB]⟩,Pv (i+1),fun kW H' p'=>⟨xs.length-(i+1),J,Z,pB,p'⟩,fun x H' y=>?_⟩
    obtain⟨r,y,rfl,hr,hy,rfl⟩:=y;exact hs i y σ _ r (hy xs q) p hr
  · have e:i=xs.length:=J
    subst e;exact .inl ⟨⟨xs,q,aH _⟩,hd σ H p⟩
theorem xN {a:Addr}{g:TG}{tc:TT}{te:TE}{kW:St}{H:Hp}{Q:VK}(Pv:Nat->List V->Hp->Prop)(h0:Pv 0 [] H)(hl:∀i ys H,i<=xs.length->Pv i ys H->jV K H a xs)(hz:∀i ys H,i<xs.length->Pv i ys H->ys.length<sizeLine)
 (hs:∀i x ys H p,xs[i]?=some x->Pv i ys H->H p=none->g (.ref p) kW (upd H p (.tup [.int i,x])) fun mK H2=>tc mK H2 fun b H3=>if b=true then te mK H3 fun y H4=>Pv (i+1) (ys++[y]) H4 else Pv (i+1) ys H3)(hd:∀ys H,Pv xs.length ys H->∀D,H D=none->Q (.ref D) (upd H D (.lst ys))) :
    mS (ME K a) g tc te kW Q H:=by
  refine⟨fun i m ys H=>m=xs.length-i/\i<=xs.length/\Pv i ys H,⟨xs.length,jB,Nat.zero_le _,h0⟩,?_⟩;rintro i m ys H ⟨rfl,hi,p⟩;have q:=hl i ys H hi p
  by_cases pB:i<xs.length
  · refine .inr ⟨⟨xs,xs[i],q,by simp[pB]⟩,hz i ys H pB p,Pv (i+1),fun M5 H' p'=>⟨xs.length-(i+1),J,Z,pB,p'⟩,fun x H' y=>?_⟩
    obtain⟨r,y,rfl,hr,hy,rfl⟩:=y;exact hs i y ys _ r (hy xs q) p hr
  · have e:i=xs.length:=J
    subst e;exact .inl ⟨⟨xs,q,aH _⟩,hd ys H p⟩
theorem vV {a b:Addr}{ys:List V}{g:TG}{tc:TT}{te:TE}{kW:St}{H:Hp}{Q:VK}(hlen:xs.length=ys.length)(Pv:Nat->List V->Hp->Prop)(h0:Pv 0 [] H)(hl:∀i rs H,i<=xs.length->Pv i rs H->jV K H a xs/\jV K H b ys)(hz:∀i rs H,i<xs.length->Pv i rs H->rs.length<sizeLine)
 (hs:∀i x y rs H p,xs[i]?=some x->ys[i]?=some y->Pv i rs H->H p=none->g (.ref p) kW (upd H p (.tup [x,y])) fun mK H2=>tc mK H2 fun b H3=>if b=true then te mK H3 fun y H4=>Pv (i+1) (rs++[y]) H4 else Pv (i+1) rs H3)(hd:∀rs H,Pv xs.length rs H->∀D,H D=none->Q (.ref D) (upd H D (.lst rs))) :
    mS (Ko K a b) g tc te kW Q H:=by
  refine⟨fun i m rs H=>m=xs.length-i/\i<=xs.length/\Pv i rs H,⟨xs.length,jB,Nat.zero_le _,h0⟩,?_⟩;rintro i m rs H ⟨rfl,hi,p⟩;have q:=hl i rs H hi p
  by_cases pB:i<xs.length
  · refine .inr ⟨⟨xs,ys,xs[i],ys[i],q.1,q.2,by simp[pB],jB⟩,hz i rs H pB p,Pv (i+1),fun M5 H' p'=>⟨xs.length-(i+1),J,Z,pB,p'⟩,fun x H' y=>?_⟩
    obtain⟨r,x,y,rfl,hr,hx,hy,rfl⟩:=y;exact hs i x y rs _ r (hx xs q.1) (hy ys q.2) p hr
  · have e:i=xs.length:=J
    subst e;exact .inl ⟨⟨xs,ys,q.1,q.2,.inl (aH _)⟩,hd rs H p⟩
theorem uQ {n i j:Nat}(h:n<=i)(h':n<=j):rG n (IM K 2 (uS (kZ i) (uS (kZ j) ID))):=by
 rintro x σ H Q ⟨a,xs,rfl,hq,hl,v,r,rfl,v',r',rfl,rfl,q⟩;exact⟨a,_,Z,hq,hl,v,_,Z,v',_,Z,Z,⟨jB,fun k hk=>by rw[List.getElem?_set_ne J,List.getElem?_set_ne J]⟩,q⟩
theorem yz:bootBuiltins "all"=some (.builtin "all"):=by decide +kernel
theorem FN:bootBuiltins "min"=some (.builtin "min"):=by decide +kernel
theorem GD:bootBuiltins "max"=some (.builtin "max"):=by decide +kernel
variable {K:PySem.W.Frag}{ns:List Int}
open PySem PySem.Spec PyProof.Rows PySem.SeqAt
mutual
inductive Eo (K:PySem.W.Frag)(H:Hp):V->PyData->Prop
 | non:Eo K H .non .none
 | bl (b:Bool):Eo K H (.bl b) (.bool b)
 | int (i:Int):Eo K H (.int i) (.int i)
 | str (x:Str):Eo K H (.str x) (.str x)
 | lst {a:Addr}{xs:List V}{ds:List PyData}:jV K H a xs->y6 K H xs ds->Eo K H (.ref a) (.list ds)
 | tup {a:Addr}{xs:List V}{ds:List PyData}:kJ K H a xs->y6 K H xs ds->Eo K H (.ref a) (.tuple ds)
inductive y6 (K:PySem.W.Frag)(H:Hp):List V->List PyData->Prop
 | nil:y6 K H [] []
 | cons {x:V}{d:PyData}{xs:List V}{ds:List PyData}:Eo K H x d->y6 K H xs ds->y6 K H (x::xs) (d::ds)
end
section
variable {X:Cx}{pins:List (Addr×Obj)}{σ:St}{H:Hp}{s:Shared}
mutual
theorem rD (I:Inv X pins σ H s):∀{x:V}{d:PyData}{u:Value},Eo X.K H x d->RelV x u->∃as,Reads s.heap u d as
 | _,_,_,.non,r=>by cases r;exact⟨_,.none⟩
 | _,_,_,.bl b,r=>by cases r;exact⟨_,.bool b⟩
 | _,_,_,.int i,⟨t,e⟩=>by subst e;exact⟨_,.int i t⟩
 | _,_,_,.str y,⟨t,e⟩=>by subst e;exact⟨_,.str y t⟩
 | _,_,_,.lst h hs,r=>by
  cases r;obtain⟨its,rv,pl,_⟩:=I.list h;obtain⟨as,ra⟩:=rC I hs rv;obtain⟨o,ho,hc,n,hd⟩:=pl.isList;exact⟨_,.list ho hc hd ra⟩
 | _,_,_,.tup h hs,r=>by
  cases r;obtain⟨its,rv,pl,_⟩:=I.tuple h;obtain⟨as,ra⟩:=rC I hs rv;obtain⟨o,ho,hc,n,hd⟩:=pl;exact⟨_,.tuple ho hc hd ra⟩
theorem rC (I:Inv X pins σ H s):∀{xs:List V}{ds:List PyData}{us:List Value},y6 X.K H xs ds->Vals xs us->∃as,ReadsAll s.heap us ds as
 | _,_,_,.nil,.nil=>⟨_,.nil⟩
 | _,_,_,.cons h t,.cons r rs=>by
  obtain⟨as,ra⟩:=rD I h r;obtain⟨bs,rb⟩:=rC I t rs;exact⟨_,.cons ra rb⟩
end
end
def Ol (K:PySem.W.Frag):R2:=fun x y H Q=>∃d e,Eo K H x d/\Eo K H y e/\shaped d=true/\shaped e=true/\noMix d e=true/\Q (.bl (same d e)) H
def FW (K:PySem.W.Frag):R2:=fun x y H Q=>∃d e,Eo K H x d/\Eo K H y e/\shaped d=true/\shaped e=true/\noMix d e=true/\Q (.bl (!same d e)) H
theorem D4 {A:Around}{k:Nat}(hr:nC k A):A.units+64<cLine:=by have:=hr.un;lia
section
variable {X:Cx}
theorem FZ (hu:X.A.units+64<cLine):ux X (compareOp .Eq) (Ol X.K):=by
 intro pins s σ H x y v u Q I rx ry h;obtain⟨d,e,h1,h2,s1,s2,nm,q⟩:=h;obtain⟨as,ra⟩:=rD I h1 rx;obtain⟨bs,rb⟩:=rD I h2 ry;exact eq_dataH_same ra rb s1 s2 hu nm ⟨.bl _,H,I,Z,q⟩
theorem zg (hu:X.A.units+64<cLine):ux X (compareOp .NotEq) (FW X.K):=by
 intro pins s σ H x y v u Q I rx ry h;obtain⟨d,e,h1,h2,s1,s2,nm,q⟩:=h;obtain⟨as,ra⟩:=rD I h1 rx;obtain⟨bs,rb⟩:=rD I h2 ry;exact ne_dataH_same ra rb s1 s2 hu nm ⟨.bl _,H,I,Z,q⟩
end
theorem C2 {K:PySem.W.Frag}{H:Hp}:∀ns:List Int,y6 K H (ns.map V.int) (ns.map PyData.int)
 | []=>.nil
 | n::r=>.cons (.int n) (C2 r)
theorem vC {H:Hp}{a:Addr}(h:jV K H a (ns.map V.int)):Eo K H (.ref a) (.list (ns.map PyData.int)):=.lst h (C2 ns)
theorem wB (ns ms:List Int):noMix (.list (ns.map PyData.int)) (.list (ms.map PyData.int))=true:=by simp only[noMix];exact PySem.W.noMix_ints ns ms
theorem sO (ns ms:List Int):same (.list (ns.map PyData.int)) (.list (ms.map PyData.int))=decide (ns=ms):=by simp only[same];exact PySem.W.same_ints ns ms
theorem GB {H:Hp}{a b:Addr}{ms:List Int}{Q:VK}(h1:jV K H a (ns.map V.int))(h2:jV K H b (ms.map V.int))(q:Q (.bl (!decide (ns=ms))) H):FW K (.ref a) (.ref b) H Q :=
 ⟨_,_,vC h1,vC h2,fZ ns,fZ ms,wB ns ms,by rw[sO];exact q⟩
theorem F9 {H:Hp}{a b:Addr}{ms:List Int}{Q:VK}(h1:jV K H a (ns.map V.int))(h2:jV K H b (ms.map V.int))(q:Q (.bl (decide (ns=ms))) H):Ol K (.ref a) (.ref b) H Q :=
 ⟨_,_,vC h1,vC h2,fZ ns,fZ ms,wB ns ms,by rw[sO];exact q⟩
theorem xT:∀{ns:List Int}{its:List Value},Vals (ns.map V.int) its->∃ts:List (Int×Tok),its=ts.map (fun p=>Value.int p.1 p.2)/\ts.map (·.1)=ns
 | [],_,.nil=>⟨[],Z,Z⟩
 | n::r,_,.cons ⟨t,e⟩ rs=>by
  obtain⟨ts,e1,e2⟩:=xT rs;subst e;exact⟨(n,t)::ts,by rw[e1];rfl,by rw[<-e2];rfl⟩
section
variable {X:Cx}
theorem xM (hc:X.calm=true):qO X (.builtin "sum") (fun xs H Q=>∃(a:Addr)(ns:List Int),xs=[.ref a]/\jV X.K H a (ns.map V.int)/\Q (.int ns.sum) H):=by
 intro pins s σ H xs us Q I r h;obtain⟨a,ns,rfl,hl,q⟩:=h;obtain⟨u,rfl,ru⟩:=vals1 r;cases ru;obtain⟨its,rv,pl,_⟩:=I.list hl;obtain⟨ts,e1,e2⟩:=xT rv;have hi:s.heap.IsList a (intItems ts.toArray):=by
  have e:intItems ts.toArray=its.toArray:=by rw[e1];simp[intItems]
  rw[e];exact pl.isList
 refine sum_intListG (I.ok.hd hc) hi fun h' tk t' hk=>⟨.int ns.sum,H,I.kept (t':=tk) hk,⟨t',?_⟩,q⟩;rw[preSum_eq,iC jB,<-e2]
end
end L2
namespace Ld
variable {n:Nat}{a b:List Int}
def S:Nat->(Int->Int)->Int
 | 0,_=>0
 | n+1,F=>S n F+F n
theorem jO {F G:Int->Int}:∀{n:Nat},(∀j:Nat,j<n->F j=G j)->S n F=S n G
 | 0,_=>rfl
 | n+1,h=>by simp only[S];rw[jO fun j hj=>h j jD,h n jD]
theorem mQ:∀n:Nat,S n (fun _=>0)=0
 | 0=>rfl
 | n+1=>by simp only[S];rw[mQ n];rfl
theorem mj (F G:Int->Int):∀n:Nat,S n (fun j=>F j+G j)=S n F+S n G
 | 0=>rfl
 | n+1=>by simp only[S];rw[mj F G n];omega
theorem kg (c:Int)(F:Int->Int):∀n:Nat,S n (fun j=>c*F j)=c*S n F
 | 0=>by simp[S]
 | n+1=>by simp only[S];rw[kg c F n,Int.mul_add]
theorem qo (c:Int)(F:Int->Int)(n:Nat):S n (fun j=>F j*c)=S n F*c:=by
 rw[aB,<-kg];exact jO fun j _=>aB _ _
theorem mP (F:Int->Int->Int)(m:Nat):∀n:Nat,S n (fun j=>S m (fun k=>F j k))=S m (fun k=>S n (fun j=>F j k))
 | 0=>by simp only[S];rw[mQ]
 | n+1=>by simp only[S];rw[mP F m n,<-mj]
theorem AK {c:Int}{G:Int->Int}:∀{n:Nat},0<=c->S n (fun j=>if j=c then G j else 0)=if c<n then G c else 0
 | 0,h=>by simp only[S];rw[if_neg jD]
 | n+1,h=>by
  simp only[S];rw[AK h]
  by_cases e:(n:Int)=c
  .subst e;rw[ak jD,aC Z,aC jD];omega
  .rw[ak e]
   by_cases q:c<(n:Int)
   .rw[aC q,aC jD];omega
   .rw[ak q,ak jD];omega
def uC (n:Nat)(F:Int->Int):Prop:=∀x y:Int,x%n=y%n->F x=F y
theorem uC.md {F:Int->Int}(h:uC n F)(x:Int):F (x%n)=F x:=h _ _ (aW x (cT _))
theorem uR {n x y:Int}(c:Int)(h:x%n=y%n):(x+c)%n=(y+c)%n:=by rw[Int.add_emod,h,<-Int.add_emod]
def at' (a:List Int)(x:Int):Int:=a.getD (x%a.length).toNat 0
theorem LZ (a:List Int):uC a.length (at' a):=fun x y h=>by unfold at';rw[h]
theorem oB (h:a.length=n):uC n (at' a):=h▸LZ a
theorem vo (hn:0<n)(x:Int):(x%n).toNat<n:=by
 have h1:=aD x (show (n:Int)≠0 by omega);have h2:=az x (show (0:Int)<n by omega);omega
theorem zo (hn:0<n)(x:Int):(((x%n).toNat:Nat):Int)=x%n:=bU (aD x jD)
theorem sL {x:Int}(h:0<a.length):a[(x%a.length).toNat]?=some (at' a x):=by
 have:=vo h x;unfold at';rw[ao,aA this];rfl
theorem pK {k:Nat}{v:Int}(h:a[k]?=some v):at' a k=v:=by
 have hk:k<a.length:=(aF.mp h).1;unfold at';rw[aU jD jD,ae,ao,h];rfl
theorem GV {k:Nat}(h:k<a.length):a[k]?=some (at' a k):=by
 rw[aA h];exact cU some (pK (aA h)).symm
theorem ext (hl:a.length=b.length)(h:∀k:Nat,k<a.length->at' a k=at' b k):a=b:=by
 refine gV fun k=>?_
 by_cases hk:k<a.length
 .rw[GV hk,GV (hl▸hk),h k hk]
 .rw[cA jD,cA jD]
theorem yJ (hl:a.length=n)(hn:0<n)(x v y:Int):at' (a.set (x%n).toNat v) y=if y%n=x%n then v else at' a y:=by
 have hx:=vo hn x;have hy:=vo hn y;unfold at';rw[cf,hl,ao,List.getElem?_set]
 by_cases e:y%n=x%n
 .rw[aC e,e,aC Z,aC jD];rfl
 .rw[ak e,ak fun z=>e ?_,<-ao];have:=cU (Nat.cast (R:=Int)) z;rw[zo hn,zo hn] at this;exact this.symm
theorem GZ (n:Nat)(x:Int):at' (List.replicate n 0) x=0:=by
 unfold at';rw[ao,fI];split<;>rfl
def LG (n:Nat)(h w:Int):List Int:=(List.replicate n 0).set (h%n).toNat w
def plus (a b:List Int):List Int:=List.zipWith (· + ·) a b
theorem oW (h:a.length=b.length):(plus a b).length=a.length:=by simp[plus,h]
theorem vx (h:a.length=b.length)(hn:0<a.length)(x:Int):at' (plus a b) x=at' a x+at' b x:=by
 have e:=sL (a:=plus a b) (x:=x) (by rw[oW h];exact hn);rw[oW h] at e;unfold plus at e;rw[bY,sL hn,show (x%a.length).toNat=(x%b.length).toNat by rw[h],sL jD] at e;exact(bI e).symm
def scaled (a:List Int)(m:Int):List Int:=a.map (· * m)
theorem sT (a:List Int)(m:Int):(scaled a m).length=a.length:=by simp[scaled]
theorem yn (hn:0<a.length)(m x:Int):at' (scaled a m) x=at' a x*m:=by
 have e:=sL (a:=scaled a m) (x:=x) (by rw[sT];exact hn);rw[sT] at e;unfold scaled at e;rw[af,sL hn] at e;exact(bI e).symm
def conv (a b:List Int):List Int:=(List.range b.length).map fun x:Nat=>S b.length fun j=>at' a j*at' b ((x:Int)-j)
def Bd (B:Nat)(a:List Int):Prop:=∀x∈a,x.natAbs<=B
theorem PP {B:Nat}(h:Bd B a)(x:Int):(at' a x).natAbs<=B:=by
 unfold at';rw[ao];cases e:a[(x%a.length).toNat]? with
 | none=>exact dH _
 | some v=>exact h v (ah e)
def nz (a:List Int)(i:Nat):List (Int×Int):=((List.range i).map fun j:Nat=>((j:Int),at' a j)).filter fun p=>decide (¬p.2=0)
end Ld
set_option maxHeartbeats 5000000
namespace L2
variable {n:Nat}{a:List Int}
open PySem PySem.Spec PyProof.Rows PySem.SeqAt
theorem pZ {k:Int}(h0:0<=k)(h1:k<n):Iu n k=some k.toNat:=by unfold Iu;rw[if_pos h0,if_pos h1]
theorem zC {xs:List V}(hl:xs.length=n)(hn:0<n)(x:Int):Iu xs.length (x%n)=some (x%n).toNat:=by
 rw[hl];exact pZ (aD _ J) (az _ J)
theorem wo (hl:a.length=n):(a.map V.int).length=n:=by rw[aa,hl]
theorem Dj (hl:a.length=n)(hn:0<n)(x:Int):lY (a.map V.int) (x%n)=some (.int (Ld.at' a x)):=by
 subst hl;unfold lY;rw[zC (wo Z) hn];show (a.map V.int)[(x%(a.length:Int)).toNat]?=_
 rw[af,Ld.sL hn];rfl
theorem At {k:Int}(h0:0<=k)(hk:k<a.length):lY (a.map V.int) k=some (.int (Ld.at' a k)):=by
 have:=Dj (a:=a) Z J k;rwa [aU h0 hk] at this
theorem rep0 (m:Nat):(List.replicate ((m:Nat):Int).toNat [V.int 0]).flatten=(List.replicate m (0:Int)).map V.int:=by
 rw[ae]
 induction m with
 | zero=>rfl
 | succ k ih=>rw[cW,eR,ih,cW,cZ];rfl
theorem set_int {j:Nat}{v:Int}:(a.map V.int).set j (.int v)=(a.set j v).map V.int:=by rw[List.map_set]
theorem mV {l:List Int}{i:Nat}{v:Int}(h:l[i]?=some v):(l.take (i+1)).map V.int=(l.take i).map V.int++[.int v]:=by
 rw[List.take_succ,h,aQ];rfl
theorem nH {l:List Int}(h:l.length=n):(l.take n).map V.int=l.map V.int:=by rw[<-h,bT]
abbrev dL (l:List Int):PyData:=.list (l.map PyData.int)
theorem lay_ints:∀ns:List Int,PyData.canLayAll0 (ns.map PyData.int)=true
 | []=>by simp[PyData.canLayAll0]
 | n::r=>by simp[PyData.canLayAll0,PyData.canLay0,lay_ints r]
theorem AI:∀ns:List Int,PyData.depthAll (ns.map PyData.int)<=1
 | []=>by simp[PyData.depthAll]
 | n::r=>by
  have:=AI r;simp only[List.map_cons,PyData.depthAll,PyData.depth];lia
theorem A8:∀ls:List (List Int),PyData.canLayAll0 (ls.map dL)=true
 | []=>by simp[PyData.canLayAll0]
 | l::r=>by simp[PyData.canLayAll0,PyData.canLay0,lay_ints l,A8 r]
theorem A4:∀ls:List (List Int),PyData.depthAll (ls.map dL)<=2
 | []=>by simp[PyData.depthAll]
 | l::r=>by
  have:=A4 r;have:=AI l;simp only[List.map_cons,PyData.depthAll,PyData.depth];lia
theorem A9 (ls:List (List Int)):shaped (.list (ls.map dL))=true:=by
 have h1:=A4 ls;unfold shaped;rw[fe];exact⟨by simp only[PyData.canLay0];exact A8 ls,decide_eq_true (by simp only[PyData.depth];lia)⟩
theorem Aj:∀ls ms:List (List Int),noMixAll (ls.map dL) (ms.map dL)=true
 | [],[]=>by simp[noMixAll]
 | [],_::_=>by simp[noMixAll]
 | _::_,[]=>by simp[noMixAll]
 | l::r,m::q=>by
  simp only[List.map_cons,noMixAll,Aj r q,Bool.and_true];exact wB l m
theorem AQ:∀ls ms:List (List Int),PySem.Spec.sameAll (ls.map dL) (ms.map dL)=decide (ls=ms)
 | [],[]=>by simp[PySem.Spec.sameAll]
 | [],_::_=>by simp[PySem.Spec.sameAll]
 | _::_,[]=>by simp[PySem.Spec.sameAll]
 | l::r,m::q=>by
  simp only[List.map_cons,PySem.Spec.sameAll,AQ r q];rw[show same (dL l) (dL m)=decide (l=m) from sO l m]
  by_cases h:l=m<;>simp[h]
def Hs (H:Hp)(r:Addr)(ps:List (Int×Int)):Prop:=∃as:List Addr,H r=some (.lst (as.map V.ref))/\Paired (fun a (x:Int×Int)=>H a=some (.tup [.int x.1,.int x.2])) as ps
theorem oh {as:List Addr}{i:Nat}{x:V}(h:(as.map V.ref)[i]?=some x):∃a,x=.ref a/\as[i]?=some a:=by
 rw[af] at h;cases e:as[i]? with
 | none=>rw[e] at h;cases h
 | some v=>rw[e] at h;cases h;exact⟨v,Z,Z⟩
theorem oP {g:TG}{tb:TS}{D:Ends}{σ:St}{H:Hp}(Pv:Nat->St->Hp->Prop)(h0:Pv 0 σ H)
 (hs:∀i σ H,i<n->Pv i σ H->g (.int i) σ H fun mK H2=>tb { D with nx:=Pv (i+1),ct:=Pv (i+1),bk:=D.nx } mK H2)(hd:∀σ H,Pv n σ H->D.nx σ H) :
    ∃W:Nat->Nat->St->Hp->Prop,(∃m,W 0 m σ H)/\∀i m σ H,W i m σ H ->
      ((Ci 0 n).stop i H/\D.nx σ H)\/((Ci 0 n).go i H/\∃N:St->Hp->Prop,(∀kW H',N kW H'->∃m',m'<m/\W (i+1) m' kW H')/\∀x H',(Ci 0 n).yld i H x H'->g x σ H' fun mK H2=>tb { D with nx:=N,ct:=N,bk:=D.nx } mK H2) :=
  xZ Pv h0 (fun i σ H hi p=>by rw[dD];exact hs i σ H hi p) hd
theorem pI {g:TG}{tc:TT}{te:TE}{kW:St}{H:Hp}{Q:VK}(Pv:Nat->List V->Hp->Prop)(h0:Pv 0 [] H)(hz:∀i ys H,i<n->Pv i ys H->ys.length<sizeLine)
 (hs:∀i ys H,i<n->Pv i ys H->g (.int i) kW H fun mK H2=>tc mK H2 fun b H3=>if b=true then te mK H3 fun y H4=>Pv (i+1) (ys++[y]) H4 else Pv (i+1) ys H3)(hd:∀ys H,Pv n ys H->∀D,H D=none->Q (.ref D) (upd H D (.lst ys))) :
    mS (Ci 0 n) g tc te kW Q H:=vR Pv h0 hz (fun i ys H hi p=>by rw[dD];exact hs i ys H hi p) hd
theorem oU {X:Cx}{K:PySem.W.Frag}(h:X.K=K):NC X (OE K):=by subst h;exact kC
theorem EE {X:Cx}{K:PySem.W.Frag}(h:X.K=K):qO X (.builtin "len") (fun xs H Q=>∃p ys,xs=[.ref p]/\(jV K H p ys\/kJ K H p ys)/\Q (.int ys.length) H):=by subst h;exact tO
open PySem PySem.Spec PyProof.Rows
def Gk (lo st:Int)(n:Nat):It:=⟨fun i _=>i<n,fun i H x H'=>H'=H/\x=.int (lo+i*st),fun i _=>n<=i⟩
theorem Am {P:Program}{w:World}{K:PySem.W.Frag}{tg:Expr}(it:Addr)(lo st:Int)(n:Nat):Turn P w K tg (Gk lo st n) [it] it (fun i h=>IsRangeIter h it (lo+(i:Nat)*st) ((n:Int)-(i:Nat)) st) where
 mem:=by simp
 obj:=fun i h st b hb=>by
  have e:b=it:=by simpa using hb
  subst e;exact⟨_,st,fun v z=>by
   have z':Data.fields _=Data.cell v:=z;cases z'⟩
 keep:=fun i h h' st k=>k it jB _ st
 item:=by
  intro X hP hw hK hc i pins s σ H E I hf Iw hg;subst hP hw hK;obtain⟨f0,f1,f2,f3,f4,f5⟩:=hf it jB;have W:=Walks.range (prog:=X.prog) (w:=X.w) (I.ok.hd hc) it lo st n;refine W.item i s _ _ hg Iw fun v h' tk hv Qs kk=>?_;obtain⟨t,rfl⟩:=hv;have I1:Inv X pins σ H { s with heap:=h',toks:=tk }:=I.turned (fun b o hb e=>kk b o (by simpa using hb) e) f0 f1 f3 f4 f5;exact⟨_,Z,DD (s:={ s with heap:=h',toks:=tk }) (n:="range_iterator") Qs Z Z O ⟨.int (lo+i*st),H,I1,⟨t,Z⟩,⟨Z,Z⟩,Qs,fun b hb=>(hf b hb).1⟩⟩
 done:=by
  intro X hP hw hK hc i pins s σ H E I hf st hg;subst hP hw hK;obtain⟨f0,f1,f2,f3,f4,f5⟩:=hf it jB;exact jb (I.ok.hd hc) st (by have:n<=i:=hg;omega) fun h' eb=>⟨Z,I.turned (t':=s.toks) (fun b o hb e=>eb b o hb e) f0 f1 f3 f4 f5⟩
 self:=fun _ _ _ _ _ st h=>jc st h
def v7 (lo hi st:Int):Nat:=if lo<hi then ((hi-lo-1)/st+1).toNat else 0
theorem Km {lo hi st:Int}(h:0<st):Builtin.Range.rangeSize lo hi st=(v7 lo hi st:Nat):=by
 unfold Builtin.Range.rangeSize v7;rw[aC h];split
 .have:=cG (show 0<=hi-lo-1 by omega) (show 0<=st by omega);omega
 .rfl
theorem JL {lo hi st:Int}(h:0<st)(h0:0<=lo)(h1:hi<=1000000):v7 lo hi st<=1000000:=by
 unfold v7;split
 .have:=b8 (b:=st) (show 0<=hi-lo-1 by omega);omega
 .omega
section
theorem BM {lo st:Int}{n:Nat}{g:TG}{tb:TS}{D:Ends}{σ:St}{H:Hp}(Pv:Nat->St->Hp->Prop)(h0:Pv 0 σ H)
  (hs:∀i σ H,i<n->Pv i σ H->g (.int (lo+i*st)) σ H fun mK H2=>tb { D with nx:=Pv (i+1),ct:=Pv (i+1),bk:=D.nx } mK H2)(hd:∀σ H,Pv n σ H->D.nx σ H) :
  ∃W:Nat->Nat->St->Hp->Prop,(∃m,W 0 m σ H)/\∀i m σ H,W i m σ H ->
   ((Gk lo st n).stop i H/\D.nx σ H)\/((Gk lo st n).go i H/\∃N:St->Hp->Prop,(∀kW H',N kW H'->∃m',m'<m/\W (i+1) m' kW H')/\∀x H',(Gk lo st n).yld i H x H'->g x σ H' fun mK H2=>tb { D with nx:=N,ct:=N,bk:=D.nx } mK H2):=by
 refine⟨fun i m σ H=>m=n-i/\i<=n/\Pv i σ H,⟨n,jB,Nat.zero_le _,h0⟩,?_⟩;rintro i m σ H ⟨rfl,hi,p⟩
 by_cases pB:i<n
 .refine .inr ⟨pB,Pv (i+1),fun kW H' p'=>⟨n-(i+1),jD,Z,pB,p'⟩,fun x H' y=>?_⟩;obtain⟨e,y⟩:=y;subst e y;exact hs i σ _ pB p
 .have e:i=n:=jD;subst e;exact .inl ⟨aH _,hd σ H p⟩
end
theorem AE (p:Int):∀l:List Int,Og (.int p) (l.map V.int)=decide (p∈l)
 | []=>by simp[Og]
 | a::r=>by
  have ih:=AE p r;unfold Og at ih ⊢;rw[cZ,iu,ih];show ((a == p) || decide (p∈r))=_
  by_cases h:a=p
  .simp[h]
  .have h':¬p=a:=fun e=>h e.symm;simp[h,h']
theorem xI:∀l:List Int,(l.map V.int).all tU=true
 | []=>rfl
 | a::r=>by rw[cZ,ir,xI r];rfl
def yx (H:Hp)(r:Addr)(ts:List (Int×Int×Int)):Prop:=∃as:List Addr,H r=some (.lst (as.map V.ref))/\Paired (fun a (x:Int×Int×Int)=>H a=some (.tup [.int x.1,.int x.2.1,.int x.2.2])) as ts
theorem yx.same {H H':Hp}{r:Addr}{ts:List (Int×Int×Int)}(h:yx H r ts)(s:jM H H'):yx H' r ts:=let ⟨as,h1,h2⟩:=h;⟨as,s _ _ h1,Paired.za h2 fun d x e=>s _ _ e⟩
section
variable {X:Cx}
abbrev tG (i:Int):Int:=((Builtin.Int.intBits i:Nat):Int)
def OF:V->List V->Hp->VK->Prop:=fun x vs H Q=>∃i:Int,x=.int i/\vs=[]/\Q (.int (tG i)) H
theorem tV:Yz X "int.bit_length" OF:=by
 intro pins s σ H x vs v us Q I rx rv h;obtain⟨i,rfl,rfl,q⟩:=h;cases rv;obtain⟨t,rfl⟩:=rx;exact call_int_bit_length ⟨.int (tG i),H,I.tok _,⟨_,Z⟩,q⟩
theorem Ah {i:Int}(h:¬tG i > 0):i=0:=by
 unfold tG Builtin.Int.intBits at h
 by_cases e:i=0
 .exact e
 .rw[ak (by simpa using e)] at h;omega
theorem Ja {i:Int}(h:tG i > 0):¬i=0:=by
 rintro rfl;exact absurd h O
theorem sx:∀{l:List Value}{n:Nat}{F:Nat->V},l.length=n->(∀(j:Nat) v,l[j]?=some v->RelV (F j) v)->Vals ((List.range n).map F) l
 | [],n,F,hl,_=>by cases hl;exact .nil
 | v::l,n,F,hl,h=>by
  cases hl;have e:(List.range (v::l).length).map F=F 0::(List.range l.length).map (fun j=>F (j+1)):=by
   rw[bw,List.range_succ_eq_map,cZ,iD];rfl
  rw[e];exact .cons (h 0 v Z) (sx Z fun j u hj=>h (j+1) u hj)
def Ap (lo st:Int)(n:Nat):List Int:=(List.range n).map fun (i:Nat)=>lo+(i:Int)*st
def VC (ta:TA):TE:=fun σ H Q=>ta σ H fun vs H1=>∃i j k:Int,vs=[.int i,.int j,.int k]/\(0<=i/\i<=1000000/\0<=j/\j<=1000000/\0<k/\k<=1000000)/\∀l,H1 l=none->Q (.ref l) (upd H1 l (.lst ((Ap i k (v7 i j k)).map V.int)))
theorem GM {a b c:Expr}{ta:TA}{p p2 pos EV:Pos}(hcm:X.calm=true)(M6:Gl X "list")(Xe:X.mg "list"=none)(hg:Gl X "range")(hm:X.mg "range"=none)(ha:PA X [a,b,c] ta)
  (he:starEach [a,b,c] X.env=(false,eval a X.env)::starEach [b,c] X.env:=by rfl)(wU:(backTo EV (starEach [b,c] X.env)).any (·.1)=false:=by rfl)
  (NN:starEach [.Call (.Name "range" p2) [a,b,c] [] EV] X.env=(false,eval (.Call (.Name "range" p2) [a,b,c] [] EV) X.env)::starEach [] X.env:=by rfl) :
  PE X (.Call (.Name "list" p) [.Call (.Name "range" p2) [a,b,c] [] EV] [] pos) (VC ta):=by
 intro pins s σ H Q I h;refine fS (pT I M6 Xe pF ?_);refine cy ?_ NN Z;rw[NN];show wpAny _ _ (spliced ((false,eval (.Call (.Name "range" p2) [a,b,c] [] EV) X.env)::backTo pos (starEach [] X.env))) _ _ s
 refine Calls.spliced_cons ?_;refine Call_ (pT I hg hm boot_range (cy (mH (ha EV pins s σ H _ I h) fun us s1 ⟨vs,H1,I1,r1,q1⟩=>?_) he wU));obtain⟨i,j,k,e,⟨q1,q2,q3,q4,q5,q6⟩,q⟩:=q1;subst e;cases r1 with
 | cons r rr =>
  cases rr with
  | cons r' rr =>
   cases rr with
   | cons RM rr =>
    cases rr;obtain⟨t,rfl⟩:=r;obtain⟨t',rfl⟩:=r';obtain⟨NO,rfl⟩:=RM;refine call_range_3 jD ?_ (.inl (iE jD));have c3:=JL (lo:=i) q5 q1 q4;have sm:Builtin.Range.small i j k=true:=by
     unfold Builtin.Range.small;rw[Km q5];simp only[Builtin.Range.rangeFitsLong,Bool.and_eq_true,Bool.or_eq_true,decide_eq_true_eq,beq_iff_eq,q5,if_true,gt_iff_lt];omega
    have I2:Inv X pins σ H1 { s1 with heap:=s1.heap.push { cls:=.type "range",data:=.fields #[.int i t,.int j t',.int k NO] },toks:=s1.toks }:=I1.kept fun b o e=>aP _ e;refine Calls.spliced_nil ?_;refine call_list_range (n:=v7 i j k) (I2.ok.hd hcm) (jx ..) sm (Km q5) jD fun h' tk Qt c' kp e items=>?_;have vals:Vals ((Ap i k (v7 i j k)).map V.int) Qt.toList:=by
     unfold Ap;rw[iD];refine sx (by rw[Array.length_toList];exact items.1) fun m v hm=>?_;have:=items.2 m v (by rw[<-Array.getElem?_toList];exact hm);obtain⟨t,rfl⟩:=this;exact⟨t,Z⟩
    have hz:((Ap i k (v7 i j k)).map V.int).length<=sizeLine:=by
     unfold Ap;rw[List.length_map,List.length_map,List.length_range];exact Nat.le_trans c3 O
    refine⟨.ref _,_,I2.laid (t':=tk) kp (aH _) (show nh X.prog X.w _ h' _ (.lst ((Ap i k (v7 i j k)).map V.int)) from ⟨hz,Qt.toList,c',vals,by simpa using e⟩),Z,q _ (I2.hok.fresh (Nat.le_refl _))⟩
end
section
variable {κ:Type} [DecidableEq κ]
def EA (kvs:List (κ×V))(k:κ):Option V:=(kvs.find? fun kv=>decide (kv.1=k)).map (·.2)
def putK (kvs:List (κ×V))(k:κ)(v:V):List (κ×V) :=
 if (kvs.any fun kv=>decide (kv.1=k))=true then kvs.map (fun kv=>if kv.1=k then (kv.1,v) else kv) else kvs++[(k,v)]
theorem va.getD {o:Option V}{u:Option Value}{d:V}{d':Value}(r:va o u)(rd:RelV d d'):RelV (o.getD d) (u.getD d'):=by
 cases o with
 | none=>cases u with
  | none=>exact rd
  | some _=>exact(show dZ from r).elim
 | some _=>cases u with
  | none=>exact(show dZ from r).elim
  | some _=>exact r
theorem KV.length {kvs:List (κ×V)}{vs:List (κ×Value)}(r:KV kvs vs):kvs.length=vs.length:=e9 r
end
abbrev KT (H:Hp):List (List Key×V)->List (List Key×Addr×Value)->Prop:=Paired fun p q=>p.1=q.1/\H q.2.1=some (.tup (p.1.map kV))/\RelV p.2 q.2.2
theorem KT.keeps {H H':Hp}{kvs:List (List Key×V)}{xs:List (List Key×Addr×Value)}(r:KT H kvs xs)(ht:∀b ys,H b=some (.tup ys)->H' b=some (.tup ys)):KT H' kvs xs :=
 Paired.za r fun _ _ z=>⟨z.1,ht _ _ z.2.1,z.2.2⟩
def xk (H:Hp)(a:Addr)(y:V)(r:Option V):Prop :=
 (∃kvs k,Rd H a (.dK kvs)/\y=kV k/\r=EA kvs k)\/∃kvs k b,Rd H a (.dT kvs)/\y=.ref b/\H b=some (.tup (k.map kV))/\r=EA kvs k
def xn (H:Hp)(a:Addr)(y v:V)(H':Hp):Prop :=
 (∃kvs k,H a=some (.dK kvs)/\y=kV k/\kvs.length<sizeLine/\H'=upd H a (.dK (putK kvs k v))) \/
 ∃kvs k b,H a=some (.dT kvs)/\y=.ref b/\H b=some (.tup (k.map kV))/\kvs.length<sizeLine/\H'=upd H a (.dT (putK kvs k v))
theorem xk.k {H:Hp}{a:Addr}{kvs:List (Key×V)}{k:Key}(e:H a=some (.dK kvs)):xk H a (kV k) (EA kvs k):=.inl ⟨kvs,k,.inl e,Z,Z⟩
theorem xk.t {H:Hp}{a b:Addr}{kvs:List (List Key×V)}{k:List Key}(e:H a=some (.dT kvs))(eb:H b=some (.tup (k.map kV))):xk H a (.ref b) (EA kvs k):=.inr ⟨kvs,k,b,.inl e,Z,eb,Z⟩
theorem xn.k {H:Hp}{a:Addr}{kvs:List (Key×V)}{k:Key}{v:V}(e:H a=some (.dK kvs))(hl:kvs.length<sizeLine):xn H a (kV k) v (upd H a (.dK (putK kvs k v))):=.inl ⟨kvs,k,e,Z,hl,Z⟩
theorem xn.t {H:Hp}{a b:Addr}{kvs:List (List Key×V)}{k:List Key}{v:V}(e:H a=some (.dT kvs))(eb:H b=some (.tup (k.map kV)))(hl:kvs.length<sizeLine) :
  xn H a (.ref b) v (upd H a (.dT (putK kvs k v))):=.inr ⟨kvs,k,b,e,Z,eb,hl,Z⟩
section
variable {X:Cx}{pins:List (Addr×Obj)}{σ:St}{H:Hp}{s:Shared}
theorem Inv.big (I:Inv X pins σ H s):sysModules<s.heap.objs.size:=by
 have h:mainGlobals<s.heap.objs.size:=(I.mod.glob.keeps I.bk).lt;exact iF O h
end
structure M1 (X:Cx)(o:Expr)(m:Str)(apos:Pos)(e:Expr)(cpos:Pos):Prop where
 base:attributeBase o m X.env (eval o X.env)=eval o X.env
 Bh:((backTo cpos (starEach [e] X.env)).all (fun x=>!x.1) && (backToKw cpos (keywordEach [] X.env)).all (fun x=>x.1.isSome)
  && decide (([e]:List Expr).length+([]:List Keyword).length+(if ([]:List Keyword).isEmpty then 0 else 1)<30))=true
 line:(apos.endLine == cpos.line)=true
 trees:backTo cpos (starEach [e] X.env)=[(false,eval e X.env)]
structure M2 (X:Cx)(o:Expr)(m:Str)(apos:Pos)(e f:Expr)(cpos:Pos):Prop where
 base:attributeBase o m X.env (eval o X.env)=eval o X.env
 Bh:((backTo cpos (starEach [e,f] X.env)).all (fun x=>!x.1) && (backToKw cpos (keywordEach [] X.env)).all (fun x=>x.1.isSome)
  && decide (([e,f]:List Expr).length+([]:List Keyword).length+(if ([]:List Keyword).isEmpty then 0 else 1)<30))=true
 line:(apos.endLine == cpos.line)=true
 trees:backTo cpos (starEach [e,f] X.env)=[(false,eval e X.env),(false,eval f X.env)]
abbrev kI (i:Int):Key:=.inl i
abbrev k2 (p h:Int):List Key:=[.inl p,.inl h]
theorem xk.p {H:Hp}{a b:Addr}{kvs:List (List Key×V)}{p h:Int}(e:H a=some (.dT kvs))(eb:H b=some (.tup [.int p,.int h])):xk H a (.ref b) (EA kvs (k2 p h)):=xk.t (k:=k2 p h) e eb
theorem xn.p {H:Hp}{a b:Addr}{kvs:List (List Key×V)}{p h:Int}{v:V}(e:H a=some (.dT kvs))(eb:H b=some (.tup [.int p,.int h]))(hl:kvs.length<sizeLine):xn H a (.ref b) v (upd H a (.dT (putK kvs (k2 p h) v))):=xn.t (k:=k2 p h) e eb hl
theorem xk.i {H:Hp}{a:Addr}{kvs:List (Key×V)}{i:Int}(e:H a=some (.dK kvs)):xk H a (.int i) (EA kvs (kI i)):=xk.k (k:=kI i) e
theorem xn.i {H:Hp}{a:Addr}{kvs:List (Key×V)}{i:Int}{v:V}(e:H a=some (.dK kvs))(hl:kvs.length<sizeLine):xn H a (.int i) v (upd H a (.dK (putK kvs (kI i) v))):=xn.k (k:=kI i) e hl
theorem Dw:∀{bs:List Bool}{its:List Value},Vals (bs.map V.bl) its->its=bs.map Value.bool
 | [],_,.nil=>rfl
 | b::r,_,.cons e rs=>by
  have e':_=Value.bool b:=e;rw[cZ,<-Dw rs,<-e']
theorem Bp (bs:List Bool):((List.range bs.length).all fun i=>(bs[i]?).getD true)=bs.all id:=by
 rw[eO,dC,dC];constructor
 .intro h b hb;obtain⟨i,hi,e⟩:=List.getElem_of_mem hb;have:=h i (dX.mpr hi);simp only[List.getElem?_eq_getElem hi,Option.getD_some,e] at this;exact this
 .intro h i hi;have M7:=dX.mp hi;simp only[List.getElem?_eq_getElem M7,Option.getD_some];exact h _ (cm M7)
theorem JX {s:Shared}{h':Heap}{o:Obj}(hk:∀b x,b∉[s.heap.objs.size]->(s.heap.push o).get? b=some x->h'.get? b=some x):∀b x,s.heap.get? b=some x->h'.get? b=some x :=
 fun b x e=>hk b x (fun hm=>by rw[b3.mp hm] at e;exact d7 _ (bL e)) (aP _ e)
section
variable {X:Cx}
theorem r9 (hc:X.calm=true):qO X (.builtin "all") (fun xs H Q=>∃(a:Addr)(bs:List Bool),xs=[.ref a]/\jV X.K H a (bs.map V.bl)/\Q (.bl (bs.all id)) H):=by
 intro pins s σ H xs us Q I r h;obtain⟨a,bs,rfl,hl,q⟩:=h;obtain⟨u,rfl,ru⟩:=vals1 r;cases ru;obtain⟨its,rv,pl,_⟩:=I.list hl;have ei:=Dw rv;subst ei;have hL:=pl.isList;have pB:a<s.heap.objs.size:=by obtain⟨_,e,_⟩:=hL;exact Heap.lt_size e
 refine call_all_walk (wpAny_pyIter_list hL ?_);refine⟨s.heap.objs.size,[s.heap.objs.size,a],[s.heap.objs.size],(bs.map Value.bool).toArray.size,_,_,fun i=>(bs[i]?).getD true,Z,Walks.list (A:=X.A.in1) (I.ok.hd hc) _ a (cF pB) (bs.map Value.bool).toArray,
  ⟨⟨_,bX _ Z,Z,Z⟩,hL.push _⟩,fun i v s' Q' E' hP hQ=>?_,fun h' tk hk=>?_⟩
 .have Qu:(bs.map Value.bool)[i]?=some v:=by simpa using hP
  rw[af] at Qu;cases e:bs[i]? with
  | none=>rw[e] at Qu;cases Qu
  | some b =>
   rw[e] at Qu;cases Qu;simp only[e,Option.getD_some] at hQ;exact fj hQ
 .have e:((List.range (bs.map Value.bool).toArray.size).all fun i=>(bs[i]?).getD true)=bs.all id:=by
   rw[cq,aa];exact Bp bs
  rw[e];exact⟨.bl _,H,I.kept (t':=tk) (JX hk),Z,q⟩
end
theorem rep1 (m:Nat):(List.replicate ((m:Nat):Int).toNat [V.int 1]).flatten=(List.replicate m (1:Int)).map V.int:=by
 rw[ae]
 induction m with
 | zero=>rfl
 | succ m ih=>rw[cW,eR,ih,cW,cZ];rfl
theorem p8 {c A B:Prop} [Decidable c] (h:c)(a:A):if c then A else B:=by rw[aC h];exact a
theorem lP {c A B:Prop} [Decidable c] (h:¬c)(b:B):if c then A else B:=by rw[ak h];exact b
theorem tD {K:PySem.W.Frag}{a b:Addr}{xs ys:List V}{g:TG}{tb:TS}{D:Ends}{σ:St}{H:Hp}(hlen:xs.length=ys.length)(Pv:Nat->St->Hp->Prop)(h0:Pv 0 σ H)(hl:∀i σ H,i<=xs.length->Pv i σ H->jV K H a xs/\jV K H b ys)
  (hs:∀i x y σ H p,xs[i]?=some x->ys[i]?=some y->Pv i σ H->H p=none->g (.ref p) σ (upd H p (.tup [x,y])) fun mK H2=>tb { D with nx:=Pv (i+1),ct:=Pv (i+1),bk:=D.nx } mK H2)(hd:∀σ H,Pv xs.length σ H->D.nx σ H) :
  ∃W:Nat->Nat->St->Hp->Prop,(∃m,W 0 m σ H)/\∀i m σ H,W i m σ H ->
   ((Ko K a b).stop i H/\D.nx σ H)\/((Ko K a b).go i H/\∃N:St->Hp->Prop,(∀kW H',N kW H'->∃m',m'<m/\W (i+1) m' kW H')/\∀x H',(Ko K a b).yld i H x H'->g x σ H' fun mK H2=>tb { D with nx:=N,ct:=N,bk:=D.nx } mK H2):=by
 refine⟨fun i m σ H=>m=xs.length-i/\i<=xs.length/\Pv i σ H,⟨xs.length,jB,Nat.zero_le _,h0⟩,?_⟩;rintro i m σ H ⟨rfl,hi,p⟩;obtain⟨q1,q2⟩:=hl i σ H hi p
 by_cases pB:i<xs.length
 .refine .inr ⟨⟨xs,ys,xs[i],ys[i]'J,q1,q2,by simp[pB],by simp[show i<ys.length by lia]⟩,Pv (i+1),fun kW H' p'=>⟨xs.length-(i+1),J,Z,pB,p'⟩,fun x H' y=>?_⟩;obtain⟨r,y1,y2,rfl,hr,hy1,hy2,rfl⟩:=y;exact hs i y1 y2 σ _ r (hy1 xs q1) (hy2 ys q2) p hr
 .have e:i=xs.length:=J;subst e;exact .inl ⟨⟨xs,ys,q1,q2,.inl (aH _)⟩,hd σ H p⟩
theorem A7 (ns:List Int)(k:Nat):tE (ns.map V.int) (some (k:Int)) none=(ns.drop k).map V.int:=by
 unfold tE;rw[HT.yX,HT.Hl,aa,<-List.map_drop,<-List.map_take];congr 1
 by_cases h:k<=ns.length
 .rw[hV h,iC (by rw[cC];lia)]
 .rw[Nat.min_eq_right J,iG (aH _),iG J];simp
theorem Paired.BV {α β:Type}{F:α->β->Prop}:∀{a c:List α}{b d:List β},Paired F a b->Paired F c d->Paired F (a++c) (b++d)
 | _,_,_,_,.nil,h=>h
 | _,_,_,_,.cons h t,g=>.cons h (Paired.BV t g)
abbrev d3 (t:Int×Int×Int):PyData:=.tuple [.int t.1,.int t.2.1,.int t.2.2]
variable {as:List Addr}{rows:List (List Int)}
theorem Hv {X:Cx}{K:PySem.W.Frag}(h:X.K=K):VR X (Pa K):=by subst h;exact vp
theorem P3 (x y z w a b c d:Int):same (.tuple [.int x,.int y,.int z,.int w]) (.tuple [.int a,.int b,.int c,.int d])=decide (x=a/\y=b/\z=c/\w=d):=by
 simp only[same,PySem.Spec.sameAll]
 by_cases h1:x=a<;>by_cases h2:y=b<;>by_cases h3:z=c<;>by_cases h4:w=d<;>simp[h1,h2,h3,h4]
theorem TD {K:PySem.W.Frag}{H:Hp}{r s:Addr}{x y z w a b c d:Int}{Q:VK}(h1:H r=some (.tup [.int x,.int y,.int z,.int w]))(h2:H s=some (.tup [.int a,.int b,.int c,.int d]))(q:Q (.bl (!decide (x=a/\y=b/\z=c/\w=d))) H):FW K (.ref r) (.ref s) H Q :=
 ⟨_,_,.tup (kJ.of h1) (.cons (.int _) (.cons (.int _) (.cons (.int _) (.cons (.int _) .nil)))),.tup (kJ.of h2) (.cons (.int _) (.cons (.int _) (.cons (.int _) (.cons (.int _) .nil)))),Z,Z,by simp[noMix,noMixAll],by rw[P3];exact q⟩
theorem pC {K:PySem.W.Frag}{n i j k:Nat}(h:n<=i)(h':n<=j)(h'':n<=k):rG n (IM K 3 (uS (kZ i) (uS (kZ j) (uS (kZ k) ID)))):=by
 rintro x σ H Q ⟨a,xs,rfl,hq,hl,v,r,rfl,v',r',rfl,v'',RM,rfl,rfl,q⟩;exact⟨a,_,Z,hq,hl,v,_,Z,v',_,Z,v'',_,Z,Z,⟨jB,fun m hk=>by rw[List.getElem?_set_ne J,List.getElem?_set_ne J,List.getElem?_set_ne J]⟩,q⟩
structure Mn (K:PySem.W.Frag)(C:Addr)(m q:Str)(st:Stmt)(ps:List Str):Prop where
 ex:∃(f:Addr)(fd:FuncData),DF K m q st f fd/\Binds K fd ps []/\Meth K C m f
structure Mf (P:Program)(w:World)(K:PySem.W.Frag)(mg:Str->Option Value)(base:Heap)(k:Nat)(C:Addr)(m:Str)(ps:List Str)(sp:Sp):Prop where
 ex:∃(f:Addr)(fd:FuncData),re P w K mg base DL k f fd ps sp/\Binds K fd ps []/\Meth K C m f
structure Kn (K:PySem.W.Frag)(mg:Str->Option Value)(C:Addr)(x q:Str)(st:Stmt)(ps:List Str):Prop where
 ex:∃(f:Addr)(fd:FuncData),DF K "__init__" q st f fd/\Binds K fd ps []/\Mk K C f/\mg x=some (.ref C)
structure Kf (P:Program)(w:World)(K:PySem.W.Frag)(mg:Str->Option Value)(base:Heap)(k:Nat)(C:Addr)(x:Str)(ps:List Str)(sp:Sp):Prop where
 ex:∃(f:Addr)(fd:FuncData),re P w K mg base DL k f fd ps sp/\Binds K fd ps []/\Mk K C f/\mg x=some (.ref C)
theorem Mn.ok {P:Program}{w:World}{K:PySem.W.Frag}{mg:Str->Option Value}{base:Heap}{C:Addr}{m q:Str}{st:Stmt}{N ps:List Str}{k:Nat}{sp:Sp}(D:Mn K C m q st ps)(S:jS N ps (jP st))(len:∀vs H Q E,sp vs H Q E->vs.length=ps.length)
  (hbody:∀(f:Addr)(cdv:Value)(A:Around)(outer:List Env)(s:Shared)(H:Hp)(vs:List V)(Q:VK)(E:XK),nC k (A.deeper (envOfC q (jP st) s.heap.objs.size f cdv))->sp vs H Q E ->
   ∃t,xK (xt DL P w K mg base N q (jP st) f cdv A outer s H E).EZ (kY st) t/\t { nx:=fun _ H'=>Q .non H',rt:=Q } (start N vs) H):Mf P w K mg base (k+1) C m ps sp:=by
 obtain⟨f,fd,F,b,mt⟩:=D.ex;exact⟨f,fd,F.ok S len (fun cdv A outer s H vs Q E hr h=>hbody f cdv A outer s H vs Q E hr h),b,mt⟩
theorem Kn.ok {P:Program}{w:World}{K:PySem.W.Frag}{mg:Str->Option Value}{base:Heap}{C:Addr}{x q:Str}{st:Stmt}{N ps:List Str}{k:Nat}{sp:Sp}(D:Kn K mg C x q st ps)(S:jS N ps (jP st))(len:∀vs H Q E,sp vs H Q E->vs.length=ps.length)
  (hbody:∀(f:Addr)(cdv:Value)(A:Around)(outer:List Env)(s:Shared)(H:Hp)(vs:List V)(Q:VK)(E:XK),nC k (A.deeper (envOfC q (jP st) s.heap.objs.size f cdv))->sp vs H Q E ->
   ∃t,xK (xt DL P w K mg base N q (jP st) f cdv A outer s H E).EZ (kY st) t/\t { nx:=fun _ H'=>Q .non H',rt:=Q } (start N vs) H):Kf P w K mg base (k+1) C x ps sp:=by
 obtain⟨f,fd,F,b,mt⟩:=D.ex;exact⟨f,fd,F.ok S len (fun cdv A outer s H vs Q E hr h=>hbody f cdv A outer s H vs Q E hr h),b,mt⟩
section
variable {X:Cx}{k:Nat}{C:Addr}{x m:Str}{ps:List Str}{sp:Sp}{e o:Expr}{es:List Expr}{ta:TE}{t:TA}{p pos apos:Pos}
theorem vS {pl:Sem Bool}(he:PE X o ta)(c:Ft X.K C)(D:Mf X.prog X.w X.K X.mg X.base k C m ps sp)(hr:nC k X.A)(ha:PA X (e::es) t)
  (t5:starEach (e::es) X.env=(false,eval e X.env)::starEach es X.env:=by rfl)(wU:(backTo pos (starEach es X.env)).any (·.1)=false:=by rfl)
  (ht:eval (.Call (.Attribute o m apos) (e::es) [] pos) X.env=(do
   let ov <-eval o X.env
   standAt apos.atName
   let (f,first) <-holding [ov] (getMethod ov m pl)
   callWith pos f first (backTo pos (starEach (e::es) X.env)) (backToKw pos (keywordEach [] X.env))):=by rfl) :
  PE X (.Call (.Attribute o m apos) (e::es) [] pos) (Kj C m sp [] E0 ta t):=by
 obtain⟨f,fd,F,hb,hm⟩:=D.ex;exact Je (pl:=pl) he c hm F hr hb .nil GR ha t5 wU ht
theorem LJ (D:Kf X.prog X.w X.K X.mg X.base k C x ps sp)(hr:nC (k+1) X.A)(hg:Gl X x)(ha:PA X (e::es) t)(ES:(x == ("__debug__":Str))=false:=by decide)
  (he:starEach (e::es) X.env=(false,eval e X.env)::starEach es X.env:=by rfl)(wU:(backTo pos (starEach es X.env)).any (·.1)=false:=by rfl) :
  PE X (.Call (.Name x p) (e::es) [] pos) (KO C sp [] E0 t):=by
 obtain⟨f,fd,F,hb,M,hm⟩:=D.ex;exact Jt M F hr hg hm hb .nil GR ha ES he wU
end
def k9 (H:Hp)(r:Addr)(rows:List (List Int)):Prop:=∃as:List Addr,H r=some (.lst (as.map V.ref))/\Paired (fun a (x:List Int)=>H a=some (.lst (x.map V.int))) as rows
theorem kL {H H':Hp}(sm:jM H H')(h:Paired (fun a (x:List Int)=>H a=some (.lst (x.map V.int))) as rows):Paired (fun a (x:List Int)=>H' a=some (.lst (x.map V.int))) as rows:=by
 induction h with
 | nil=>exact .nil
 | cons a _ ih=>exact .cons (sm _ _ a) ih
theorem k9.same {H H':Hp}(sm:jM H H'){r:Addr}(h:k9 H r rows):k9 H' r rows :=
 let ⟨as,h1,h2⟩:=h;⟨as,sm _ _ h1,kL sm h2⟩
theorem jY {α β:Type}{F:α->β->Prop}:∀{a:List α}{b:List β},Paired F a b->a.length=b.length
 | _,_,.nil=>rfl
 | _,_,.cons _ t=>cU (· + 1) (jY t)
theorem mv {H:Hp}(h:Paired (fun a (x:List Int)=>H a=some (.lst (x.map V.int))) as rows){i:Nat}{x:V}(e:(as.map V.ref)[i]?=some x):∃(a:Addr)(row:List Int),x=.ref a/\as[i]?=some a/\rows[i]?=some row/\H a=some (.lst (row.map V.int)):=by
 obtain⟨a,rfl,ha⟩:=oh e;obtain⟨row,hr,hh⟩:=kQ h ha;exact⟨a,row,Z,ha,hr,hh⟩
theorem wI {H:Hp}(h:Paired (fun a (x:List Int)=>H a=some (.lst (x.map V.int))) as rows){i:Nat}{row:List Int}(e:rows[i]?=some row):∃a:Addr,lY (as.map V.ref) ((i:Nat):Int)=some (.ref a)/\H a=some (.lst (row.map V.int)):=by
 have l:=jY h;have il:i<rows.length:=(aF.mp e).1;have ha:as[i]?=some (as[i]'J):=aA J;obtain⟨row',hr,hh⟩:=kQ h ha;rw[e] at hr;cases hr;exact⟨_,lU (by rw[af,ha];rfl),hh⟩
theorem wD {α β:Type}{F:α->β->Prop}:∀{a:List α}{b:List β}{x:α}{y:β}(c:Nat),Paired F a b->F x y->Paired F (a.set c x) (b.set c y)
 | _,_,_,_,_,.nil,_=>.nil
 | _,_,_,_,0,.cons _ t,h=>.cons h t
 | _,_,_,_,c+1,.cons q t,h=>.cons q (wD c t h)
theorem k9.put {H:Hp}{D a:Addr}{l:List Int}{c:Nat}(hD:H D=some (.lst (as.map V.ref)))(pa:Paired (fun a (x:List Int)=>H a=some (.lst (x.map V.int))) as rows)(ne:as≠[])(ha:H a=some (.lst (l.map V.int))) :
  k9 (upd H D (.lst ((as.map V.ref).set c (.ref a)))) D (rows.set c l):=by
 have nD:∀(b:Addr)(x:List Int),H b=some (.lst (x.map V.int))->b≠D:=fun b x hb=>nK hb hD fun z=>by
  injection z with z;cases as with
  | nil=>exact ne Z
  | cons a0 RN=>cases x with
   | nil=>cases z
   | cons y ys=>injection z with z1;cases z1
 have old:Paired (fun a (x:List Int)=>upd H D (.lst ((as.map V.ref).set c (.ref a))) a=some (.lst (x.map V.int))) as rows->ia:=fun _=>trivial;have go:∀{tZ:List Addr}{wY:List (List Int)}{o:HO},Paired (fun a (x:List Int)=>H a=some (.lst (x.map V.int))) tZ wY->Paired (fun a (x:List Int)=>upd H D o a=some (.lst (x.map V.int))) tZ wY:=fun {tZ wY o} p=>by
  induction p with
  | nil=>exact .nil
  | cons h _ ih=>exact .cons ((jW (nD _ _ h)).trans h) ih
 refine⟨as.set c a,by rw[jG,List.map_set],wD c (go pa) ((jW (nD _ _ ha)).trans ha)⟩
section
variable {xs:List V}
variable {K:PySem.W.Frag}{a b:Addr}{g:TG}{te:TE}{kW:St}{H:Hp}{Q:VK}
theorem lB (zs:List Int)(hlen:zs.length=xs.length)(hz:xs.length<=20000)(hS:jV K H a xs)
 (hs:∀(i:Nat) x H2,xs[i]?=some x->jM H H2->∀R:VK,(∀H4 z,jM H2 H4->zs[i]?=some z->R (.int z) H4)->g x kW H2 fun mK H3=>te mK H3 R)
 (hd:∀D H2,jM H H2->H D=none->H2 D=some (.lst (zs.map V.int))->Q (.ref D) H2):mS (JO K a) g xC te kW Q H:=by
  refine oG (K:=K) (xs:=xs) (fun i rs H2=>jM H H2/\rs=(zs.take i).map V.int) ⟨jM.refl H,jB⟩ (fun i rs H2 _ z=>z.1.seq hS)
    (fun i rs H2 hi z=>by rw[z.2];simp only[List.length_map,List.length_take];exact mD J) ?_ ?_
  · rintro i x rs H2 hx ⟨sm,rfl⟩
    exact hs i x H2 hx sm (fun y H4=>jM H H4/\(zs.take i).map V.int++[y]=(zs.take (i+1)).map V.int) fun H4 z s4 ez=>⟨sm.trans s4,by rw[mV ez]⟩
  · rintro rs H2 ⟨sm,rfl⟩ D hD
    rw[nH hlen];exact hd D _ (jK sm hD) (sm.free hD) jG
theorem oQ {ys:List V}(zs:List Int)(J0:xs.length=ys.length)(hlen:zs.length=xs.length)(hz:xs.length<=20000)(hS:jV K H a xs)(M8:jV K H b ys)
 (hs:∀(i:Nat) x y H2 p,xs[i]?=some x->ys[i]?=some y->jM H H2->H2 p=none->∀R:VK,(∀H4 z,jM H2 H4->zs[i]?=some z->R (.int z) H4)->g (.ref p) kW (upd H2 p (.tup [x,y])) fun mK H3=>te mK H3 R)
 (hd:∀D H2,jM H H2->H D=none->H2 D=some (.lst (zs.map V.int))->Q (.ref D) H2):mS (Ko K a b) g xC te kW Q H:=by
  refine vV (K:=K) (xs:=xs) (ys:=ys) J0 (fun i rs H2=>jM H H2/\rs=(zs.take i).map V.int) ⟨jM.refl H,jB⟩ (fun i rs H2 _ z=>⟨z.1.seq hS,z.1.seq M8⟩)
    (fun i rs H2 hi z=>by rw[z.2];simp only[List.length_map,List.length_take];exact mD J) ?_ ?_
  · rintro i x y rs H2 p hx hy ⟨sm,rfl⟩ hp
    exact hs i x y H2 p hx hy sm hp (fun y H4=>jM H H4/\(zs.take i).map V.int++[y]=(zs.take (i+1)).map V.int) fun H4 z s4 ez=>⟨sm.trans s4,by rw[mV ez]⟩
  · rintro rs H2 ⟨sm,rfl⟩ D hD
    rw[nH hlen];exact hd D _ (jK sm hD) (sm.free hD) jG
theorem El {ys:List V}(zs:List Bool)(J0:xs.length=ys.length)(hlen:zs.length=xs.length)(hz:xs.length<=20000)(hS:jV K H a xs)(M8:jV K H b ys)
 (hs:∀(i:Nat) x y H2 p,xs[i]?=some x->ys[i]?=some y->jM H H2->H2 p=none->∀R:VK,(∀H4 z,jM H2 H4->zs[i]?=some z->R (.bl z) H4)->g (.ref p) kW (upd H2 p (.tup [x,y])) fun mK H3=>te mK H3 R)
 (hd:∀D H2,jM H H2->H D=none->H2 D=some (.lst (zs.map V.bl))->Q (.ref D) H2):mS (Ko K a b) g xC te kW Q H:=by
  refine vV (K:=K) (xs:=xs) (ys:=ys) J0 (fun i rs H2=>jM H H2/\rs=(zs.take i).map V.bl) ⟨jM.refl H,jB⟩ (fun i rs H2 _ z=>⟨z.1.seq hS,z.1.seq M8⟩)
    (fun i rs H2 hi z=>by rw[z.2];simp only[List.length_map,List.length_take];exact mD J) ?_ ?_
  · rintro i x y rs H2 p hx hy ⟨sm,rfl⟩ hp
    exact hs i x y H2 p hx hy sm hp (fun y H4=>jM H H4/\(zs.take i).map V.bl++[y]=(zs.take (i+1)).map V.bl) fun H4 z s4 ez=>⟨sm.trans s4,by rw[cX,ez,aQ];rfl⟩
  · rintro rs H2 ⟨sm,rfl⟩ D hD
    have:(zs.take xs.length).map V.bl=zs.map V.bl:=by rw[<-hlen,bT]
    rw[this];exact hd D _ (jK sm hD) (sm.free hD) jG
theorem FF (zs:List V)(hlen:zs.length=xs.length)(hz:xs.length<=20000)(hS:jV K H a xs)
 (hs:∀(i:Nat) x H2,xs[i]?=some x->jM H H2->∀R:VK,(∀H4 z,jM H2 H4->zs[i]?=some z->R z H4)->g x kW H2 fun mK H3=>te mK H3 R)
 (hd:∀D H2,jM H H2->H D=none->H2 D=some (.lst zs)->Q (.ref D) H2):mS (JO K a) g xC te kW Q H:=by
  refine oG (K:=K) (xs:=xs) (fun i rs H2=>jM H H2/\rs=zs.take i) ⟨jM.refl H,jB⟩ (fun i rs H2 _ z=>z.1.seq hS)
    (fun i rs H2 hi z=>by rw[z.2];simp only[List.length_take];exact mD J) ?_ ?_
  · rintro i x rs H2 hx ⟨sm,rfl⟩
    exact hs i x H2 hx sm (fun y H4=>jM H H4/\zs.take i++[y]=zs.take (i+1)) fun H4 z s4 ez=>⟨sm.trans s4,by rw[cX,ez];rfl⟩
  · rintro rs H2 ⟨sm,rfl⟩ D hD
    have:zs.take xs.length=zs:=by rw[<-hlen,bT]
    rw[this];exact hd D _ (jK sm hD) (sm.free hD) jG
theorem oT (zs:List (List Int))(hlen:zs.length=xs.length)(hz:xs.length<=20000)(hS:jV K H a xs)
 (hs:∀(i:Nat) x H2,xs[i]?=some x->jM H H2->∀R:VK,(∀H4 c z,jM H2 H4->zs[i]?=some z->H4 c=some (.lst (z.map V.int))->R (.ref c) H4)->g x kW H2 fun mK H3=>te mK H3 R)
 (hd:∀D H2,jM H H2->H D=none->k9 H2 D zs->Q (.ref D) H2):mS (JO K a) g xC te kW Q H:=by
  refine oG (K:=K) (xs:=xs) (fun i rs H2=>jM H H2/\∃as:List Addr,rs=as.map V.ref/\Paired (fun a (x:List Int)=>H2 a=some (.lst (x.map V.int))) as (zs.take i)) ⟨jM.refl H,[],Z,.nil⟩ (fun i rs H2 _ z=>z.1.seq hS)
    (fun i rs H2 hi z=>by obtain⟨as,e,pa⟩:=z.2;rw[e,List.length_map,jY pa,List.length_take];exact mD J) ?_ ?_
  · rintro i x rs H2 hx ⟨sm,as,rfl,pa⟩
    exact hs i x H2 hx sm (fun y H4=>jM H H4/\∃tZ:List Addr,as.map V.ref++[y]=tZ.map V.ref/\Paired (fun a (x:List Int)=>H4 a=some (.lst (x.map V.int))) tZ (zs.take (i+1))) fun H4 c z s4 ez hc=>⟨sm.trans s4,as++[c],by rw[aQ];rfl,by
      rw[cX,ez];exact L2.Paired.BV (kL s4 pa) (.cons hc .nil)⟩
  · rintro rs H2 ⟨sm,as,rfl,pa⟩ D hD
    have:zs.take xs.length=zs:=by rw[<-hlen,bT]
    rw[this] at pa;exact hd D _ (jK sm hD) (sm.free hD) ⟨as,jG,kL (jK (jM.refl _) hD) pa⟩
theorem G3 (zs:List (List Int))(hlen:zs.length=xs.length)(hz:xs.length<=20000)(hS:jV K H a xs)
 (hs:∀(i:Nat) x H2 p,xs[i]?=some x->jM H H2->H2 p=none->∀R:VK,(∀H4 c z,jM H2 H4->zs[i]?=some z->H4 c=some (.lst (z.map V.int))->R (.ref c) H4)->g (.ref p) kW (upd H2 p (.tup [.int i,x])) fun mK H3=>te mK H3 R)
 (hd:∀D H2,jM H H2->H D=none->k9 H2 D zs->Q (.ref D) H2):mS (ME K a) g xC te kW Q H:=by
  refine xN (K:=K) (xs:=xs) (fun i rs H2=>jM H H2/\∃as:List Addr,rs=as.map V.ref/\Paired (fun a (x:List Int)=>H2 a=some (.lst (x.map V.int))) as (zs.take i)) ⟨jM.refl H,[],Z,.nil⟩ (fun i rs H2 _ z=>z.1.seq hS)
    (fun i rs H2 hi z=>by obtain⟨as,e,pa⟩:=z.2;rw[e,List.length_map,jY pa,List.length_take];exact mD J) ?_ ?_
  · rintro i x rs H2 p hx ⟨sm,as,rfl,pa⟩ hp
    exact hs i x H2 p hx sm hp (fun y H4=>jM H H4/\∃tZ:List Addr,as.map V.ref++[y]=tZ.map V.ref/\Paired (fun a (x:List Int)=>H4 a=some (.lst (x.map V.int))) tZ (zs.take (i+1))) fun H4 c z s4 ez hc=>⟨sm.trans s4,as++[c],by rw[aQ];rfl,by
      rw[cX,ez];exact L2.Paired.BV (kL s4 pa) (.cons hc .nil)⟩
  · rintro rs H2 ⟨sm,as,rfl,pa⟩ D hD
    have:zs.take xs.length=zs:=by rw[<-hlen,bT]
    rw[this] at pa;exact hd D _ (jK sm hD) (sm.free hD) ⟨as,jG,kL (jK (jM.refl _) hD) pa⟩
theorem Av {n:Nat}(zs:List (List Int))(hlen:zs.length=n)(hz:n<=20000)
 (hs:∀(i:Nat) H2,i<n->jM H H2->∀R:VK,(∀H4 c z,jM H2 H4->zs[i]?=some z->H4 c=some (.lst (z.map V.int))->R (.ref c) H4)->g (.int i) kW H2 fun mK H3=>te mK H3 R)
 (hd:∀D H2,jM H H2->H D=none->k9 H2 D zs->Q (.ref D) H2):mS (Ci 0 n) g xC te kW Q H:=by
  refine pI (fun i rs H2=>jM H H2/\∃as:List Addr,rs=as.map V.ref/\Paired (fun a (x:List Int)=>H2 a=some (.lst (x.map V.int))) as (zs.take i)) ⟨jM.refl H,[],Z,.nil⟩
    (fun i rs H2 hi z=>by obtain⟨as,e,pa⟩:=z.2;rw[e,List.length_map,jY pa,List.length_take];exact mD J) ?_ ?_
  · rintro i rs H2 hi ⟨sm,as,rfl,pa⟩
    exact hs i H2 hi sm (fun y H4=>jM H H4/\∃tZ:List Addr,as.map V.ref++[y]=tZ.map V.ref/\Paired (fun a (x:List Int)=>H4 a=some (.lst (x.map V.int))) tZ (zs.take (i+1))) fun H4 c z s4 ez hc=>⟨sm.trans s4,as++[c],by rw[aQ];rfl,by
      rw[cX,ez];exact L2.Paired.BV (kL s4 pa) (.cons hc .nil)⟩
  · rintro rs H2 ⟨sm,as,rfl,pa⟩ D hD
    have:zs.take n=zs:=by rw[<-hlen,bT]
    rw[this] at pa;exact hd D _ (jK sm hD) (sm.free hD) ⟨as,jG,kL (jK (jM.refl _) hD) pa⟩
end
theorem tu {a b:Int}(h1:-1000000000000<=a)(h2:a<=1000000000000):IntMulOk a b:=IntMulOk.of_left (fO J J)
abbrev dP (t:Int×Int):PyData:=.tuple [.int t.1,.int t.2]
theorem BB {K:PySem.W.Frag}{H:Hp}:∀{as:List Addr}{ts:List (Int×Int)},Paired (fun a (x:Int×Int)=>H a=some (.tup [.int x.1,.int x.2])) as ts->y6 K H (as.map V.ref) (ts.map dP)
 | _,_,.nil=>.nil
 | _,_,.cons h t=>.cons (.tup (kJ.of h) (.cons (.int _) (.cons (.int _) .nil))) (BB t)
theorem DU:∀ts:List (Int×Int),PyData.canLayAll0 (ts.map dP)=true
 | []=>by simp[PyData.canLayAll0]
 | t::r=>by simp[PyData.canLayAll0,PyData.canLay0,DU r]
theorem Dx:∀ts:List (Int×Int),PyData.depthAll (ts.map dP)<=2
 | []=>by simp[PyData.depthAll]
 | t::r=>by
  have:=Dx r;simp only[List.map_cons,PyData.depthAll,PyData.depth];lia
theorem Dl (ts:List (Int×Int)):shaped (.list (ts.map dP))=true:=by
 have h1:=Dx ts;unfold shaped;rw[fe];exact⟨by simp only[PyData.canLay0];exact DU ts,decide_eq_true (by simp only[PyData.depth];lia)⟩
theorem DR:∀ts us:List (Int×Int),noMixAll (ts.map dP) (us.map dP)=true
 | [],[]=>by simp[noMixAll]
 | [],_::_=>by simp[noMixAll]
 | _::_,[]=>by simp[noMixAll]
 | t::r,u::q=>by simp[noMixAll,noMix,DR r q]
theorem Dp:∀ts us:List (Int×Int),PySem.Spec.sameAll (ts.map dP) (us.map dP)=decide (ts=us)
 | [],[]=>by simp[PySem.Spec.sameAll]
 | [],_::_=>by simp[PySem.Spec.sameAll]
 | _::_,[]=>by simp[PySem.Spec.sameAll]
 | (a,b)::r,(c,d)::q=>by
  simp only[List.map_cons,PySem.Spec.sameAll,PySem.Spec.same,Dp r q]
  by_cases h1:a=c<;>by_cases h2:b=d<;>by_cases h3:r=q<;>simp[h1,h2,h3]
theorem JD {K:PySem.W.Frag}{H:Hp}{a b:Addr}{ts us:List (Int×Int)}{Q:VK}(h1:Hs H a ts)(h2:Hs H b us)(q:Q (.bl (!decide (ts=us))) H):FW K (.ref a) (.ref b) H Q:=by
 obtain⟨as,e1,p1⟩:=h1;obtain⟨bs,e2,p2⟩:=h2;exact⟨_,_,.lst (jV.of e1) (BB p1),.lst (jV.of e2) (BB p2),Dl ts,Dl us,by simp only[noMix];exact DR ts us,by simp only[same];rw[Dp];exact q⟩
theorem xw {X:Cx}{K:PySem.W.Frag}(h:X.K=K):qO X (.type "list") (fun xs H Q=>∃p ys,xs=[.ref p]/\(jV K H p ys\/kJ K H p ys)/\∀l,H l=none->Q (.ref l) (upd H l (.lst ys))):=by subst h;exact nJ
theorem Gd {X:Cx}{K:PySem.W.Frag}{tg e:Expr}{ta:TE}(h:X.K=K)(he:PE X e ta):PI X tg e (KL K ta):=by subst h;exact ki he
theorem Fq {K:PySem.W.Frag}{H:Hp}:∀{as:List Addr}{ls:List (List Int)},Paired (fun a (x:List Int)=>H a=some (.lst (x.map V.int))) as ls->y6 K H (as.map V.ref) (ls.map dL)
 | _,_,.nil=>.nil
 | _,_,.cons h t=>.cons (vC (jV.of h)) (Fq t)
theorem Dg {K:PySem.W.Frag}{H:Hp}{a b:Addr}{ls ms:List (List Int)}{Q:VK}(h1:k9 H a ls)(h2:k9 H b ms)(q:Q (.bl (!decide (ls=ms))) H):FW K (.ref a) (.ref b) H Q:=by
 obtain⟨as,e1,p1⟩:=h1;obtain⟨bs,e2,p2⟩:=h2;exact⟨_,_,.lst (jV.of e1) (Fq p1),.lst (jV.of e2) (Fq p2),A9 ls,A9 ms,by simp only[noMix];exact Aj ls ms,by simp only[same];rw[AQ];exact q⟩
section
variable {g:TG}{te:TE}{kW:St}{H:Hp}{Q:VK}
theorem GK {lo:Int}{n:Nat}(zs:List Int)(hlen:zs.length=n)(hz:n<=20000)
  (hs:∀(i:Nat) H2,i<n->jM H H2->∀R:VK,(∀H4 z,jM H2 H4->zs[i]?=some z->R (.int z) H4)->g (.int (lo+i)) kW H2 fun mK H3=>te mK H3 R)
  (hd:∀D H2,jM H H2->H D=none->H2 D=some (.lst (zs.map V.int))->Q (.ref D) H2):mS (Ci lo n) g xC te kW Q H:=by
 refine vR (fun i rs H2=>jM H H2/\rs=(zs.take i).map V.int) ⟨jM.refl H,jB⟩
  (fun i rs H2 hi z=>by rw[z.2];simp only[List.length_map,List.length_take];exact mD J) ?_ ?_
 .rintro i rs H2 hi ⟨sm,rfl⟩;exact hs i H2 hi sm (fun y H4=>jM H H4/\(zs.take i).map V.int++[y]=(zs.take (i+1)).map V.int) fun H4 z s4 ez=>⟨sm.trans s4,by rw[mV ez]⟩
 .rintro rs H2 ⟨sm,rfl⟩ D hD;rw[nH hlen];exact hd D _ (jK sm hD) (sm.free hD) jG
end
section
variable {K:PySem.W.Frag}{x q m:Str}{st:Stmt}{f C:Addr}{T pm cd:Value}{h:Heap}{mg:Str->Option Value}{ps:List Str}
def BA (x q:Str)(st:Stmt)(ps:List Str):Prop:=∀(kV doc pm:Value)(an:Option Addr)(cdv ct:Value)(us:List Value),us.length=ps.length->bindArgs (PySem.W.fnOf x q (lQ st) (kY st) (jP st) .none kV doc pm an cdv ct) ⟨us,[]⟩=pure (ps.zip us)
theorem G5 (h:ps.length=1)(e:∀(kV doc pm:Value)(an:Option Addr)(cdv ct u0:Value),bindArgs (PySem.W.fnOf x q (lQ st) (kY st) (jP st) .none kV doc pm an cdv ct) ⟨[u0],[]⟩=pure (ps.zip [u0])):BA x q st ps:=fun _ _ _ _ _ _ us hl=>match us,hl.trans h with | [_],_=>e _ _ _ _ _ _ _
theorem rn (h:ps.length=2)(e:∀(kV doc pm:Value)(an:Option Addr)(cdv ct u0 u1:Value),bindArgs (PySem.W.fnOf x q (lQ st) (kY st) (jP st) .none kV doc pm an cdv ct) ⟨[u0,u1],[]⟩=pure (ps.zip [u0,u1])):BA x q st ps:=fun _ _ _ _ _ _ us hl=>match us,hl.trans h with | [_,_],_=>e _ _ _ _ _ _ _ _
theorem xc (h:ps.length=3)(e:∀(kV doc pm:Value)(an:Option Addr)(cdv ct u0 u1 u2:Value),bindArgs (PySem.W.fnOf x q (lQ st) (kY st) (jP st) .none kV doc pm an cdv ct) ⟨[u0,u1,u2],[]⟩=pure (ps.zip [u0,u1,u2])):BA x q st ps:=fun _ _ _ _ _ _ us hl=>match us,hl.trans h with | [_,_,_],_=>e _ _ _ _ _ _ _ _ _
theorem OZ (h:ps.length=4)(e:∀(kV doc pm:Value)(an:Option Addr)(cdv ct u0 u1 u2 u3:Value),bindArgs (PySem.W.fnOf x q (lQ st) (kY st) (jP st) .none kV doc pm an cdv ct) ⟨[u0,u1,u2,u3],[]⟩=pure (ps.zip [u0,u1,u2,u3])):BA x q st ps:=fun _ _ _ _ _ _ us hl=>match us,hl.trans h with | [_,_,_,_],_=>e _ _ _ _ _ _ _ _ _ _
theorem ba5 (h:ps.length=5)(e:∀(kV doc pm:Value)(an:Option Addr)(cdv ct u0 u1 u2 u3 u4:Value),bindArgs (PySem.W.fnOf x q (lQ st) (kY st) (jP st) .none kV doc pm an cdv ct) ⟨[u0,u1,u2,u3,u4],[]⟩=pure (ps.zip [u0,u1,u2,u3,u4])):BA x q st ps:=fun _ _ _ _ _ _ us hl=>match us,hl.trans h with | [_,_,_,_,_],_=>e _ _ _ _ _ _ _ _ _ _ _
def Fa (K:PySem.W.Frag)(x:Str)(st:Stmt):Prop:=∃(f:Addr)(fd:FuncData),DF K x x st f fd/\PySem.W.nsIn K mainGlobals x=some (some (.ref f))
theorem Fa.of (a:PySem.W.nsIn K mainGlobals x=some (some (.ref f)))(l:K.lookup f=some ⟨T,none,.func (PySem.W.fnOf x x (lQ st) (kY st) (jP st) .none .none .none pm none cd .none),⟨[]⟩⟩)(c:PySem.W.codeIn K cd x=true)(k:PySem.W.keepIn K (.ref f)=true):Fa K x st:=⟨f,_,Ge l c k,a⟩
theorem Fa.dn (D:Fa K x st)(X:K.In h)(G:h.Ns mainGlobals mg)(b:BA x x st ps):Dn K mg x st ps :=
 let ⟨f,fd,F,a⟩:=D
 ⟨f,fd,F,F.binds b,fD X G a⟩
theorem Fa.law (D:Fa K x st)(X:K.In h)(G:h.Ns mainGlobals mg)(e:mg x=some (.ref f)):∃fd,DF K x x st f fd:=by
 obtain⟨g,fd,F,a⟩:=D;have e':=e.symm.trans (fD X G a);cases e';exact⟨fd,F⟩
theorem DF.to {fd:FuncData}(F:DF K x q st f fd)(b:BA x q st ["script"])(s:Shared)(v:Value):BindsTo s fd ⟨[v],[]⟩ [("script",v)]:=by
 obtain⟨oc,od,kV,doc,pm,an,cdv,ct,osl,rfl,lk,DV⟩:=F.ex;exact .of_eq (b kV doc pm an cdv ct [v] Z)
def Fm (K:PySem.W.Frag)(C:Addr)(m q:Str)(st:Stmt):Prop:=∃(f:Addr)(fd:FuncData),DF K m q st f fd/\PySem.W.findIn K (.ref C) m=some (some (.ref f))/\PySem.W.isFn K (.ref f)=true/\PySem.W.keepIn K (.ref f)=true
theorem Fm.of (a:PySem.W.findIn K (.ref C) m=some (some (.ref f)))(i:PySem.W.isFn K (.ref f)=true)(l:K.lookup f=some ⟨T,none,.func (PySem.W.fnOf m q (lQ st) (kY st) (jP st) .none .none .none pm none cd .none),⟨[]⟩⟩)(c:PySem.W.codeIn K cd q=true)(k:PySem.W.keepIn K (.ref f)=true):Fm K C m q st:=⟨f,_,Ge l c k,a,i,k⟩
theorem Fm.mn (D:Fm K C m q st)(b:BA m q st ps):Mn K C m q st ps :=
 let ⟨f,fd,F,a,i,k⟩:=D
 ⟨f,fd,F,F.binds b,⟨a,i,k⟩⟩
theorem Fm.kn (D:Fm K C "__init__" q st)(mk:PySem.W.makesIn K C=true)(kc:PySem.W.keepIn K (.ref C)=true)(e:mg x=some (.ref C))(b:BA "__init__" q st ps):Kn K mg C x q st ps :=
 let ⟨f,fd,F,a,i,k⟩:=D
 ⟨f,fd,F,F.binds b,⟨mk,a,i,kc⟩,e⟩
end
section
variable {X:Cx}{k k':Nat}{x:Str}{ps:List Str}{sp:Sp}{a b e:Expr}{es:List Expr}{ta tb te:TE}{t:TA}{p pos pos':Pos}{r:R2}
theorem j8 (i:Nat)(hN:X.N.Nodup)(he:PE X e te)(hi:X.N[i]?=some x:=by exact rfl)(hx:Loc X.env.scope x:=by first | exact Or.inl Z | exact Or.inr Z)(hs:swapsWith e (some (.Name x pos')) pos.line X.env=pure false:=by rfl)(hf:X.fn x=true\/X.env.scope.names.lookup x=some .local:=by first | exact .inl Z | exact .inr Z | assumption) :
  PS X (.Assign [.Name x pos'] e pos) (Gh te (kZ i)):=Ls hN hi hx he hs hf
theorem lG (i:Nat)(hN:X.N.Nodup)(hi:X.N[i]?=some x:=by exact rfl)(hx:Loc X.env.scope x:=by first | exact Or.inl Z | exact Or.inr Z)(hf:X.fn x=true\/X.env.scope.names.lookup x=some .local:=by first | exact .inl Z | exact .inr Z | assumption):PG X (.Name x pos) (kZ i):=nY hN hi hx hf
theorem j7 (D:Df X.prog X.w X.K X.mg X.base k x ps sp)(hr:nC k' X.A)(ha:PA X (e::es) t)(le:k<=k':=by decide)(hg:Gl X x:=by rfl)(ES:(x == ("__debug__":Str))=false:=by decide)
  (he:starEach (e::es) X.env=(false,eval e X.env)::starEach es X.env:=by rfl)(wU:(backTo pos (starEach es X.env)).any (·.1)=false:=by rfl) :
  PE X (.Call (.Name x p) (e::es) [] pos) (Gf sp [] E0 t):=MR D (hr.mono le) hg ha ES he wU
theorem j9 (hr:NC X r)(ha:PE X a ta)(hb:PE X b tb)(hs:C5 b:=by exact fun _ _=>Z):PE X (.Subscript a b pos) (NE r ta tb):=P1 hr ha hb hs
theorem k7 {op:CmpOp}(ho:ux X (compareOp op) r)(ha:PE X a ta)(hb:PE X b tb)(hm:behindInMarks op b=false:=by exact oZ _):PT X (.Compare a [op] [b] pos) (KB (NE r ta tb)):=Dc ho ha hb hm
theorem nI (hm:X.mg "len"=none)(ha:PE X e te)(hg:Gl X "len":=by rfl)(hs:starEach [e] X.env=[(false,eval e X.env)]:=by rfl):PE X (.Call (.Name "len" p) [e] [] pos) (Uq (fun xs H Q=>∃p ys,xs=[.ref p]/\(jV X.K H p ys\/kJ X.K H p ys)/\Q (.int (ys.length:Nat)) H) (A3 te Jm)):=kE tO hg hm GW (jF ha j5 hs) (he:=hs)
theorem kD (ha:PE X e te)(hs:starEach [e] X.env=[(false,eval e X.env)]:=by rfl):PA X [e] (A3 te Jm):=jF ha j5 hs
theorem ke {e':Expr}{YY:TE}(ha:PE X e te)(hb:PE X e' YY)(hs:starEach [e,e'] X.env=(false,eval e X.env)::starEach [e'] X.env:=by rfl)(J3:starEach [e'] X.env=[(false,eval e' X.env)]:=by rfl):PA X [e,e'] (A3 te (A3 YY Jm)):=jF ha (jF hb j5 J3) hs
end
section
variable {mL:List (Str×Nat)}
variable {X:Cx}{elt iter tg:Expr}{ifs:List Expr}{scope:Scope}{pos py HV:Pos}{x y:Str}{cl:List (Str×Addr)}{wi:TI}{g:TG}{tc:TT}{te:TE}
theorem nB {oH:List Str}{C:Addr}{s:Shared}{H:Hp}{fp:List Addr}(i:Nat)(hN:(mL.map (·.1)++oH).Nodup:=by decide +kernel)(hi:(kU X scope cl (mL.map (·.1)++oH) C s H fp).N[i]?=some x:=by exact rfl)(hx:Loc (kU X scope cl (mL.map (·.1)++oH) C s H fp).env.scope x:=by exact Or.inl Z)(hf:(kU X scope cl (mL.map (·.1)++oH) C s H fp).fn x=true\/(kU X scope cl (mL.map (·.1)++oH) C s H fp).env.scope.names.lookup x=some .local:=by exact Or.inr Z):PG (kU X scope cl (mL.map (·.1)++oH) C s H fp) (.Name x pos) (kZ i):=nY hN hi hx hf
theorem tH {oH:List Str}{C:Addr}{s:Shared}{H:Hp}{fp:List Addr}{k:Nat}{p p':Pos}(i j:Nat)(hc:X.calm=true:=by exact rfl)(hN:(mL.map (·.1)++oH).Nodup:=by decide +kernel)(hi:(kU X scope cl (mL.map (·.1)++oH) C s H fp).N[i]?=some x:=by exact rfl)(hj:(kU X scope cl (mL.map (·.1)++oH) C s H fp).N[j]?=some y:=by exact rfl)(hx:Loc (kU X scope cl (mL.map (·.1)++oH) C s H fp).env.scope x:=by exact Or.inl Z)(hy:Loc (kU X scope cl (mL.map (·.1)++oH) C s H fp).env.scope y:=by exact Or.inl Z)(hf:(kU X scope cl (mL.map (·.1)++oH) C s H fp).fn x=true\/(kU X scope cl (mL.map (·.1)++oH) C s H fp).env.scope.names.lookup x=some .local:=by exact Or.inr Z)(hg:(kU X scope cl (mL.map (·.1)++oH) C s H fp).fn y=true\/(kU X scope cl (mL.map (·.1)++oH) C s H fp).env.scope.names.lookup y=some .local:=by exact Or.inr Z):PG (kU X scope cl (mL.map (·.1)++oH) C s H fp) (.Tuple [.Name x p,.Name y p'] k pos) (IM X.K 2 (uS (kZ i) (uS (kZ j) ID))):=me hc (j6 (nY hN hi hx hf) (j6 (nY hN hj hy hg) lC))
theorem m5 (mL:List (Str×Nat))(oH:List Str)(hi:PI X tg iter wi)
  (hb:∀C s H fp,PG (kU X scope cl (mL.map (·.1)++oH) C s H fp) tg g/\Kw (kU X scope cl (mL.map (·.1)++oH) C s H fp) ifs tc/\PE (kU X scope cl (mL.map (·.1)++oH) C s H fp) elt te)
  (hclos:closureFor scope X.env=pure cl:=by exact rfl)(hc:X.calm=true:=by exact rfl)(qh:scope.kind=.function:=by exact rfl)
  (qL:∀x∈scope.names,x.2=.local->scope.names.lookup x.1=some .local:=by decide +kernel)(qg:∀y∈scope.names,y.2≠.cell:=by decide +kernel)
  (qY:∀y∈scope.names,y.2=.free->∃c,cl.lookup y.1=some c:=by exact Dz Z)
  (sf:∀x c,cl.lookup x=some c->X.env.cells.lookup x=some c:=by repeat first | exact CW | refine AJ Z ?_)
  (wV:∀p∈mL,X.N[p.2]?=some p.1/\(X.env.kindOf p.1=some .cell\/X.env.kindOf p.1=some .free)/\((relabel scope X.env).names.lookup p.1=some .cell\/(relabel scope X.env).names.lookup p.1=some .free)/\∃c,cl.lookup p.1=some c:=by repeat first | exact DA | refine Au ⟨Z,Or.inl Z,Or.inl Z,_,Z⟩ ?_)
  (hl:rG mL.length g:=by first | exact uT O | exact uQ O O | exact pC O O O)
  (hs:∀x,foldedSetIterable iter X.env x=pure x:=by intro _;rfl) :
  PE X (.ListComp elt [⟨tg,iter,ifs,0⟩] scope pos) (AX mL oH.length wi g tc te):=Aw hc hclos qh qL qg qY sf wV hl hi hb hs
theorem sM (i:Nat)(mL:List (Str×Nat))(oH:List Str)(hN:X.N.Nodup)(hi:PI X tg iter wi)
  (hb:∀C s H fp,PG (kU X scope cl (mL.map (·.1)++oH) C s H fp) tg g/\Kw (kU X scope cl (mL.map (·.1)++oH) C s H fp) ifs tc/\PE (kU X scope cl (mL.map (·.1)++oH) C s H fp) elt te)
  (hclos:closureFor scope X.env=pure cl:=by exact rfl)(hc:X.calm=true:=by exact rfl)(qh:scope.kind=.function:=by exact rfl)
  (qL:∀x∈scope.names,x.2=.local->scope.names.lookup x.1=some .local:=by decide +kernel)(qg:∀y∈scope.names,y.2≠.cell:=by decide +kernel)
  (qY:∀y∈scope.names,y.2=.free->∃c,cl.lookup y.1=some c:=by exact Dz Z)
  (sf:∀x c,cl.lookup x=some c->X.env.cells.lookup x=some c:=by repeat first | exact CW | refine AJ Z ?_)
  (wV:∀p∈mL,X.N[p.2]?=some p.1/\(X.env.kindOf p.1=some .cell\/X.env.kindOf p.1=some .free)/\((relabel scope X.env).names.lookup p.1=some .cell\/(relabel scope X.env).names.lookup p.1=some .free)/\∃c,cl.lookup p.1=some c:=by repeat first | exact DA | refine Au ⟨Z,Or.inl Z,Or.inl Z,_,Z⟩ ?_)
  (hl:rG mL.length g:=by first | exact uT O | exact uQ O O | exact pC O O O)
  (Xa:X.N[i]?=some y:=by exact rfl)(hy:Loc X.env.scope y:=by first | exact Or.inl Z | exact Or.inr Z)
  (hs:∀x,foldedSetIterable iter X.env x=pure x:=by intro _;rfl)
  (Xb:swapsWith (.ListComp elt [⟨tg,iter,ifs,0⟩] scope pos) (some (.Name y py)) HV.line X.env=pure true:=by rfl)
  (hf:X.fn y=true\/X.env.scope.names.lookup y=some .local:=by first | exact .inl Z | exact .inr Z | assumption) :
  PS X (.Assign [.Name y py] (.ListComp elt [⟨tg,iter,ifs,0⟩] scope pos) HV) (Gh (AX mL oH.length wi g tc te) (kZ i)):=BN hN Xa hy hc hclos qh qL qg qY sf wV hl hi hb hs Xb hf
end
theorem kN {P:Program}{w:World}{K:PySem.W.Frag}{mg:Str->Option Value}{base:Heap}{x:Str}{st:Stmt}{N ps:List Str}{k:Nat}{sp:Sp}(D:Dn K mg x st ps)(S:jS N ps (jP st))
  (hbody:∀(f:Addr)(cdv:Value)(A:Around)(outer:List Env)(s:Shared)(H:Hp)(vs:List V)(Q:VK)(E:XK),nC k (A.deeper (envOfC x (jP st) s.heap.objs.size f cdv))->N.Nodup->sp vs H Q E ->
   ∃t,xK (xt DL P w K mg base N x (jP st) f cdv A outer s H E).EZ (kY st) t/\t { nx:=fun _ H'=>Q .non H',rt:=Q } (start N vs) H)
  (len:∀vs H Q E,sp vs H Q E->vs.length=ps.length:=by intro _ _ _ _ h;cases h;subst_vars;rfl):Df P w K mg base (k+1) x ps sp:=by
 obtain⟨f,fd,F,b,m⟩:=D.ex;exact⟨f,fd,F.ok S len (fun cdv A outer s H vs Q E hr h=>hbody f cdv A outer s H vs Q E hr S.nd h),b,F.kp,m⟩
theorem O9 (n:Nat):Builtin.Range.rangeSize ((n:Int)-1) (-1) (-1)=(n:Nat):=by
 unfold Builtin.Range.rangeSize;rw[ak O];split
 .have:((n:Int)-1 - -1-1) / - -1=(n:Int)-1:=by
   rw[show (- -1:Int)=1 by decide,Int.ediv_one];lia
  lia
 .lia
section
variable {X:Cx}{tg:Expr}
def Pb (ta:TA):TI:=fun σ H R=>ta σ H fun vs H1=>∃n:Nat,vs=[.int ((n:Int)-1),.int (-1),.int (-1)]/\n<=1000000/\R (Gk ((n:Int)-1) (-1) n) H1
theorem D9 {a b c:Expr}{ta:TA}{p pos:Pos}(hg:Gl X "range")(hm:X.mg "range"=none)(ha:PA X [a,b,c] ta)(he:starEach [a,b,c] X.env=(false,eval a X.env)::starEach [b,c] X.env:=by rfl)(wU:(backTo pos (starEach [b,c] X.env)).any (·.1)=false:=by rfl) :
  PI X tg (.Call (.Name "range" p) [a,b,c] [] pos) (Pb ta):=by
 intro pins s σ H R I h;refine Call_ (pT I hg hm boot_range (cy (mH (ha pos pins s σ H _ I h) fun us s1 ⟨vs,H1,I1,r1,q1⟩=>?_) he wU));obtain⟨n,e,n1,q⟩:=q1;subst e;cases r1 with
 | cons r rr =>
  cases rr with
  | cons r' rr =>
   cases rr with
   | cons RM rr =>
    cases rr;obtain⟨t,rfl⟩:=r;obtain⟨t',rfl⟩:=r';obtain⟨NO,rfl⟩:=RM;obtain⟨i,hi⟩:∃i:Int,i=(n:Int)-1:=⟨_,Z⟩;have sz:=O9 n;rw[<-hi] at sz q ⊢;refine call_range_3 J ?_ (.inl (iE J));have sm:Builtin.Range.small i (-1) (-1)=true:=by
     unfold Builtin.Range.small;rw[sz];simp only[Builtin.Range.rangeFitsLong,Bool.and_eq_true,Bool.or_eq_true,decide_eq_true_eq,beq_iff_eq,if_true,gt_iff_lt];have c1:¬((0:Int) < -1):=O;simp only[c1,if_false];exact⟨J,.inr O⟩
    refine wpAny_pyIter_range (jx ..) sm ?_;have I2:Inv X pins σ H1 { s1 with heap:=s1.heap.push { cls:=.type "range",data:=.fields #[.int i t,.int (-1) t',.int (-1) NO] },toks:=s1.toks }:=I1.kept fun b o e=>aP _ e;refine⟨(s1.heap.push { cls:=.type "range",data:=.fields #[.int i t,.int (-1) t',.int (-1) NO] }).objs.size,[(s1.heap.push { cls:=.type "range",data:=.fields #[.int i t,.int (-1) t',.int (-1) NO] }).objs.size],_,_,H1,Z,
     I2.kept (t':=s1.toks) fun b o e=>aP _ e,Am _ i (-1) n,?_,fun b hb=>?_,q⟩
    .have e1:i+((0:Nat):Int)*(-1)=i:=by simp
     have e2:((n:Nat):Int)-((0:Nat):Int)=Builtin.Range.rangeSize i (-1) (-1):=by rw[sz];simp
     show IsRangeIter _ _ (i+((0:Nat):Int)*(-1)) (((n:Nat):Int)-((0:Nat):Int)) (-1)
     rw[e1,e2];exact bX _ Z
    .have e:b=(s1.heap.push { cls:=.type "range",data:=.fields #[.int i t,.int (-1) t',.int (-1) NO] }).objs.size:=by simpa using hb
     subst e;exact I2.Cy (aH _) (I2.hok.fresh (aH _))
end
theorem Fx {X:Cx}{ss:List Stmt}:xK X ss (fun _ _ _=>dZ):=fun _ _ _ _ _ _ h=>h.elim
end L2
namespace Pt
def Gr (m b:Int):Prop:=∀d,2<=d->d<b->¬d∣m
def mR (p:Int):Prop:=2<=p/\∀d,2<=d->d<p->¬d∣p
def Hi (p q:Int):Prop:=∃e:Nat,q=p^(e+1)
def rj:List (Int×Int)->Int
 | []=>1
 | a::r=>a.2*rj r
theorem Om (a:Int):a^(0+1)=a:=by rw[bq,eI,cQ]
theorem qJ:∀(a b:List (Int×Int)),rj (a++b)=rj a*rj b
 | [],b=>by simp[rj]
 | x::r,b=>by simp[rj,qJ r b,Int.mul_assoc]
structure Row (x:Int×Int):Prop where
 pr:mR x.1
 pw:Hi x.1 x.2
structure xo (n:Int)(ps:List (Int×Int))(left p:Int):Prop where
 prd:rj ps*left=n
 Mr:Gr left p
 row:∀x∈ps,Row x
 low:∀x∈ps,x.1<p
 srt:ps.Pairwise fun a b=>a.1<b.1
structure Parts (n:Int)(ps:List (Int×Int)):Prop where
 prd:rj ps=n
 row:∀x∈ps,Row x
 srt:ps.Pairwise fun a b=>a.1<b.1
theorem start (n:Int):xo n [] n 2 :=
 ⟨by simp[rj],fun d h1 h2=>by lia,fun x h=>(nomatch h),fun x h=>(nomatch h),List.Pairwise.nil⟩
structure yY (m p q:Int):Prop where
 pos:1<=q
 pw:∃e:Nat,q=p^e
 dv:q∣m
theorem q0 (m p:Int):yY m p 1:=⟨J,⟨0,jB⟩,Int.one_dvd m⟩
theorem q1 {m p q:Int}(hp:2<=p)(h:yY m p q)(d:m%(q*p)=0):yY m p (q*p):=by
 obtain⟨h1,⟨e,he⟩,h3⟩:=h;have:=ay hp (show 0<=q by lia);exact⟨J,⟨e+1,by rw[he,bq]⟩,bO d⟩
theorem Jf {m p q:Int}(hm:1<=m)(h:yY m p q):q<=m:=aT J h.dv
theorem FO {p q:Int}(hp:2<=p)(h:1<=q):q<q*p:=by
 have:=ay hp (show 0<=q by lia);lia
structure B7 (m p q:Int):Prop where
 inv:yY m p q
 no:¬q*p∣m
theorem q2 {m p q:Int}(h:yY m p q)(d:¬m%(q*p)=0):B7 m p q:=⟨h,fun z=>d (bP z)⟩
theorem HJ {n:Int}{ps:List (Int×Int)}{left p q:Int}(h:xo n ps left p)(hq:B7 left p q)(h1:¬q > 1):xo n ps left (p+1):=by
 have e:q=1:=by have:=hq.inv.pos;lia
 have no:¬p∣left:=by have:=hq.no;rw[e,cQ] at this;exact this
 refine⟨h.prd,fun d h2 h3=>?_,h.row,fun x hx=>by have:=h.low x hx;lia,h.srt⟩
 by_cases c:d=p
 .rw[c];exact no
 .exact h.Mr d h2 J
theorem GG {n:Int}{ps:List (Int×Int)}{left p q:Int}(hp:2<=p)(h:xo n ps left p)(hq:B7 left p q)(h1:q > 1):xo n (ps++[(p,q)]) (left/q) (p+1):=by
 obtain⟨⟨q1,⟨e,he⟩,⟨c,hc⟩⟩,no⟩:=hq;have ec:left/q=c:=by rw[hc];exact aG c J
 cases e with
 | zero=>rw[he] at h1;simp at h1
 | succ e =>
  have pq:p∣q:=by rw[he,bq];exact fT _ _
  have pl:p∣left:=bB pq ⟨c,hc⟩;have cl:c∣left:=⟨q,by rw[hc,aB]⟩;have HW:mR p:=⟨hp,fun d h2 h3 z=>h.Mr d h2 h3 (bB z pl)⟩;refine⟨?_,?_,?_,?_,?_⟩
  .rw[qJ,ec];simp only[rj,Int.mul_one];rw[aK,<-hc];exact h.prd
  .rw[ec];intro d h2 h3 z
   by_cases k:d=p
   .apply no;obtain⟨f,hf⟩:=z;exact⟨f,by rw[hc,hf,k,aK]⟩
   .exact h.Mr d h2 J (bB z cl)
  .intro x hx;rcases List.mem_append.mp hx with hx | hx
   .exact h.row x hx
   .obtain rfl:=List.mem_singleton.mp hx;exact⟨HW,⟨e,he⟩⟩
  .intro x hx;rcases List.mem_append.mp hx with hx | hx
   .have:=h.low x hx;lia
   .obtain rfl:=List.mem_singleton.mp hx;show p<p+1;lia
  .rw[eY];refine⟨h.srt,gq _ _,fun a ha b hb=>?_⟩;obtain rfl:=List.mem_singleton.mp hb;exact h.low a ha
theorem AO {left q:Int}(h:1<=left)(hd:q∣left)(hq:1<=q):1<=left/q/\left/q<=left:=by
 obtain⟨c,hc⟩:=hd;have ec:left/q=c:=by rw[hc];exact aG c J
 rw[ec];have cp:1<=c:=by
  rcases Int.lt_or_le 0 c with z | z
  .lia
  .have:=ay z (show 0<=q by lia);lia
 have:=aq hq (show 0<=c by lia);lia
theorem FV {left p:Int}(hp:2<=p)(h:Gr left p)(hb:¬p*p<=left)(h1:left > 1):mR left/\p<=left:=by
 have pl:p<=left:=by
  rcases Int.lt_or_le left p with z | z
  .exact absurd (cT left) (h left J z)
  .exact z
 refine⟨⟨J,fun d h2 h3 hd=>?_⟩,pl⟩;obtain⟨c,hc⟩:=id hd
 by_cases dp:d<p
 .exact h d h2 dp hd
 .have c2:2<=c:=by
   rcases Int.lt_or_le c 2 with z | z
   .have:c<=1:=J;have:=ay this (show 0<=d by lia);lia
   .exact z
  by_cases cp:c<p
  .exact h c c2 cp ⟨d,by rw[hc,aB]⟩
  .have a1:=ay (show p<=c by lia) (show 0<=d by lia);have a2:=aq (show p<=d by lia) (show 0<=p by lia);lia
theorem Pu {n:Int}{ps:List (Int×Int)}{left p:Int}(hp:2<=p)(h:xo n ps left p)(hb:¬p*p<=left)(h1:left > 1):Parts n (ps++[(left,left)]):=by
 obtain⟨pr,pl⟩:=FV hp h.Mr hb h1;refine⟨?_,?_,?_⟩
 .rw[qJ];simp only[rj,Int.mul_one];exact h.prd
 .intro x hx;rcases List.mem_append.mp hx with hx | hx
  .exact h.row x hx
  .obtain rfl:=List.mem_singleton.mp hx;exact⟨pr,⟨0,(Om left).symm⟩⟩
 .rw[eY];refine⟨h.srt,gq _ _,fun a ha b hb=>?_⟩;obtain rfl:=List.mem_singleton.mp hb;have:=h.low a ha;show a.1<left;lia
theorem LH {n:Int}{ps:List (Int×Int)}{left p:Int}(h:xo n ps left p)(h0:1<=left)(h1:¬left > 1):Parts n ps:=by
 have:left=1:=J;refine⟨?_,h.row,h.srt⟩;have:=h.prd;rw[‹left=1›,bV] at this;exact this
theorem vU {p:Int}(hp:2<=p)(k:Nat):1<=p^k:=by
 induction k with
 | zero=>simp
 | succ k ih =>
  rw[bq];have:=ay hp (show 0<=p^k by lia);lia
theorem AT {p:Int}(hp:2<=p){k e:Nat}(h:k<=e):p^k<=p^e:=by
 obtain⟨d,rfl⟩:=Nat.exists_eq_add_of_le h;rw[eC];have a:=vU hp k;have:=ay (vU hp d) (show 0<=p^k by lia);lia
theorem sK {x:Int×Int}(h:Row x):2<=x.1/\x.1<=x.2:=by
 obtain⟨e,he⟩:=h.pw;refine⟨h.pr.1,?_⟩;have a:=AT h.pr.1 (show 0+1<=e+1 by lia);rw[<-he,Om] at a;exact a
theorem qI:∀(ps:List (Int×Int)),(∀x∈ps,Row x)->1<=rj ps
 | [],_=>by simp[rj]
 | x::r,h=>by
  have a:=sK (h x av);have b:=qI r fun y hy=>h y (ar _ hy);have c:=aq (show 1<=x.2 by lia) (show 0<=rj r by lia);simp only[rj];lia
theorem Bj:∀(ps:List (Int×Int)),(∀x∈ps,Row x)->∀x∈ps,x.2<=rj ps
 | [],_,_,h=>nomatch h
 | y::r,h,x,hx=>by
  have a:=sK (h y av);have h':∀z∈r,Row z:=fun z hz=>h z (ar _ hz);have b:=qI r h';simp only[rj];rcases List.mem_cons.mp hx with e | e
  .rw[e];have c:=ay b (show 0<=y.2 by lia);lia
  .have i:=Bj r h' x e;have c:=aq (show 1<=y.2 by lia) (show 0<=rj r by lia);lia
variable {p:Int}
theorem IH {a:Int}(hp:mR p)(h:¬p∣a):Nat.Coprime p.natAbs a.natAbs:=by
 have g1:(Nat.gcd p.natAbs a.natAbs)∣p.natAbs:=Nat.gcd_dvd_left _ _;have g2:(Nat.gcd p.natAbs a.natAbs)∣a.natAbs:=Nat.gcd_dvd_right _ _;have e1:((Nat.gcd p.natAbs a.natAbs:Nat):Int)∣p:=i5.mpr g1;have e2:((Nat.gcd p.natAbs a.natAbs:Nat):Int)∣a:=i5.mpr g2;have p2:=hp.1;have gp:0<Nat.gcd p.natAbs a.natAbs:=Nat.gcd_pos_of_pos_left _ J;have gl:((Nat.gcd p.natAbs a.natAbs:Nat):Int)<=p:=aT J e1;show Nat.gcd p.natAbs a.natAbs=1
 rcases Nat.lt_or_ge (Nat.gcd p.natAbs a.natAbs) 2 with z | z
 .lia
 .rcases Int.lt_or_le ((Nat.gcd p.natAbs a.natAbs:Nat):Int) p with y | y
  .exact absurd e1 (hp.2 _ J y)
  .have:((Nat.gcd p.natAbs a.natAbs:Nat):Int)=p:=J;rw[this] at e2;exact absurd e2 h
theorem euclid {a b:Int}(hp:mR p)(h:p∣a*b):p∣a\/p∣b:=by
 by_cases c:p∣a
 .exact .inl c
 .right;have q:=IH hp c;have h':p.natAbs∣a.natAbs*b.natAbs:=by rw[<-aM];exact aX.mpr h
  exact aX.mp (q.dvd_of_dvd_mul_left h')
theorem r6 {p r:Int}(hp:mR p)(hr:mR r):∀e:Nat,p∣r^e->p=r
 | 0,h=>by
  have:=aT (show (0:Int)<1 by decide) (show p∣1 by simpa using h);have:=hp.1;lia
 | e+1,h=>by
  rw[bq] at h;rcases euclid hp h with z | z
  .exact r6 hp hr e z
  .have l:=aT (by have:=hr.1;lia) z;rcases Int.lt_or_le p r with y | y
   .exact absurd z (hr.2 p hp.1 y)
   .lia
theorem vn {p:Int}(hp:mR p):∀(ps:List (Int×Int)),(∀x∈ps,Row x)->p∣rj ps->∃x∈ps,x.1=p
 | [],_,h=>by
  have:=aT O (show p∣1 from h);have:=hp.1;lia
 | x::r,h,d=>by
  have d':p∣x.2*rj r:=d;rcases euclid hp d' with z | z
  .obtain⟨e,he⟩:=(h x List.mem_cons_self).pw;rw[he] at z;exact⟨x,av,(r6 hp (h x av).pr _ z).symm⟩
  .obtain⟨y,hy,e⟩:=vn hp r (fun y hy=>h y (List.mem_cons_of_mem _ hy)) z;exact⟨y,ar _ hy,e⟩
theorem Lw (hp:2<=p)(k:Nat):p^k≠0:=by have:=vU hp k;lia
theorem IN {j e:Nat}(h:j+1<=e):p^(j+1)∣p^e:=by
 obtain⟨d,rfl⟩:=Nat.exists_eq_add_of_le h;rw[eC p (j+1) d];exact cY _ _
structure DI (n c:Int)(low high:List Int):Prop where
 sq:∀x,1<=x->x<c->x*x<=n
 ls:low.Pairwise (· < ·)
 lm:∀x,x∈low↔(1<=x/\x<c)/\x∣n
 hs:high.Pairwise (· < ·)
 hm:∀y,y∈high↔∃x,(1<=x/\x<c)/\x*x≠n/\x*y=n
def Gg (n s:Int):Prop :=
 ((∃p,mR p/\p*p∣n)/\s=0)\/((∀p,mR p->¬p*p∣n)/\∃l:List Int,l.Nodup/\(∀p,p∈l↔mR p/\p∣n)/\s=(-1)^l.length)
theorem Ab {n:Int}(h:2<=n):∃p,mR p/\p∣n:=by
 have:∀k:Nat,∀c:Int,2<=c->(n-c).toNat=k->c<=n->(∀d,2<=d->d<c->¬d∣n)->∃p,mR p/\p∣n:=by
  intro k
  induction k with
  | zero =>
   intro c c2 ek cn no;have:c=n:=J;subst this;exact⟨c,⟨c2,no⟩,cT _⟩
  | succ k ih =>
   intro c c2 ek cn no
   by_cases z:c∣n
   .exact⟨c,⟨c2,fun d a b y=>no d a b (bB y z)⟩,z⟩
   .refine ih (c+1) J J J fun d a b=>?_
    by_cases q:d=c
    .subst q;exact z
    .exact no d a J
 exact this _ 2 J Z h (fun d a b=>by lia)
open Classical in
noncomputable def mu (n:Int):Int:=if h:∃s,Gg n s then Classical.choose h else 0
theorem take_snoc {α:Type}{ps:List α}{i:Nat}{x:α}(h:ps[i]?=some x):ps.take (i+1)=ps.take i++[x]:=by rw[cX,h];rfl
structure LI (n0 n p done:Int):Prop where
 ex:∃m,n0=m*n/\Gg m done/\1<=m/\(∀r,mR r->r∣m->r<p)
 no:Gr n p
variable {ps:List (Int×Int)}
theorem uz {x:Int×Int}(h:x∈ps)(srt:ps.Pairwise fun a b=>a.1<b.1)(row:∀y∈ps,Row y):∃m,rj ps=x.2*m/\¬x.1∣m/\1<=m:=by
 obtain⟨a,b,rfl⟩:=List.append_of_mem h;rw[eY,fF] at srt;have ra:∀y∈a,Row y:=fun y hy=>row y (cD _ hy);have rb:∀y∈b,Row y:=fun y hy=>row y (bp _ (ar _ hy));have rx:=row x h;refine⟨rj a*rj b,?_,fun z=>?_,?_⟩
 .rw[qJ];simp only[rj];rw[Int.mul_left_comm]
 .rcases euclid rx.pr z with z | z
  .obtain⟨y,hy,e⟩:=vn rx.pr a ra z;have:=srt.2.2 y hy x av;lia
  .obtain⟨y,hy,e⟩:=vn rx.pr b rb z;have:=srt.2.1.1 y hy;lia
 .have:=cH (qI a ra) (qI b rb) J (by have:=qI a ra;lia);lia
theorem n9 {n:Int}(h:Parts n ps)(x:Int×Int):x∈ps↔mR x.1/\x.1∣n/\Hi x.1 x.2/\x.2∣n/\¬x.2*x.1∣n:=by
 constructor
 .intro hx;have rx:=h.row x hx;obtain⟨m,e,nd,m1⟩:=uz hx h.srt h.row;rw[h.prd] at e;obtain⟨k,hk⟩:=rx.pw;have dq:x.2∣n:=⟨m,e⟩;refine⟨rx.pr,bB ?_ dq,rx.pw,dq,fun z=>nd ?_⟩
  .rw[hk,bq];exact fT _ _
  .rw[e] at z;exact h8 (by have:=sK rx;lia) z
 .rintro⟨pr,d,⟨k,hk⟩,dq,nd⟩;rw[<-h.prd] at d;obtain⟨y,hy,e⟩:=vn pr ps h.row d;obtain⟨m,e2,nm,m1⟩:=uz hy h.srt h.row;rw[h.prd] at e2;obtain⟨j,hj⟩:=(h.row y hy).pw;rw[e] at hj nm;have p2:=pr.1;have le:∀{a b:Nat}{c:Int},¬x.1∣c->x.1^a∣x.1^b*c->a<=b:=by
   intro a b c hc hd;rcases Nat.lt_or_ge b a with z | z
   .obtain⟨t,rfl⟩:=Nat.exists_eq_add_of_le z;rw[show b+1+t=b+(t+1) by lia,eC] at hd;have:=h8 (Lw p2 b) hd;exact absurd (bB ⟨x.1^t,by rw[bq,aB]⟩ this) hc
   .exact z
  have k1:k+1<=j+1:=le nm (by rw[<-hj,<-e2,<-hk];exact dq);have k2:¬k+1+1<=j+1:=fun z=>nd (by
   rw[hk,<-bq,e2,hj];exact bB (IN z) (cY _ _))
  have:k=j:=J;have q:x=y:=Prod.ext e.symm (by rw[hk,hj,this]);rw[q];exact hy
theorem AY:∀{a b:List (Int×Int)},a.Pairwise (fun x y=>x.1<y.1)->b.Pairwise (fun x y=>x.1<y.1)->(∀x,x∈a↔x∈b)->a=b
 | [],[],_,_,_=>rfl
 | [],y::b,_,_,h=>by have:=(h y).mpr av;cases this
 | x::a,[],_,_,h=>by have:=(h x).mp av;cases this
 | x::a,y::b,ha,hb,h=>by
  rw[fF] at ha hb;have e:x=y:=by
   have h1:=(h x).mp av;have h2:=(h y).mpr av;rcases List.mem_cons.mp h1 with e | e
   .exact e
   .rcases List.mem_cons.mp h2 with f | f
    .exact f.symm
    .have:=hb.1 x e;have:=ha.1 y f;lia
  subst e;congr 1;refine AY ha.2 hb.2 fun z=>?_;have q:=h z;rw[fv,fv] at q;constructor
  .intro hz;rcases q.mp (.inr hz) with e | e
   .subst e;have:=ha.1 z hz;lia
   .exact e
  .intro hz;rcases q.mpr (.inr hz) with e | e
   .subst e;have:=hb.1 z hz;lia
   .exact e
theorem oE {n:Int}{a b:List (Int×Int)}(ha:Parts n a)(hb:Parts n b):a=b:=AY ha.srt hb.srt fun x=>by rw[n9 ha,n9 hb]
structure CI (n c:Int)(k:Nat):Prop where
 ex:∃low high,DI n c low high/\low.length+high.length=k
def rt (n:Nat):Nat->Nat
 | 0=>0
 | d+1=>bif Nat.ble ((d+1)*(d+1)) n then d+1 else rt n d
end Pt
namespace Eh
def G (a b:Int):Int:=(Int.gcd a b:Nat)
def ab (a:Int):Int:=if a<0 then -a else a
theorem BG (a:Int):ab a=(a.natAbs:Int):=by unfold ab;split<;>lia
theorem V7 (a b:Int):G (ab a) (ab b)=G a b:=by
 unfold G;rw[BG,BG];simp[Int.gcd]
theorem FG (a b:Int):0<=G a b:=i4 _
theorem start (a b:Int):0<=ab a/\0<=ab b/\G (ab a) (ab b)=G a b:=by
 refine⟨?_,?_,V7 a b⟩<;>(rw[BG];lia)
theorem turn {a b g s:Int}(hg:0<=g)(hs:0<=s)(h:G g s=G a b)(ne:¬s=0) :
  0<=s/\0<=Int.fmod g s/\G s (Int.fmod g s)=G a b:=by
 have e:=cP g hs;refine⟨hs,?_,?_⟩
 .rw[e];exact aD _ ne
 .rw[e,<-h];unfold G;congr 1;obtain⟨m,rfl⟩:=Int.eq_ofNat_of_zero_le hg;obtain⟨n,rfl⟩:=Int.eq_ofNat_of_zero_le hs;rw[<-Int.natCast_emod];show Nat.gcd n (m%n)=Nat.gcd m n
  rw[iH n,<-Nat.gcd_rec,iH]
theorem less {g s:Int}(hs:0<=s)(ne:¬s=0):(Int.fmod g s).toNat<s.toNat:=by
 have e:=cP g hs;have:=az g (show 0<s by lia);have:=aD g ne;lia
theorem out {a b g s:Int}(hg:0<=g)(h:G g s=G a b)(z:s=0):g=G a b:=by
 subst z;unfold G at *;have:Int.gcd g 0=g.natAbs:=Int.gcd_zero_right g;lia
theorem OA {a b g s:Int}(hg:0<=g)(hs:0<=s)(h:G g s=G a b)(ne:¬s=0):0<=g%s/\G s (g%s)=G a b/\(g%s).toNat<s.toNat:=by
 have t:=turn hg hs h ne;have l:=less (g:=g) hs ne;rw[cP g hs] at t l;exact⟨t.2.1,t.2.2,l⟩
structure Bk (st n r c lr lc:Int):Prop where
 g:G r lr=G st n
 x:∃x,r=st*c+n*x
 y:∃y,lr=st*lc+n*y
theorem bk0 {st n:Int}(hn:0<n):0<=n/\0<=Int.fmod st n/\Int.fmod st n<n+1/\Bk st n n 0 (Int.fmod st n) 1:=by
 have e:=cP st (gU hn);have h0:=aD st (show n≠0 by lia);have h1:=az st hn;refine⟨J,J,J,?_,⟨1,?_⟩,⟨-(st/n),?_⟩⟩
 .rw[e];unfold G;congr 1;have d:=bK st n;have q:Int.gcd n (st%n+n*(st/n))=Int.gcd n (st%n):=Int.gcd_add_mul_left_right ..;rw[d] at q;rw[<-q,Int.gcd_comm]
 .simp
 .rw[e,fJ,bV];have:=bK st n;lia
theorem bkt {st n r c lr lc:Int}(hr:0<=r)(h0:0<=lr)(ne:¬lr=0)(h:Bk st n r c lr lc) :
  0<=lr/\0<=r-Int.fdiv r lr*lr/\Bk st n lr lc (r-Int.fdiv r lr*lr) (c-Int.fdiv r lr*lc):=by
 have e:=dY r h0;rw[e];have m:r-r/lr*lr=r%lr:=by
  have:=bK r lr;rw[aB] at this;lia
 rw[m];obtain⟨hg,⟨x,hx⟩,⟨y,hy⟩⟩:=h;have t:=turn hr h0 hg ne;have f:=cP r h0;rw[f] at t;refine⟨h0,t.2.1,t.2.2,⟨y,hy⟩,⟨x-r/lr*y,?_⟩⟩;rw[<-m,cM,cM];have a1:st*(r/lr*lc)=r/lr*(st*lc):=by rw[i9]
 have a2:n*(r/lr*y)=r/lr*(n*y):=by rw[i9]
 have a3:r/lr*lr=r/lr*(st*lc)+r/lr*(n*y):=by rw[<-eZ,<-hy]
 lia
theorem L8 {r lr:Int}(h0:0<=lr)(ne:¬lr=0):(r-Int.fdiv r lr*lr).toNat<lr.toNat:=by
 have e:=dY r h0;rw[e];have m:r-r/lr*lr=r%lr:=by
  have:=bK r lr;rw[aB] at this;lia
 rw[m];have:=az r (show 0<lr by lia);have:=aD r ne;lia
theorem WB {st n:Int}(hn:0<n):0<=st%n/\st%n<n/\Bk st n n 0 (st%n) 1:=by
 have h:=bk0 (st:=st) hn;rw[cP st (gU hn)] at h;exact⟨h.2.1,az st hn,h.2.2.2⟩
theorem Wy {st n r c lr lc:Int}(hr:0<=r)(h0:0<=lr)(ne:¬lr=0)(h:Bk st n r c lr lc) :
  0<=r-r/lr*lr/\(r-r/lr*lr)<lr/\(r-r/lr*lr).toNat<lr.toNat/\Bk st n lr lc (r-r/lr*lr) (c-r/lr*lc):=by
 have t:=bkt hr h0 ne h;have l:=L8 (r:=r) h0 ne;rw[dY r h0] at t l;refine⟨t.2.1,J,l,t.2.2⟩
def us (n:Int)(i:Nat):List Int:=((List.range i).map fun (j:Nat)=>(1+(j:Int))).filter fun k=>decide (G k n=1)
end Eh
namespace Ld
def tab (n:Nat)(F:Int->Int):List Int:=(List.range n).map fun x:Nat=>F x
theorem vA (n:Nat)(F:Int->Int):(tab n F).length=n:=by simp[tab]
theorem Hk {n:Nat}{F:Int->Int}(hn:0<n)(hF:uC n F)(x:Int):at' (tab n F) x=F x:=by
 have e:=sL (a:=tab n F) (x:=x) (by rw[vA];exact hn);rw[vA] at e;unfold tab at e;rw[af,dh (vo hn x)] at e;have e':=bI e;unfold tab;rw[<-e'];show F (((x%n).toNat:Nat):Int)=_
 rw[zo hn];exact hF.md x
theorem UE {st n:Int}:∀(m:Nat)(r c lr lc:Int),lr.toNat=m->0<=r->0<=lr->Eh.Bk st n r c lr lc->∃c' x,Eh.G st n=st*c'+n*x:=by
 intro m
 induction m using Nat.strongRecOn with
 | ind m ih =>
  intro r c lr lc hm hr h0 h
  by_cases z:lr=0
  .obtain⟨hg,⟨x,hx⟩,_⟩:=h;have:=Eh.out hr hg z;exact⟨c,x,by rw[<-this];exact hx⟩
  .have t:=Eh.Wy hr h0 z h;exact ih _ (by rw[<-hm];exact t.2.2.1) _ _ _ _ Z h0 t.1 t.2.2.2
theorem LQ {st:Int}{n:Nat}(hn:0<n)(g:Eh.G st n=1):∃v,(st*v)%n=1%n:=by
 have b:=Eh.WB (st:=st) (n:=n) J;obtain⟨c,x,e⟩:=UE _ _ _ _ _ Z J b.1 b.2.2;refine⟨c,?_⟩;rw[g] at e;rw[e,de]
def turned (a:List Int)(yo:Int):List Int:=tab a.length fun x=>at' a (x-yo)
theorem wS (a:List Int)(yo:Int):(turned a yo).length=a.length:=vA _ _
theorem Jp {a:List Int}{n:Nat}(h:a.length=n)(c:Int):uC n fun x=>at' a (x-c):=fun x y e=>oB h _ _ (by rw[eJ,e,<-eJ])
theorem xP {a:List Int}(hn:0<a.length)(yo x:Int):at' (turned a yo) x=at' a (x-yo):=Hk hn (Jp Z yo) x
structure Ir (n:Nat)(st:Int)(a o:List Int):Prop where
 la:a.length=n
 lo:o.length=n
 at_:∀x:Int,at' o (x*st)=at' a x
theorem Ir.plus {n:Nat}(hn:0<n){s:Int}{a b l r:List Int}(h:Ir n s a l)(g:Ir n s b r):Ir n s (plus a b) (plus l r) :=
 ⟨by rw[oW (h.la.trans g.la.symm),h.la],by rw[oW (h.lo.trans g.lo.symm),h.lo],fun x=>by
  rw[vx (h.lo.trans g.lo.symm) (by rw[h.lo];exact hn),vx (h.la.trans g.la.symm) (by rw[h.la];exact hn),h.at_,g.at_]⟩
theorem Ir.turned {n:Nat}(hn:0<n){s:Int}{a l:List Int}(h:Ir n s a l)(yo:Int):Ir n s (turned a yo) (turned l (yo*s)) :=
 ⟨by rw[wS,h.la],by rw[wS,h.lo],fun x=>by
  rw[xP (by rw[h.lo];exact hn),xP (by rw[h.la];exact hn),<-cN,h.at_]⟩
variable {q:Nat}
def L3 (a:List Int)(q:Nat)(x:Int):Int:=if x%q=0 then at' a (x/q) else 0
def fin (a:List Int)(q:Nat):List Int:=tab (q*a.length) (L3 a q)
theorem Dh (a:List Int)(q:Nat):(fin a q).length=q*a.length:=vA _ _
theorem JA {n:Nat}(hq:0<q){x y:Int}(h:x%((q*n:Nat):Int)=y%((q*n:Nat):Int)):x%q=y%q/\(x/q)%n=(y/q)%n:=by
 have d:((q:Nat):Int)∣((q*n:Nat):Int):=by rw[aO];exact cY _ _
 refine⟨?_,?_⟩
 .rw[<-aW x d,h,aW y d]
 .have e:((q*n:Nat):Int)∣x-y:=bO (aL.mp h);obtain⟨t,ht⟩:=e;rw[aO] at ht;have ex:x=y+q*(n*t):=by rw[<-aK];lia
  rw[ex,iO _ _ J,de]
theorem Jb {a:List Int}{n:Nat}(ha:a.length=n)(hq:0<q):uC (q*n) (L3 a q):=fun x y h=>by
 have d:=JA hq h;unfold L3;rw[d.1,oB ha _ _ d.2]
theorem Fy {a:List Int}(hn:0<a.length)(hq:0<q)(x:Int):at' (fin a q) x=if x%q=0 then at' a (x/q) else 0:=Hk (fK hq hn) (Jb Z hq) x
theorem Fp {st v:Int}{n:Nat}(h:(st*v)%((q*n:Nat):Int)=1%((q*n:Nat):Int)):(st*v)%n=1%n/\(st*v)%q=1%q:=by
 have d1:((n:Nat):Int)∣((q*n:Nat):Int):=by rw[aO];exact fT _ _
 have d2:((q:Nat):Int)∣((q*n:Nat):Int):=by rw[aO];exact cY _ _
 exact⟨by rw[<-aW _ d1,h,aW _ d1],by rw[<-aW _ d2,h,aW _ d2]⟩
theorem Ir.fin {n q:Nat}(hn:0<n)(hq:0<q){st v:Int}{a o:List Int}(h:Ir n st a o)(hv:(st*v)%((q*n:Nat):Int)=1%((q*n:Nat):Int)):Ir (q*n) st (fin a q) (fin o q) :=
 ⟨by rw[Dh,h.la],by rw[Dh,h.lo],fun x=>by
  rw[Fy (by rw[h.lo];exact hn) hq,Fy (by rw[h.la];exact hn) hq];have iq:=(Fp hv).2
  by_cases z:x%q=0
  .obtain⟨y,rfl⟩:=Int.dvd_of_emod_eq_zero z;rw[aC z,aC (by rw[aK,i6]),aK,aG _ J,aG _ J,h.at_]
  .rw[ak z,ak fun w=>z ?_];have:(x*st*v)%q=x%q:=by rw[aK,gu,iq,<-gu,bV]
   rw[<-this,gu,w,aY,d8]⟩
end Ld
namespace Pl
theorem Vt {m p:Int}(hm:1<=m)(hp:2<=p):∀(k:Nat)(q:Int),(m-q).toNat=k->Pt.yY m p q->∃q',Pt.B7 m p q':=by
 intro k
 induction k using Nat.strongRecOn with
 | ind k ih =>
  intro q hk h
  by_cases d:m%(q*p)=0
  .have h1:=Pt.q1 hp h d;have g:=Pt.FO hp h.pos;have l:=Pt.Jf hm h1;exact ih _ J _ Z h1
  .exact⟨q,Pt.q2 h d⟩
theorem FK {n:Int}(hn:1<=n):∃ps,Pt.Parts n ps:=by
 have go:∀(k:Nat)(ps:List (Int×Int))(left p:Int),(n+2-p).toNat=k->Pt.xo n ps left p->2<=p->1<=left->left<=n->∃ps,Pt.Parts n ps:=by
  intro k
  induction k using Nat.strongRecOn with
  | ind k ih =>
   intro ps left p hk h p2 l1 ln
   by_cases c:p*p<=left
   .have pl:p<=left:=by have:=ay (show 1<=p by lia) (show 0<=p by lia);lia
    obtain⟨q,hq⟩:=Vt l1 p2 _ 1 Z (Pt.q0 left p)
    by_cases g:q > 1
    .have lp:=Pt.AO l1 hq.inv.dv hq.inv.pos;exact ih _ J _ _ (p+1) Z (Pt.GG p2 h hq g) J lp.1 J
    .exact ih _ J _ _ (p+1) Z (Pt.HJ h hq g) J l1 ln
   .by_cases g:left > 1
    .exact⟨_,Pt.Pu p2 h c g⟩
    .exact⟨_,Pt.LH h l1 g⟩
 exact go _ [] n 2 Z (Pt.start n) J hn (dW _)
def ds (n:Nat):Nat->List Int
 | 0=>[]
 | k+1=>ds n k++(if ((k:Int)+1)∣(n:Int) then [(k:Int)+1] else [])
noncomputable def pv (n:Nat)(yo:Int):Int:=(((ds n n).filter fun d=>decide (d∣yo)).map fun d=>d*Pt.mu (n/d)).sum
noncomputable def mk (n:Nat)(d:Int):Int×Int:=(d,d*Pt.mu (n/d))
theorem Hx (F:Int->Int):∀n:Nat,((List.range n).map fun j:Nat=>F j).sum=Ld.S n F
 | 0=>rfl
 | n+1=>by rw[jt,aQ,List.sum_append,Hx F n];simp[Ld.S]
end Pl
namespace Rs
variable {ps:List (Int×Int)}{x:Int×Int}
open Pt (Parts rj mR Row Hi)
theorem TX {a b t:Int}(h:Nat.Coprime a.natAbs b.natAbs)(ha:a∣t)(hb:b∣t):a*b∣t:=by
 rw[<-aX] at ha hb ⊢;rw[aM];exact Nat.Coprime.mul_dvd_of_dvd_of_dvd h ha hb
theorem A6 {a b t:Int}(h:Nat.Coprime a.natAbs b.natAbs)(hd:a∣b*t):a∣t:=by
 rw[<-aX] at hd ⊢;rw[aM] at hd;exact d9 h hd
theorem rY {p m:Int}(hp:mR p)(h:¬p∣m)(e:Nat):Nat.Coprime (p^e).natAbs m.natAbs:=by
 rw[jz];exact iQ e (Pt.IH hp h)
theorem mE {n:Int}(hp:Parts n ps)(hx:x∈ps):∃m,n=x.2*m/\n/x.2=m/\¬x.1∣m/\2<=x.2/\x.1∣x.2/\Nat.Coprime x.2.natAbs m.natAbs:=by
 obtain⟨m,e,nd,_⟩:=Pt.uz hx hp.srt hp.row;rw[hp.prd] at e;have row:=hp.row x hx;obtain⟨k,hk⟩:=row.pw;have l:=Pt.sK row;refine⟨m,e,by rw[e];exact aG _ J,nd,J,by rw[hk,bq];exact fT _ _,?_⟩;rw[hk];exact rY row.pr nd _
theorem zf {n:Int}(hp:Parts n ps)(hx:x∈ps):Eh.G (n/x.2) x.2=1:=by
 obtain⟨m,_,e,_,_,_,c⟩:=mE hp hx;rw[e];unfold Eh.G Int.gcd;rw[iH];have:Nat.gcd x.2.natAbs m.natAbs=1:=c;rw[this];rfl
theorem G6 {y:Int×Int}(hx:Row x)(hy:Row y)(ne:x.1≠y.1):Nat.Coprime x.2.natAbs y.2.natAbs:=by
 obtain⟨k,hk⟩:=hx.pw;obtain⟨j,hj⟩:=hy.pw;rw[hk];refine rY hx.pr (fun d=>ne ?_) _;rw[hj] at d;exact Pt.r6 hx.pr hy.pr _ d
theorem CY {t:Int}:∀{ps:List (Int×Int)},(∀x∈ps,Row x)->ps.Pairwise (fun a b=>a.1<b.1)->(∀x∈ps,x.2∣t)->rj ps∣t
 | [],_,_,_=>fW t
 | x::r,row,srt,h=>by
  have ⟨s1,s2⟩:=fF.mp srt;have ih:=CY (fun y hy=>row y (ar _ hy)) s2 (fun y hy=>h y (ar _ hy));have AR:∀{l:List (Int×Int)},(∀y∈l,Row y/\x.1≠y.1)->Nat.Coprime x.2.natAbs (rj l).natAbs:=by
   intro l
   induction l with
   | nil=>intro _;simp[rj]
   | cons y l ih =>
    intro hl;have a:=hl y av;have b:=ih fun z hz=>hl z (ar _ hz);simp only[rj];rw[aM];exact Nat.Coprime.mul_right (G6 (row x av) a.1 a.2) b
  exact TX (AR fun y hy=>⟨row y (ar _ hy),by have:=s1 y hy;lia⟩) (h x av) ih
theorem Ag {n:Int}(hp:Parts n ps){y:Int×Int}(hx:x∈ps)(hy:y∈ps)(ne:x.1≠y.1):x.2∣n/y.2:=by
 obtain⟨m,e,e',_⟩:=mE hp hy;obtain⟨m',f,_⟩:=mE hp hx;rw[e'];refine A6 (G6 (hp.row x hx) (hp.row y hy) ne) ?_;rw[<-e,f];exact cY _ _
structure Sh (n q hole c:Int):Prop where
 lo:0<=c
 hi:c<q
 dv:q∣c*(n/q)-hole
theorem wj {n q hole u:Int}(hq:0<q)(hu:(n/q*u-1)%q=0):Sh n q hole (hole*u%q):=by
 refine⟨aD _ J,az _ hq,?_⟩;have d1:q∣hole*u-hole*u%q:=Int.dvd_self_sub_emod;have d2:q∣n/q*u-1:=bO hu;have e:hole*u%q*(n/q)-hole=hole*(n/q*u-1)-(hole*u-hole*u%q)*(n/q):=by
  rw[cM,cN,bV];have:hole*(n/q*u)=hole*u*(n/q):=by rw[aK,aB u]
  lia
 rw[e];exact aZ (ax d2) (aE d1)
theorem y7 {n q h h' c c':Int}(AR:Nat.Coprime q.natAbs (n/q).natAbs)(a:Sh n q h c)(b:Sh n q h' c')(e:q∣h-h'):c=c':=by
 have d:q∣n/q*(c-c'):=by
  have:=bQ (aZ a.dv b.dv) e;have z:c*(n/q)-h-(c'*(n/q)-h')+(h-h')=n/q*(c-c'):=by
   rw[cM,aB (n/q) c,aB (n/q) c'];lia
  rwa [z] at this
 have d':=A6 AR d;have z:=aL.mpr (bP d');rwa [aU a.lo a.hi,aU b.lo b.hi] at z
theorem tQ {n:Int}(hp:Parts n ps)(hx:x∈ps):Nat.Coprime x.2.natAbs (n/x.2).natAbs:=by
 obtain⟨m,_,e,_,_,_,c⟩:=mE hp hx;rw[e];exact c
def KD (n:Int)(l:List ((Int×Int)×Int)):Int:=(l.map fun z=>z.2*(n/z.1.2)).sum
theorem EM {n:Int}(hp:Pt.Parts n ps):(ps.length:Int)<=n:=by
 have key:∀l:List (Int×Int),(∀x∈l,Pt.Row x)->(l.length:Int)<=Pt.rj l:=by
  intro l
  induction l with
  | nil=>intro _;simp[Pt.rj]
  | cons x r ih =>
   intro h;have a:=ih fun y hy=>h y (ar _ hy);have b:=Pt.sK (h x av);have c:=Pt.qI r fun y hy=>h y (ar _ hy);simp only[Pt.rj,List.length_cons];have:=aq (show 2<=x.2 by lia) (show 0<=Pt.rj r by lia);lia
 have:=key ps hp.row;rwa [hp.prd] at this
end Rs
namespace Eb
theorem yy {a b:Int}(ha:0<=a)(hb:b<=0):a*b<=0:=by
 have:=bx ha (show 0<=-b by lia);rw[fJ] at this;lia
def Sg (x y z w:Int):Prop:=(0<=x/\y<=0/\z<=0/\0<=w)\/(x<=0/\0<=y/\0<=z/\w<=0)
theorem Sg.step {x y z w q:Int}(h:Sg x y z w)(hq:0<=q):Sg z w (x-q*z) (y-q*w):=by
 rcases h with ⟨a,b,c,d⟩ | ⟨a,b,c,d⟩
 .have:=yy hq c;have:=bx hq d;exact .inr ⟨c,d,J,J⟩
 .have:=bx hq c;have:=yy hq d;exact .inl ⟨c,d,J,J⟩
inductive Tn (A B:Int):Int->Int->Int->Int->Prop where
 | one:Tn A B 1 0 0 1
 | step {x y z w:Int}(q:Int):Tn A B x y z w->0<z*A+w*B->0<=(x-q*z)*A+(y-q*w)*B->(x-q*z)*A+(y-q*w)*B<z*A+w*B->0<=q->Tn A B z w (x-q*z) (y-q*w)
theorem Tn.sg {A B x y z w:Int}(h:Tn A B x y z w):Sg x y z w:=by
 induction h with
 | one=>exact .inl ⟨O,O,O,O⟩
 | step q _ _ _ _ hq ih=>exact ih.step hq
theorem Tn.le {A B x y z w:Int}(h:Tn A B x y z w):z*A+w*B<=B:=by
 induction h with
 | one=>lia
 | step q _ _ _ lt _ ih=>lia
theorem Tn.lt {A B x y z w:Int}(h:Tn A B x y z w)(ne:¬(x=1/\y=0/\z=0/\w=1)):z*A+w*B<B:=by
 cases h with
 | one=>exact absurd ⟨Z,Z,Z,Z⟩ ne
 | step q h _ _ lt _=>have:=h.le;lia
theorem Tn.pos {A B x y z w:Int}(h:Tn A B x y z w)(hA:0<=A)(hB:0<=B):0<=x*A+y*B/\0<=z*A+w*B:=by
 induction h with
 | one=>exact⟨J,J⟩
 | step q _ p n _ _ _=>exact⟨J,n⟩
structure St (one other r0 r1 c0 c1:Int):Prop where
 p0:0<=r0
 p1:0<=r1
 sg:(c0<=0/\0<=c1)\/(0<=c0/\c1<=0)
 m:∃m0 m1:Int,r0=m0*one+c0*other/\r1=m1*one+c1*other/\(m0*c1-m1*c0=1\/m0*c1-m1*c0=-1)
theorem St.start {one other:Int}(h1:0<=one)(h2:0<=other):St one other one other 0 1:=⟨h1,h2,.inl ⟨O,O⟩,1,0,J,J,.inl O⟩
theorem St.step {one other r0 r1 c0 c1 q:Int}(h:St one other r0 r1 c0 c1)(hq:0<=q)(p:0<=r0-q*r1):St one other r1 (r0-q*r1) c1 (c0-q*c1):=by
 obtain⟨p0,p1,sg,m0,m1,e0,e1,d⟩:=h;refine⟨p1,p,?_,m1,m0-q*m1,e1,by grind,?_⟩
 .rcases sg with ⟨a,b⟩ | ⟨a,b⟩
  .have:=bx hq b;exact .inr ⟨b,J⟩
  .have:=yy hq b;exact .inl ⟨b,J⟩
 .have e:m1*(c0-q*c1)-(m0-q*m1)*c1=-(m0*c1-m1*c0):=by grind
  rw[e];rcases d with d | d<;>rw[d]
  .exact .inr Z
  .exact .inl Z
theorem Tn.st {one other r0 r1 c0 c1 x y z w:Int}(t:Tn r0 r1 x y z w)(h:St one other r0 r1 c0 c1):St one other (x*r0+y*r1) (z*r0+w*r1) (x*c0+y*c1) (z*c0+w*c1):=by
 induction t with
 | one =>
  have e1:1*r0+0*r1=r0:=J;have e2:0*r0+1*r1=r1:=J;have e3:1*c0+0*c1=c0:=J;have e4:0*c0+1*c1=c1:=J;rw[e1,e2,e3,e4];exact h
 | @step x y z w q _ _ n _ hq ih =>
  have e1:(x-q*z)*r0+(y-q*w)*r1=(x*r0+y*r1)-q*(z*r0+w*r1):=by grind
  have e2:(x-q*z)*c0+(y-q*w)*c1=(x*c0+y*c1)-q*(z*c0+w*c1):=by grind
  rw[e1] at n ⊢;rw[e2];exact ih.step hq n
theorem St.Ag {one other r0 r1 c0 c1:Int}(h:St one other r0 r1 c0 c1)(h1:0<=one):r0*c1.natAbs+r1*c0.natAbs=one:=by
 obtain⟨p0,p1,sg,m0,m1,e0,e1,d⟩:=h;have e:r0*c1-r1*c0=(m0*c1-m1*c0)*one:=by rw[e0,e1];grind
 rcases sg with ⟨a,b⟩ | ⟨a,b⟩
 .have k1:(c1.natAbs:Int)=c1:=J;have k0:(c0.natAbs:Int)=-c0:=J;rw[k1,k0,fJ];have p2:=bx p0 b;have p3:=bx p1 (show 0<=-c0 by lia);rw[fJ] at p3;rcases d with d | d<;>rw[d] at e<;>lia
 .have k1:(c1.natAbs:Int)=-c1:=J;have k0:(c0.natAbs:Int)=c0:=J;rw[k1,k0,fJ];have p2:=bx p0 (show 0<=-c1 by lia);have p3:=bx p1 a;rw[fJ] at p2;rcases d with d | d<;>rw[d] at e<;>lia
theorem err {u v α β H:Int}(h:(0<=u/\v<=0)\/(u<=0/\0<=v))(a0:0<=α)(a1:α<=H)(b0:0<=β)(b1:β<=H){d:Int}(du:(u.natAbs:Int)<=d)(dv:(v.natAbs:Int)<=d):-(d*H)<=u*α+v*β/\u*α+v*β<=d*H:=by
 have H0:0<=H:=J;have key:∀{x y:Int},0<=x->x<=d->0<=y->y<=H->x*y<=d*H:=fun hx hd hy hH=>cH hd hH hy J;rcases h with ⟨a,b⟩ | ⟨a,b⟩
 .have k1:=key a J a0 a1;have k2:=key (show 0<=-v by lia) J b0 b1;have p1:=bx a a0;have p2:=bx (show 0<=-v by lia) b0;rw[iR] at k2 p2;lia
 .have k1:=key b J b0 b1;have k2:=key (show 0<=-u by lia) J a0 a1;have p1:=bx b b0;have p2:=bx (show 0<=-u by lia) a0;rw[iR] at k2 p2;lia
theorem sure {A B a b α β H x y z w:Int}(hH:1<=H)(eA:A=a*H+α)(eB:B=b*H+β)(a0:0<=α)(a1:α<H)(b0:0<=β)(b1:β<H)(t:Tn A B x y z w){q:Int}(hq:0<=q)
  (L0:0<z*A+w*B){d d':Int}(dx:((x-q*z).natAbs:Int)<=d)(dy:((y-q*w).natAbs:Int)<=d)(dz:(z.natAbs:Int)<=d')(dw:(w.natAbs:Int)<=d')
  (n1:d<(x-q*z)*a+(y-q*w)*b)(n2:d+d'<(z*a+w*b)-((x-q*z)*a+(y-q*w)*b)) :
  Tn A B z w (x-q*z) (y-q*w)/\H<=(x-q*z)*A+(y-q*w)*B:=by
 have s:=t.sg;have s2:=s.step hq;have d0:0<=d:=J;have d'0:0<=d':=J;have e1:=err (H:=H-1) (u:=x-q*z) (v:=y-q*w) (α:=α) (β:=β) (d:=d) (by rcases s2 with ⟨_,_,a,b⟩ | ⟨_,_,a,b⟩;exact .inr ⟨a,b⟩;exact .inl ⟨a,b⟩) a0 J b0 J dx dy;have e2:=err (H:=H-1) (u:=z) (v:=w) (α:=α) (β:=β) (d:=d') (by rcases s with ⟨_,_,a,b⟩ | ⟨_,_,a,b⟩;exact .inr ⟨a,b⟩;exact .inl ⟨a,b⟩) a0 J b0 J dz dw;have t1:(x-q*z)*A+(y-q*w)*B=((x-q*z)*a+(y-q*w)*b)*H+((x-q*z)*α+(y-q*w)*β):=by rw[eA,eB];grind
 have t2:z*A+w*B=(z*a+w*b)*H+(z*α+w*β):=by rw[eA,eB];grind
 generalize (x-q*z)*a+(y-q*w)*b=new at *;generalize z*a+w*b=later at *;generalize (x-q*z)*α+(y-q*w)*β=s1 at *;generalize z*α+w*β=s2' at *;have m1:=aq (show d+1<=new by lia) (show 0<=H by lia);have m2:=aq (show d+d'+1<=later-new by lia) (show 0<=H by lia);have x1:(d+1)*H=d*(H-1)+d+H:=by grind
 have x2:(d+d'+1)*H=d*(H-1)+d'*(H-1)+d+d'+H:=by grind
 rw[x1] at m1;rw[x2,cN] at m2;have big:H<=(x-q*z)*A+(y-q*w)*B:=by rw[t1];lia
 exact⟨.step q t L0 J (by rw[t1,t2];lia) hq,big⟩
theorem JV {m c d:Int}(u v:Int)(e:m*u-v*c=1\/m*u-v*c=-1)(hm:d∣v)(hc:d∣u):d∣1:=by
 have:d∣m*u-v*c:=aZ (ax hc) (aE hm);rcases e with e | e
 .rwa [e] at this
 .rw[e] at this;exact d6.mp this
theorem St.PL {one other r0 r1 c0 c1:Int}(h:St one other r0 r1 c0 c1)(h1:0<one){s t k:Int}(hs:0<s)(e:s*other=t+k*one)(AR:Int.gcd s t=1)
  (small:t.natAbs*c1.natAbs+s*r1<one):(c1=s/\r1=t)\/(c1=-s/\r1=-t):=by
 obtain⟨p0,p1,sg,m0,m1,e0,e1,d⟩:=h;have z1:s*r1-t*c1=(s*m1+c1*k)*one:=by
  have:s*r1=s*m1*one+c1*(s*other):=by rw[e1];grind
  rw[this,e];grind
 have ab:((s*r1-t*c1).natAbs:Int)<one:=by
  have a1:((s*r1-t*c1).natAbs:Int)<=(s*r1).natAbs+(t*c1).natAbs:=J;have a2:((s*r1).natAbs:Int)=s*r1:=by have:=bx (show 0<=s by lia) p1;lia
  have a3:((t*c1).natAbs:Int)=t.natAbs*c1.natAbs:=by rw[aM,aO]
  lia
 have z2:s*m1+c1*k=0:=by
  rw[z1] at ab;rcases Int.lt_trichotomy (s*m1+c1*k) 0 with g | g | g
  .have:=aq (show s*m1+c1*k<=-1 by lia) (show 0<=one by lia);lia
  .exact g
  .have:=aq (show 1<=s*m1+c1*k by lia) (show 0<=one by lia);lia
 rw[z2,aY] at z1
 -- s divides c1
 have sd:s∣c1:=by
  have:s∣t*c1:=⟨r1,J⟩;have Xf:Nat.Coprime s.natAbs t.natAbs:=AR;have:=aX.mpr this;rw[aM] at this;exact aX.mp (Xf.dvd_of_dvd_mul_left this)
 obtain⟨f,hf⟩:=sd;have er:r1=t*f:=by
  refine aS (show s≠0 by lia) ?_;rw[hf] at z1;grind
 have em:m1=-(f*k):=by
  refine aS (show s≠0 by lia) ?_;rw[hf] at z2;grind
 have f1:f∣1:=JV (m:=m0) (c:=c0) c1 m1 d (by rw[em];exact d6.mpr (cY ..)) (by rw[hf];exact fT ..);have fb:=aX.mpr f1;have fle:=gk O fb;have f0:f≠0:=fun z=>by rw[z] at f1;have:=ga.mp f1;lia
 have:f=1\/f=-1:=by
  have:f.natAbs<=1:=fle;lia
 rcases this with z | z
 .left;rw[z,bV] at hf er;exact⟨hf,er⟩
 .right;rw[z] at hf er;exact⟨J,J⟩
theorem Tn.c0 {one other r0 r1 c0 c1 x y z w:Int}(t:Tn r0 r1 x y z w)(h:St one other r0 r1 c0 c1)(o1:0<=one)(p0:1<=r0)(ne:¬(x=1/\y=0/\z=0/\w=1)) :
  ((x*c0+y*c1).natAbs:Int)<=one/\1<=x*r0+y*r1/\x*r0+y*r1<=r1:=by
 cases t with
 | one=>exact absurd ⟨Z,Z,Z,Z⟩ ne
 | @step a b _ _ q t p n l hq =>
  have s:=t.st h;have c:=s.Ag o1;have le:=t.le;refine⟨?_,J,J⟩;have a1:1<=a*r0+b*r1:=by
   cases t with
   | one=>lia
   | step q t p n l hq=>lia
  have q1:=bx s.p1 (show (0:Int)<=(a*c0+b*c1).natAbs by lia);have q2:=aq a1 (show (0:Int)<=(x*c0+y*c1).natAbs by lia);lia
theorem St.c1 {one other r0 r1 c0 c1:Int}(h:St one other r0 r1 c0 c1)(o1:0<=one)(p0:1<=r0):(c1.natAbs:Int)<=one:=by
 have c:=h.Ag o1;have q1:=bx h.p1 (show (0:Int)<=c0.natAbs by lia);have q2:=aq p0 (show (0:Int)<=c1.natAbs by lia);lia
theorem St.dvd {one other r0 r1 c0 c1:Int}(h:St one other r0 r1 c0 c1)(z:r1=0):r0∣one/\r0∣other:=by
 obtain⟨m0,m1,e0,e1,d⟩:=h.m;rw[z] at e1;constructor
 .rcases d with d | d
  .refine⟨c1,?_⟩;rw[e0];have:(m0*c1-m1*c0)*one=one:=by rw[d,cQ]
   have e:c0*(m1*one+c1*other)=0:=by rw[<-e1,bu]
   grind
  .refine⟨-c1,?_⟩;rw[e0];have:(m0*c1-m1*c0)*one=-one:=by rw[d];lia
   have e:c0*(m1*one+c1*other)=0:=by rw[<-e1,bu]
   grind
 .rcases d with d | d
  .refine⟨-m1,?_⟩;rw[e0];have:(m0*c1-m1*c0)*other=other:=by rw[d,cQ]
   have e:m0*(m1*one+c1*other)=0:=by rw[<-e1,bu]
   grind
  .refine⟨m1,?_⟩;rw[e0];have:(m0*c1-m1*c0)*other=-other:=by rw[d];lia
   have e:m0*(m1*one+c1*other)=0:=by rw[<-e1,bu]
   grind
theorem St.KQ {one other r0 r1 c0 c1:Int}(h:St one other r0 r1 c0 c1)(lt:r1<one):c1≠0:=fun z=>by
 obtain⟨m0,m1,e0,e1,d⟩:=h.m;rw[z] at e1 d;have u:m1*c0=1\/m1*c0=-1:=jD;have m1u:m1=1\/m1=-1:=by
  have n:m1.natAbs*c0.natAbs=1:=by
   rw[<-aM];rcases u with u | u<;>rw[u]<;>rfl
  have:=Nat.eq_one_of_mul_eq_one_right n;lia
 have p1:=h.p1;rcases m1u with y | y<;>rw[y] at e1<;>lia
theorem St.back {n st c0 c1:Int}(h:St n (st%n) 1 0 c0 c1)(n1:1<=n):1<=(c0-1)%n+1/\(c0-1)%n+1<=n/\n∣st*((c0-1)%n+1)-1:=by
 have a:=aD (c0-1) (show n≠0 by lia);have b:=az (c0-1) (show 0<n by lia);refine⟨J,J,?_⟩;obtain⟨m0,m1,e0,e1,d⟩:=h.m;have e:(c0-1)%n=c0-1-n*((c0-1)/n):=iI ..;have f:st%n=st-n*(st/n):=iI ..;rw[f] at e0;rw[e];refine⟨-m0+c0*(st/n)-st*((c0-1)/n),?_⟩;grind
end Eb
namespace Lt
variable {one other:List Int}{k:Nat}
abbrev g (v:List Int)(i:Nat):Int:=v.getD i 0
def mix (one:List Int)(a:Int)(other:List Int)(b m:Int):List Int:=List.zipWith (fun x y=>(x*a+y*b)%m) one other
theorem tj {K:Nat}(h1:one.length=K)(h2:other.length=K)(a b m:Int):(mix one a other b m).length=K:=by unfold mix;rw[List.length_zipWith,h1,h2,Nat.min_self]
theorem oC {K:Nat}(h1:one.length=K)(h2:other.length=K)(a b m:Int)(i:Nat):g (mix one a other b m) i=(g one i*a+g other i*b)%m:=by
 unfold g mix;rw[ao,ao,ao,bY]
 by_cases c:i<K
 .rw[aA J,aA J];rfl
 .rw[cA J,cA J];show (0:Int)=(0*a+0*b)%m
  rw[aY,aY,df,d8]
def dt (k:Nat)(v:List Int)(a:Int->Int):Int:=Ld.S k fun i=>g v i.toNat*a i
theorem m8 {m:Int}{F G:Int->Int}:∀{k:Nat},(∀i:Nat,i<k->m∣F i-G i)->m∣Ld.S k F-Ld.S k G
 | 0,_=>by show m∣(0:Int)-0;exact bi _
 | k+1,h=>by
  have a:=m8 (k:=k) fun i hi=>h i (bF hi);have b:=h k (bJ k);show m∣(Ld.S k F+F k)-(Ld.S k G+G k)
  rw[show (Ld.S k F+F k)-(Ld.S k G+G k)=(Ld.S k F-Ld.S k G)+(F k-G k) by lia];exact bQ a b
theorem nS {m x y:Int}(h:m∣x-y):m∣x↔m∣y:=by
 constructor
 .intro d;have:=aZ d h;rwa [show x-(x-y)=y by lia] at this
 .intro d;have:=bQ d h;rwa [show y+(x-y)=x by lia] at this
theorem k5 (x m:Int):m∣x%m-x:=by
 have:=bK x m;exact⟨-(x/m),by rw[fJ];lia⟩
theorem zH {K:Nat}(h1:one.length=K)(h2:other.length=K)(a b m:Int)(k:Nat)(w:Int->Int):m∣dt k (mix one a other b m) w-(a*dt k one w+b*dt k other w):=by
 have e:a*dt k one w+b*dt k other w=Ld.S k fun i=>a*(g one i.toNat*w i)+b*(g other i.toNat*w i):=by
  unfold dt;rw[Ld.mj,Ld.kg,Ld.kg]
 rw[e];refine m8 fun i _=>?_;rw[oC h1 h2];obtain⟨z,hz⟩:=k5 (g one (i:Int).toNat*a+g other (i:Int).toNat*b) m;refine⟨z*w i,?_⟩;have:(g one (i:Int).toNat*a+g other (i:Int).toNat*b)%m=m*z+(g one (i:Int).toNat*a+g other (i:Int).toNat*b):=J;rw[this];grind
inductive Ent (m:Int):Nat->List (List Int)->List Int->List (List Int)->Prop where
 | nil {c:Nat}{left:List Int}:Ent m c [] left []
 | skip {c:Nat}{l left:List Int}{ls ls':List (List Int)}:g left c=0->Ent m (c+1) ls left ls'->Ent m c (l::ls) left (l::ls')
 | mix {c:Nat}{l left:List Int}{ls ls':List (List Int)}(α β G:Int):g left c≠0->1<=G->G∣g l c->G∣g left c->α*g l c+β*g left c=G ->
   Ent m (c+1) ls (mix left (g l c/G) l (-(g left c/G)) m) ls'->Ent m c (l::ls) left (mix l α left β m::ls')
def Bu (m:Int)(K:Nat):Nat->List (List Int)->Prop
 | _,[]=>ia
 | c,l::ls=>(l.length=K/\(∀i,i<c->g l i=0)/\1<=g l c/\g l c∣m)/\Bu m K (c+1) ls
structure Lf (m:Int)(K c:Nat)(left:List Int):Prop where
 len:left.length=K
 zero:∀i,i<c->g left i=0
 AC:∀i,0<=g left i/\g left i<m
theorem Lf.next {m:Int}{K c:Nat}{left:List Int}(h:Lf m K c left)(z:g left c=0):Lf m K (c+1) left :=
 ⟨h.len,fun i hi=>(by rcases Nat.lt_succ_iff_lt_or_eq.mp hi with y | y;exact h.zero i y;rw[y];exact z),h.AC⟩
theorem Lf.mixed {m:Int}(hm:1<=m){K c:Nat}{l left:List Int}(h:Lf m K c left)(ll:l.length=K)(lz:∀i,i<c->g l i=0){G:Int}(hG:1<=G)(d1:G∣g l c)(d2:G∣g left c):Lf m K (c+1) (mix left (g l c/G) l (-(g left c/G)) m):=by
 refine⟨tj h.len ll _ _ _,fun i hi=>?_,fun i=>?_⟩
 .rw[oC h.len ll];rcases Nat.lt_succ_iff_lt_or_eq.mp hi with y | y
  .rw[h.zero i y,lz i y,aY,aY,df,d8]
  .rw[y];obtain⟨x,hx⟩:=d1;obtain⟨z,hz⟩:=d2;have:g left c*(g l c/G)+g l c * -(g left c/G)=0:=by
    rw[hx,hz,aG _ J,aG _ J];grind
   rw[this,d8]
 .rw[oC h.len ll];exact⟨aD _ J,az _ J⟩
theorem Ent.Cs {m:Int}(hm:1<=m){K:Nat}:∀{c:Nat}{ls:List (List Int)}{left:List Int}{ls':List (List Int)},Ent m c ls left ls'->Bu m K c ls->Lf m K c left->Bu m K c ls'/\ls'.length=ls.length:=by
 intro c ls left ls' h
 induction h with
 | nil=>intro _ _;exact⟨trivial,Z⟩
 | skip z _ ih =>
  intro t f;have:=ih t.2 (f.next z);exact⟨⟨t.1,this.1⟩,by rw[bw,bw,this.2]⟩
 | @mix c l left ls ls' α β G nz G1 d1 d2 e _ ih =>
  intro t f;obtain⟨⟨ll,lz,l1,lm⟩,t2⟩:=t;have:=ih t2 (f.mixed hm ll lz G1 d1 d2);have rg:=f.AC c;have Gle:G<=g left c:=aT J d2;refine⟨⟨⟨tj ll f.len _ _ _,fun i hi=>?_,?_,?_⟩,this.1⟩,by rw[bw,bw,this.2]⟩
  .rw[oC ll f.len,lz i hi,f.zero i hi,aY,aY,df,d8]
  .rw[oC ll f.len,show g l c*α+g left c*β=G by rw[aB,aB (g left c)];exact e,aU J J];exact G1
  .rw[oC ll f.len,show g l c*α+g left c*β=G by rw[aB,aB (g left c)];exact e,aU J J];exact bB d1 lm
def Ei (m:Int)(k:Nat)(a:Int->Int)(ls:List (List Int)):Prop:=∀l∈ls,m∣dt k l a
theorem back {m:Int}{K:Nat}{l left:List Int}(ll:l.length=K)(fl:left.length=K){α β x d:Int}(e:α*d+β*x=1)(a:Int->Int)
 (h1:m∣dt k (mix l α left β m) a)(h2:m∣dt k (mix left d l (-x) m) a):m∣dt k l a/\m∣dt k left a:=by
  have a1:=(nS (zH ll fl α β m k a)).mp h1;have a2:=(nS (zH fl ll d (-x) m k a)).mp h2;generalize dt k l a=u at *;generalize dt k left a=v at *;constructor
  · have b1:m∣d*(α*u+β*v):=ax a1
    have b2:m∣β*(d*v + -x*u):=ax a2;have:=aZ b1 b2;rwa [show d*(α*u+β*v)-β*(d*v + -x*u)=(α*d+β*x)*u by grind,e,Int.one_mul] at this
  · have b1:m∣x*(α*u+β*v):=ax a1
    have b2:m∣α*(d*v + -x*u):=ax a2;have:=bQ b1 b2;rwa [show x*(α*u+β*v)+α*(d*v + -x*u)=(α*d+β*x)*v by grind,e,Int.one_mul] at this
theorem Dy {α β G u v:Int}(hG:1<=G)(d1:G∣u)(d2:G∣v)(e:α*u+β*v=G):α*(u/G)+β*(v/G)=1:=by
 obtain⟨x,rfl⟩:=d1;obtain⟨y,rfl⟩:=d2;rw[aG _ J,aG _ J];refine aS (show G≠0 by lia) ?_;rw[bV];have:G*(α*x+β*y)=α*(G*x)+β*(G*y):=by grind
 rw[this];exact e
theorem JW {v:List Int}(h:∀i,i<k->g v i=0)(a:Int->Int):dt k v a=0:=by
 unfold dt;rw[Ld.jO (G:=fun _=>0) fun i hi=>by rw[ae,h i hi,aY]];exact Ld.mQ k
theorem Ent.kill {m:Int}(hm:1<=m){K:Nat}(a:Int->Int):∀{c:Nat}{ls:List (List Int)}{left:List Int}{ls':List (List Int)},Ent m c ls left ls'->Bu m K c ls->Lf m K c left->c+ls.length=k->Ei m k a ls'->Ei m k a ls/\m∣dt k left a:=by
 intro c ls left ls' h
 induction h with
 | nil =>
  intro _ f e _;refine⟨fun l hl=>(nomatch hl),?_⟩;rw[JW (fun i hi=>f.zero i (by simp at e;lia)) a];exact Int.dvd_zero _
 | @skip c l left ls ls' z _ ih =>
  intro t f e kl;have:=ih t.2 (f.next z) (by rw[bw] at e;lia) fun y hy=>kl y (ar _ hy);refine⟨fun y hy=>?_,this.2⟩;rcases List.mem_cons.mp hy with w | w
  .rw[w];exact kl l av
  .exact this.1 y w
 | @mix c l left ls ls' α β G nz G1 d1 d2 eb _ ih =>
  intro t f e kl;obtain⟨⟨ll,lz,l1,lm⟩,t2⟩:=t;have r:=ih t2 (f.mixed hm ll lz G1 d1 d2) (by rw[bw] at e;lia) fun y hy=>kl y (ar _ hy);have b:=back (k:=k) ll f.len (Dy G1 d1 d2 eb) a (kl _ av) r.2;refine⟨fun y hy=>?_,b.2⟩;rcases List.mem_cons.mp hy with w | w
  .rw[w];exact b.1
  .exact r.1 y w
def Jk (m:Int)(k:Nat):Nat->List (List Int)->Prop
 | _,[]=>ia
 | c,l::ls=>(∀a:Int->Int,Ei m k a ls->m∣m/g l c*dt k l a)/\Jk m k (c+1) ls
theorem Ent.how {m:Int}(hm:1<=m){K:Nat}:∀{c:Nat}{ls:List (List Int)}{left:List Int}{ls':List (List Int)},Ent m c ls left ls'->Bu m K c ls->Lf m K c left->c+ls.length=k->Jk m k c ls->Jk m k c ls':=by
 intro c ls left ls' h
 induction h with
 | nil=>intro _ _ _ _;trivial
 | @skip c l left ls ls' z en ih =>
  intro t f e hw;refine⟨fun a kl=>?_,ih t.2 (f.next z) (by rw[bw] at e;lia) hw.2⟩;exact hw.1 a (en.kill hm a t.2 (f.next z) (by rw[bw] at e;lia) kl).1
 | @mix c l left ls ls' α β G nz G1 d1 d2 eb en ih =>
  intro t f e hw;obtain⟨⟨ll,lz,l1,lm⟩,t2⟩:=t;have f2:=f.mixed hm ll lz G1 d1 d2;have e2:c+1+ls.length=k:=by rw[bw] at e;lia
  refine⟨fun a kl=>?_,ih t2 f2 e2 hw.2⟩;obtain⟨k1,k2⟩:=en.kill hm a t2 f2 e2 kl;have o:=hw.1 a k1;have rg:=f.AC c;have Gle:G<=g left c:=aT J d2;have eG:g (Lt.mix l α left β m) c=G:=by
   rw[oC ll f.len,show g l c*α+g left c*β=G by rw[aB,aB (g left c)];exact eb,aU J J]
  rw[eG];have q1:=zH ll f.len α β m k a;have q2:=(nS (zH f.len ll (g l c/G) (-(g left c/G)) m k a)).mp k2;have bz:=Dy G1 d1 d2 eb;obtain⟨d,hd⟩:=d1;obtain⟨x,hx⟩:=d2;obtain⟨r,hr⟩:=lm;have dG:g l c/G=d:=by rw[hd];exact aG _ J
  have xG:g left c/G=x:=by rw[hx];exact aG _ J
  have mr:m/g l c=r:=by rw[hr];exact aG _ J
  have mG:m/G=d*r:=by
   rw[hr,hd,aK];exact aG _ J
  rw[dG,xG] at q2 bz;rw[mr] at o;rw[mG];have q3:m∣d*r*(dt k (Lt.mix l α left β m) a-(α*dt k l a+β*dt k left a)):=ax q1;generalize dt k (Lt.mix l α left β m) a=n at *;generalize dt k l a=u at *;generalize dt k left a=v at *;have q4:m∣r*β*(d*v + -x*u):=ax q2;have:=bQ (bQ q3 q4) o;have ee:d*r*(n-(α*u+β*v))+r*β*(d*v + -x*u)+r*u=d*r*n+r*u*(1-(α*d+β*x)):=by grind
  rw[ee,bz,cv,bu,df] at this;exact this
end Lt
namespace Mx
variable {M:Int->Int->Int}
open Lt (m8 nS k5)
theorem uP {m:Int}{F:Int->Int}:∀{k:Nat},(∀i:Nat,i<k->m∣F i)->m∣Ld.S k F
 | 0,_=>bi _
 | k+1,h=>bQ (uP (k:=k) fun i hi=>h i (bF hi)) (h k (bJ k))
def uY (p:Int)(k:Nat)(M:Int->Int->Int):Prop:=∀y:Int->Int,(∀t:Nat,t<k->p∣Ld.S k fun s=>y s*M s t)->∀s:Nat,s<k->p∣y s
theorem nE {p a b:Int}(hp:Pt.mR p)(h:p∣a*b)(na:¬p∣a):p∣b:=by
 have c:=Pt.IH hp na;have h1:=aX.mpr h;rw[aM] at h1;exact aX.mp (d9 c h1)
theorem uY.snoc {p:Int}(hp:Pt.mR p){k:Nat}(h:uY p k M){x:Int->Int}(z:∀t:Nat,t<k->p∣M k t-Ld.S k fun s=>x s*M s t)(nz:¬p∣M k k-Ld.S k fun s=>x s*M s k):uY p (k+1) M:=fun y hy=>by
 have e:∀t:Int,(Ld.S (k+1) fun s=>y s*M s t)=(Ld.S k fun s=>(y s+y k*x s)*M s t)+y k*(M k t-Ld.S k fun s=>x s*M s t):=fun t=>by
  show (Ld.S k fun s=>y s*M s t)+y k*M k t=_
  have:(Ld.S k fun s=>(y s+y k*x s)*M s t)=(Ld.S k fun s=>y s*M s t)+y k*(Ld.S k fun s=>x s*M s t):=by
   rw[<-Ld.kg,<-Ld.mj];exact Ld.jO fun s _=>by grind
  rw[this];grind
 have h1:=h (fun s=>y s+y k*x s) fun t ht=>by
  have a:=hy t (bF ht);rw[e] at a;have b:p∣y k*(M k t-Ld.S k fun s=>x s*M s t):=ax (z t ht);have:=aZ a b;rwa [show ∀u v:Int,u+v-v=u from fun u v=>by lia] at this
 have yk:p∣y k:=by
  have a:=hy k (bJ k);rw[e] at a;have b:p∣Ld.S k fun s=>(y s+y k*x s)*M s k:=uP fun s hs=>aE (h1 s hs);have c:=aZ a b;rw[show ∀u v:Int,u+v-u=v from fun u v=>by lia,aB] at c;exact nE hp c nz
 intro s hs;rcases Nat.lt_succ_iff_lt_or_eq.mp hs with q | q
 .have a:=h1 s q;have b:p∣y k*x s:=aE yk;have:=aZ a b;rwa [show y s+y k*x s-y k*x s=y s by lia] at this
 .rw[q];exact yk
theorem uY.zero (p:Int)(M:Int->Int->Int):uY p 0 M:=fun y _ s hs=>absurd hs (bE _)
theorem uY.pow {p:Int}(p1:1<=p){k:Nat}{M:Int->Int->Int}(h:uY p k M):∀(e:Nat)(y:Int->Int),(∀t:Nat,t<k->p^e∣Ld.S k fun s=>y s*M s t)->∀s:Nat,s<k->p^e∣y s
 | 0,y,_,s,_=>by rw[eI];exact fW _
 | e+1,y,hy,s,hs=>by
  have y1:=h y fun t ht=>bB ⟨p^e,by rw[bq,aB]⟩ (hy t ht)
  -- y is p times NP
  have q:∀s:Nat,s<k->y s=p*(y s/p):=fun s hs=>(cR (y1 s hs)).symm;have r:=uY.pow p1 h e (fun s=>y s/p) (fun t ht=>by
   obtain⟨c,hc⟩:=hy t ht;have e1:(Ld.S k fun s=>y s*M s t)=p*Ld.S k fun s=>y s/p*M s t:=by
    rw[<-Ld.kg];refine Ld.jO fun s hs=>?_;rw[<-aK,<-q s hs]
   rw[e1] at hc;refine⟨c,aS (show p≠0 by lia) ?_⟩;rw[hc,bq];grind) s hs
  obtain⟨c,hc⟩:=r;refine⟨c,?_⟩;rw[q s hs,hc,bq];grind
def LI (m:Int)(k:Nat)(U M:Int->Int->Int):Prop:=∀i j:Nat,i<k->j<k->m∣(Ld.S k fun t=>U i t*M t j)-if i=j then 1 else 0
theorem lX {k:Nat}{F:Int->Int}{j:Nat}(hj:j<k):(Ld.S k fun t=>F t*if t=(j:Int) then 1 else 0)=F j:=by
 have:(Ld.S k fun t=>F t*if t=(j:Int) then 1 else 0)=Ld.S k fun t=>if t=(j:Int) then F t else 0:=Ld.jO fun t _=>by
  by_cases c:(t:Int)=j
  .rw[aC c,aC c,bV]
  .rw[ak c,ak c,bu]
 rw[this,Ld.AK J,aC J]
theorem LI.right {p:Int}(p1:1<=p){e k:Nat}{U:Int->Int->Int}(h:LI (p^e) k U M)(ind:uY p k M):∀i j:Nat,i<k->j<k->p^e∣(Ld.S k fun t=>M i t*U t j)-if i=j then 1 else 0:=fun i j hi hj=>by
 have key:∀t:Nat,t<k->p^e∣Ld.S k fun s=>((Ld.S k fun u=>M i u*U u s)-if (i:Int)=s then 1 else 0)*M s t:=fun t ht=>by
  -- (M U-1) M=M (U M)-M
  have e1:(Ld.S k fun s=>((Ld.S k fun u=>M i u*U u s)-if (i:Int)=s then 1 else 0)*M s t)=(Ld.S k fun u=>M i u*Ld.S k fun s=>U u s*M s t)-M i t:=by
   have a1:(Ld.S k fun s=>((Ld.S k fun u=>M i u*U u s)-if (i:Int)=s then 1 else 0)*M s t)=(Ld.S k fun s=>Ld.S k fun u=>M i u*(U u s*M s t))+Ld.S k fun s=>-1*(M s t*if s=(i:Int) then 1 else 0):=by
    rw[<-Ld.mj];refine Ld.jO fun s _=>?_;rw[cN,<-Ld.qo];have:(Ld.S k fun u=>M i u*U u s*M s t)=Ld.S k fun u=>M i u*(U u s*M s t):=Ld.jO fun u _=>aK ..;rw[this]
    by_cases c:(s:Int)=i
    .rw[aC c.symm,aC c];lia
    .rw[ak (fun z=>c z.symm),ak c];lia
   rw[a1,Ld.mP,Ld.kg,lX hi];have:(Ld.S k fun u=>Ld.S k fun s=>M i u*(U u s*M s t))=Ld.S k fun u=>M i u*Ld.S k fun s=>U u s*M s t:=Ld.jO fun u _=>by rw[Ld.kg]
   rw[this];lia
  rw[e1];have e2:M i t=Ld.S k fun u=>M i u*if u=(t:Int) then 1 else 0:=(lX ht).symm;rw[e2];refine m8 fun u hu=>?_;rw[<-cM];refine ax ?_;have:=h u t hu ht
  by_cases c:u=t
  .rw[aC c] at this;rw[aC J];exact this
  .rw[ak c] at this;rw[ak J];exact this
 have z:p^e∣(Ld.S k fun t=>M i t*U t j)-if (i:Int)=j then 1 else 0:=ind.pow p1 e (fun s=>(Ld.S k fun u=>M i u*U u s)-if (i:Int)=s then 1 else 0) key j hj
 by_cases c:i=j
 .rw[aC c];rwa [aC J] at z
 .rw[ak c];rwa [ak J] at z
end Mx
namespace Pg
theorem vK:∀{M N:Nat}(f:Nat->Nat),M<N->(∀i,i<N->f i<M)->∃i j,i<j/\j<N/\f i=f j
 | 0,N,f,h,lt=>absurd (lt 0 h) (bE _)
 | M+1,0,f,h,lt=>absurd h (bE _)
 | M+1,N+1,f,h,lt=>by
  -- the value of the last one is taken out
  by_cases c:∃i,i<N/\f i=f N
  .obtain⟨i,hi,e⟩:=c;exact⟨i,N,hi,bJ N,e⟩
  .let g:Nat->Nat:=fun i=>if f i=M then f N else f i
   have gl:∀i,i<N->g i<M:=fun i hi=>by
    have a:=lt i (bF hi);have b:=lt N (bJ N);show (if f i=M then f N else f i)<M
    by_cases z:f i=M
    .rw[aC z];have:f N≠M:=fun y=>c ⟨i,hi,z.trans y.symm⟩;lia
    .rw[ak z];lia
   obtain⟨i,j,ij,jN,e⟩:=vK g (show M<N by lia) gl;refine⟨i,j,ij,bF jN,?_⟩;have e':(if f i=M then f N else f i)=if f j=M then f N else f j:=e
   by_cases zi:f i=M
   .by_cases zj:f j=M
    .rw[zi,zj]
    .rw[aC zi,ak zj] at e';exact absurd ⟨j,jN,e'.symm⟩ c
   .by_cases zj:f j=M
    .rw[ak zi,aC zj] at e';exact absurd ⟨i,iF ij jN,e'⟩ c
    .rwa [ak zi,ak zj] at e'
theorem least {P:Nat->Prop}:∀{n:Nat},P n->∃k,P k/\∀j,j<k->¬P j:=by
 intro n
 induction n using Nat.strongRecOn with
 | ind n ih =>
  intro h
  by_cases c:∃j,j<n/\P j
  .obtain⟨j,jn,hj⟩:=c;exact ih j jn hj
  .exact⟨n,h,fun j jn hj=>c ⟨j,jn,hj⟩⟩
def sq (N:Nat):Nat->Nat->Nat
 | 0,x=>x
 | k+1,x=>sq N k (x*x%N)
end Pg
namespace Sg
def enc (R:Nat):Nat->(Nat->Nat)->Nat
 | 0,_=>0
 | k+1,e=>enc R k e+R^k*e k
theorem ub {R:Nat}{e:Nat->Nat}:∀{k:Nat},(∀i,i<k->e i<R)->enc R k e<R^k
 | 0,_=>by rw[gX];exact Nat.one_pos
 | k+1,h=>by
  have a:=ub (k:=k) fun i hi=>h i (bF hi);have b:=dO (R^k) (show e k+1<=R from h k (bJ k));show enc R k e+R^k*e k<R^(k+1)
  rw[dE];rw[Nat.mul_succ] at b;omega
theorem vh {R:Nat}{e f:Nat->Nat}:∀{k:Nat},(∀i,i<k->e i<R)->(∀i,i<k->f i<R)->enc R k e=enc R k f->∀i,i<k->e i=f i
 | 0,_,_,_,i,hi=>absurd hi (bE _)
 | k+1,he,hf,h,i,hi=>by
  have a:=ub (k:=k) fun i hi=>he i (bF hi);have b:=ub (k:=k) fun i hi=>hf i (bF hi);have p:0<R^k:=jD;have h':enc R k e+R^k*e k=enc R k f+R^k*f k:=h;have ek:e k=f k:=by
   have:(enc R k e+R^k*e k)/R^k=(enc R k f+R^k*f k)/R^k:=by rw[h']
   rwa [iS _ _ p,iS _ _ p,jg a,jg b,dR,dR] at this
  rcases Nat.lt_succ_iff_lt_or_eq.mp hi with z | z
  .refine vh (k:=k) (fun i hi=>he i (bF hi)) (fun i hi=>hf i (bF hi)) ?_ i z;rw[ek] at h';omega
  .rw[z];exact ek
def dig (b n j:Nat):Nat:=n/b^j%b
theorem zF {b:Nat}(hb:0<b):∀{k n m:Nat},n<b^k->m<b^k->(∀j,j<k->dig b n j=dig b m j)->n=m
 | 0,n,m,hn,hm,_=>by rw[gX] at hn hm;omega
 | k+1,n,m,hn,hm,h=>by
  have h0:=h 0 (iJ k);unfold dig at h0;rw[gX,Nat.div_one,Nat.div_one] at h0;have h1:n/b=m/b:=by
   refine zF hb (k:=k) ?_ ?_ fun j hj=>?_
   .rw[dE,fQ] at hn;exact gI hn
   .rw[dE,fQ] at hm;exact gI hm
   .have:=h (j+1) (jh hj);unfold dig at this ⊢;rw[iK,iK,fQ b,<-dE];exact this
  rw[<-gC n b,<-gC m b,h0,h1]
theorem xA {F:Int->Int}{B:Nat}:∀{m:Nat},(∀j:Nat,j<m->(F j).natAbs<=B)->(Ld.S m F).natAbs<=m*B
 | 0,_=>by simp[Ld.S]
 | m+1,h=>by
  have a:=xA (m:=m) fun j hj=>h j (bF hj);have b:=h m (bJ m);show (Ld.S m F+F m).natAbs<=(m+1)*B
  rw[f9];omega
def t7 (k C:Nat):Nat:=(2*((k+1)*C)+1)^k
theorem L7 (k C:Nat)(hC:1<=C)(a:Nat->Int->Int)(ha:∀i j:Nat,i<k->j<k+1->(a i j).natAbs<=C) :
  ∃x:Int->Int,(∃j:Nat,j<k+1/\x j≠0)/\(∀j:Nat,(x j).natAbs<=t7 k C)/\∀i,i<k->Ld.S (k+1) (fun j=>a i j*x j)=0:=by
 obtain⟨T,hT⟩:∃T,T=t7 k C:=⟨_,Z⟩;have T1:1<=T:=by rw[hT];unfold t7;exact Nat.pow_pos jD
 obtain⟨S,hS⟩:∃S,S=(k+1)*C*T:=⟨_,Z⟩
 let v:Nat->Int->Int:=fun n j=>(dig (T+1) n j.toNat:Nat)
 let zfL:Nat->Nat->Int:=fun n i=>Ld.S (k+1) fun j=>a i j*v n j
 have vb:∀n (j:Nat),0<=v n j/\(v n j).natAbs<=T:=fun n j=>by
  have:dig (T+1) n (j:Int).toNat<T+1:=gx _ jD;show 0<=((dig (T+1) n (j:Int).toNat:Nat):Int)/\(((dig (T+1) n (j:Int).toNat:Nat):Int)).natAbs<=T
  omega
 have Lb:∀n i,i<k->(zfL n i).natAbs<=S:=fun n i hi=>by
  rw[hS,gn];refine xA fun j hj=>?_;rw[aM];exact cI (ha i j hi hj) (vb n j).2
 let e:Nat->Nat->Nat:=fun n i=>(zfL n i+S).toNat
 have eb:∀n i,i<k->e n i<2*S+1:=fun n i hi=>by
  have:=Lb n i hi;show (zfL n i+S).toNat<2*S+1
  omega
 have many:(2*S+1)^k<(T+1)^(k+1):=by
  have h1:2*S+1<=(2*((k+1)*C)+1)*T:=by
   rw[hS];generalize (k+1)*C=D;rw[Nat.add_mul,Nat.one_mul,gn];omega
  have h2:=gO h1 k;rw[Nat.mul_pow] at h2;have h3:(2*((k+1)*C)+1)^k=T:=by rw[hT];rfl
  rw[h3] at h2;have h4:T*T^k=T^(k+1):=by rw[dE,fQ]
  rw[h4] at h2;exact bZ h2 (iW (bJ T) jD)
 obtain⟨p,q,pq,qN,eq⟩:=Pg.vK (fun n=>enc (2*S+1) k (e n)) many fun n _=>ub (eb n);have same:=vh (eb p) (eb q) eq;refine⟨fun j=>v p j-v q j,?_,fun j=>?_,fun i hi=>?_⟩
 .by_cases c:∃j:Nat,j<k+1/\v p j-v q j≠0
  .exact c
  .exfalso;have:p=q:=zF (b:=T+1) (iJ T) (iF pq qN) qN fun j hj=>by
    have z:v p j-v q j=0:=by
     by_cases y:v p j-v q j=0
     .exact y
     .exact absurd ⟨j,hj,y⟩ c
    have z':((dig (T+1) p (j:Int).toNat:Nat):Int)-((dig (T+1) q (j:Int).toNat:Nat):Int)=0:=z;rw[ae] at z';omega
   omega
 .have a1:=vb p j;have a2:=vb q j;rw[<-hT];show (v p j-v q j).natAbs<=T
  omega
 .have s:=same i hi;have l1:=Lb p i hi;have l2:=Lb q i hi;have s':(zfL p i+S).toNat=(zfL q i+S).toNat:=s;have ll:zfL p i=zfL q i:=jD;have e1:(Ld.S (k+1) fun j=>a i j*(v p j-v q j))=Ld.S (k+1) fun j=>a i j*v p j + -1*(a i j*v q j):=Ld.jO fun j _=>by rw[cM];omega
  rw[e1,Ld.mj,Ld.kg];show zfL p i + -1*zfL q i=0
  omega
end Sg
namespace Mx
variable {p:Int}{k:Nat}{R M:Int->Int->Int}
def CI (p:Int)(k:Nat)(R:Int->Int->Int):Prop:=∀y:Int->Int,(∀i:Nat,i<k->p∣Ld.S k fun t=>R i t*y t)->∀t:Nat,t<k->p∣y t
theorem CI.ind (h:CI p k R):uY p k (fun s t=>R t s):=fun y hy t ht=>h y (fun i hi=>by
 have:=hy i hi;rwa [Ld.jO (G:=fun t=>R i t*y t) fun t _=>aB ..] at this) t ht
theorem uY.ci (h:uY p k M):CI p k (fun s t=>M t s):=fun y hy t ht=>h y (fun i hi=>by
 have:=hy i hi;rwa [Ld.jO (G:=fun t=>y t*M t i) fun t _=>aB ..] at this) t ht
theorem CI.pow {p:Int}(p1:1<=p){k:Nat}{R:Int->Int->Int}(h:CI p k R)(e:Nat){y:Int->Int}(hy:∀i:Nat,i<k->p^e∣Ld.S k fun t=>R i t*y t):∀t:Nat,t<k->p^e∣y t :=
 h.ind.pow p1 e y fun i hi=>by
  have:=hy i hi;rwa [Ld.jO (G:=fun t=>y t*R i t) fun t _=>aB ..] at this
theorem LI.ci {m:Int}{U:Int->Int->Int}(h:LI m k U M)(pm:p∣m):CI p k M:=fun y hy t ht=>by
 have e1:p∣Ld.S k fun i=>U t i*Ld.S k fun j=>M i j*y j:=uP fun i hi=>ax (hy i hi);have e2:(Ld.S k fun i=>U t i*Ld.S k fun j=>M i j*y j)=Ld.S k fun j=>y j*Ld.S k fun i=>U t i*M i j:=by
  have a:(Ld.S k fun i=>U t i*Ld.S k fun j=>M i j*y j)=Ld.S k fun i=>Ld.S k fun j=>y j*(U t i*M i j):=Ld.jO fun i _=>by
   rw[<-Ld.kg];exact Ld.jO fun j _=>by grind
  rw[a,Ld.mP];exact Ld.jO fun j _=>by rw[Ld.kg]
 rw[e2] at e1;have e3:p∣(Ld.S k fun j=>y j*Ld.S k fun i=>U t i*M i j)-Ld.S k fun j=>y j*if j=(t:Int) then 1 else 0:=Lt.m8 fun j hj=>by
  rw[<-cM];refine ax (bB pm ?_);have:=h t j ht hj
  by_cases c:t=j
  .rw[aC c] at this;rw[aC J];exact this
  .rw[ak c] at this;rw[ak J];exact this
 rw[lX ht] at e3;exact(Lt.nS e3).mp e1
theorem yB {p:Int}(p2:2<=p):∀e:Nat,(e:Int)<p^e
 | 0=>by rw[eI];decide
 | e+1=>by
  have a:=yB p2 e;have b:=ay p2 (show 0<=p^e by lia);rw[bq];lia
theorem CI.inj (p2:2<=p)(h:CI p k R){y:Int->Int}(hy:∀i:Nat,i<k->(Ld.S k fun t=>R i t*y t)=0)(t:Nat)(ht:t<k):y t=0:=by
 have d:=h.pow J (y t).natAbs (fun i hi=>by rw[hy i hi];exact bi _) t ht;have b:=yB p2 (y t).natAbs
 by_cases z:y t=0
 .exact z
 .have:=aT (show (0:Int)<(y t).natAbs by lia) (gc.mpr d);lia
theorem yU (hp:Pt.mR p){C:Nat}(hC:1<=C){goal:Int->Int}(ci:CI p k R)(hR:∀i t:Nat,i<k->t<k->(R i t).natAbs<=C)(hg:∀i:Nat,i<k->(goal i).natAbs<=C) :
  ∃(x:Int->Int)(s:Int),0<s/\¬p∣s/\(∀i:Nat,i<k->(Ld.S k fun t=>R i t*x t)=s*goal i)/\(∀t:Nat,t<k->(x t).natAbs<=Sg.t7 k C)/\s<=Sg.t7 k C/\∀d:Int,d∣s->(∀t:Nat,t<k->d∣x t)->d∣1:=by
 have p2:=hp.1;obtain⟨z,⟨j,hj,zj⟩,zb,ze⟩:=Sg.L7 k C hC (fun i j=>if j<k then R i j else -goal i) fun i j hi hj=>by
  show (if (j:Int)<k then R i j else -goal i).natAbs<=C
  by_cases c:(j:Int)<k
  .rw[aC c];exact hR i j hi J
  .rw[ak c,gJ];exact hg i hi
 have NQ:∀i:Nat,i<k->(Ld.S k fun t=>R i t*z t)=z k*goal i:=fun i hi=>by
  have a:=ze i hi;have b:(Ld.S (k+1) fun j=>(if j<(k:Int) then R i j else -goal i)*z j)=(Ld.S k fun t=>R i t*z t) + -goal i*z k:=by
   show (Ld.S k fun j=>(if j<(k:Int) then R i j else -goal i)*z j)+(if (k:Int)<k then R i k else -goal i)*z k=_
   rw[ak J,Ld.jO (G:=fun t=>R i t*z t) fun t ht=>by rw[aC J]]
  rw[b] at a;have:-goal i*z k=-(z k*goal i):=by grind
  omega
 have zk:z k≠0:=fun q=>by
  have all:=ci.inj p2 (y:=z) fun i hi=>by rw[NQ i hi,q,aY]
  rcases Nat.lt_succ_iff_lt_or_eq.mp hj with y | y
  .exact zj (all j y)
  .rw[y] at zj;exact zj q
 -- the least Xg
 obtain⟨s,⟨s0,x,hx⟩,mn⟩:=Pg.least (P:=fun s:Nat=>0<s/\∃x:Int->Int,∀i:Nat,i<k->(Ld.S k fun t=>R i t*x t)=s*goal i) (n:=(z k).natAbs) ⟨J,by
  rcases Int.lt_or_le (z k) 0 with q | q
  .refine⟨fun t=>-1*z t,fun i hi=>?_⟩;have:(Ld.S k fun t=>R i t*(-1*z t))=-1*Ld.S k fun t=>R i t*z t:=by rw[<-Ld.kg];exact Ld.jO fun t _=>by grind
   rw[this,NQ i hi,show ((z k).natAbs:Int)=-z k by lia];grind
  .refine⟨z,fun i hi=>?_⟩;rw[NQ i hi,show ((z k).natAbs:Int)=z k by lia]⟩
 have sle:s<=(z k).natAbs:=by
  rcases Nat.lt_or_ge (z k).natAbs s with q | q
  .refine absurd ?_ (mn _ q);refine⟨J,?_⟩;rcases Int.lt_or_le (z k) 0 with q | q
   .refine⟨fun t=>-1*z t,fun i hi=>?_⟩;have:(Ld.S k fun t=>R i t*(-1*z t))=-1*Ld.S k fun t=>R i t*z t:=by rw[<-Ld.kg];exact Ld.jO fun t _=>by grind
    rw[this,NQ i hi,show ((z k).natAbs:Int)=-z k by lia];grind
   .refine⟨z,fun i hi=>?_⟩;rw[NQ i hi,show ((z k).natAbs:Int)=z k by lia]
  .exact q
 have one:∀d:Int,d∣(s:Int)->(∀t:Nat,t<k->d∣x t)->d∣1:=fun d ds dx=>by
  have d0:d≠0:=fun q=>by rw[q] at ds;have:=ga.mp ds;lia
  obtain⟨c,hc⟩:=ds
  by_cases q:d.natAbs=1
  .exact aX.mp (by rw[q];exact iL 1)
  .exfalso;have e:s=d.natAbs*c.natAbs:=by have:=cU Int.natAbs hc;rwa [cx,aM] at this
   have c0:0<c.natAbs:=by rcases Nat.eq_zero_or_pos c.natAbs with w | w;(rw[w,Nat.mul_zero] at e;lia);exact w
   have lt:c.natAbs<s:=by
    rw[e];have:2<=d.natAbs:=J;have:=cS c.natAbs this;lia
   refine mn _ lt ⟨c0,fun t=>(if 0<=c then 1 else -1)*(x t/d),fun i hi=>?_⟩;refine aS d0 ?_;have a:d*(Ld.S k fun t=>R i t*((if 0<=c then 1 else -1)*(x t/d)))=(if 0<=c then 1 else -1)*Ld.S k fun t=>R i t*x t:=by
    rw[<-Ld.kg,<-Ld.kg];refine Ld.jO fun t ht=>?_;have:=cR (dx t ht);generalize x t/d=u at this;rw[<-this];grind
   rw[a,hx i hi,hc]
   by_cases w:0<=c
   .rw[aC w,show (c.natAbs:Int)=c by lia];grind
   .rw[ak w,show (c.natAbs:Int)=-c by lia];grind
 refine⟨x,s,J,fun q=>?_,hx,fun t ht=>?_,?_,one⟩
 .have:p∣1:=one p q fun t ht=>ci x (fun i hi=>by rw[hx i hi];exact aE q) t ht;have:=aT O this;lia
 .-- z k times x is s times z
  have e:=ci.inj p2 (y:=fun t=>z k*x t-s*z t) (fun i hi=>by
   have:(Ld.S k fun t=>R i t*(z k*x t-s*z t))=z k*(Ld.S k fun t=>R i t*x t) + -s*Ld.S k fun t=>R i t*z t:=by
    rw[<-Ld.kg,<-Ld.kg,<-Ld.mj];exact Ld.jO fun t _=>by grind
   rw[this,hx i hi,NQ i hi];grind) t ht
  have e':z k*x t=s*z t:=by
   have:z k*x t-s*z t=0:=e;lia
  have n:=cU Int.natAbs e';rw[aM,aM,cx] at n;have b:=cS (z t).natAbs sle;rw[<-n] at b;have:=ie b (show 0<(z k).natAbs by lia);exact bR this (zb t)
 .have:=zb k;lia
variable {U:Int->Int->Int}
def RI (m:Int)(k:Nat)(R U:Int->Int->Int):Prop:=∀i j:Nat,i<k->j<k->m∣(Ld.S k fun t=>R i t*U t j)-if i=j then 1 else 0
theorem lift {m:Int}{k:Nat}{R:Int->Int->Int}(h:RI m k R U){left more:Int->Int}(hm:∀t:Nat,t<k->m∣more t-Ld.S k fun j=>U t j*left j)(i:Nat)(hi:i<k):m∣left i-Ld.S k fun t=>R i t*more t:=by
 have e1:m∣(Ld.S k fun t=>R i t*more t)-Ld.S k fun t=>R i t*Ld.S k fun j=>U t j*left j:=Lt.m8 fun t ht=>by
  rw[<-cM];exact ax (hm t ht)
 have e2:(Ld.S k fun t=>R i t*Ld.S k fun j=>U t j*left j)=Ld.S k fun j=>left j*Ld.S k fun t=>R i t*U t j:=by
  have a:(Ld.S k fun t=>R i t*Ld.S k fun j=>U t j*left j)=Ld.S k fun t=>Ld.S k fun j=>left j*(R i t*U t j):=Ld.jO fun t _=>by
   rw[<-Ld.kg];exact Ld.jO fun j _=>by grind
  rw[a,Ld.mP];exact Ld.jO fun j _=>by rw[Ld.kg]
 have e3:m∣(Ld.S k fun j=>left j*Ld.S k fun t=>R i t*U t j)-Ld.S k fun j=>left j*if j=(i:Int) then 1 else 0:=Lt.m8 fun j hj=>by
  rw[<-cM];refine ax ?_;have:=h i j hi hj
  by_cases c:i=j
  .rw[aC c] at this;rw[aC J];exact this
  .rw[ak c] at this;rw[ak J];exact this
 rw[lX hi] at e3;rw[e2] at e1;have:=d6.mpr (bQ e1 e3);rwa [show ∀a b c:Int,-(a-b+(b-c))=c-a from fun a b c=>by lia] at this
structure yC (k:Nat)(R:Int->Int->Int)(goal:Int->Int)(scale:Int)(r left:Int->Int):Prop where
 eq:∀i:Nat,i<k->(Ld.S k fun t=>R i t*r t)+scale*left i=goal i
 rg:∀t:Nat,t<k->0<=r t/\r t<scale
theorem yC.start (k:Nat)(R:Int->Int->Int)(goal:Int->Int):yC k R goal 1 (fun _=>0) goal:=⟨fun i _=>by
 rw[Ld.jO (G:=fun _=>0) fun t _=>bu _,Ld.mQ,dD,cQ],fun t _=>⟨dW 0,O⟩⟩
theorem yC.step {m:Int}(hm:1<=m){k:Nat}{R:Int->Int->Int}(ri:RI m k R U){goal:Int->Int}{scale:Int}(hs:1<=scale){r left:Int->Int}(h:yC k R goal scale r left){more nU:Int->Int}(em:∀t:Nat,t<k->more t=(Ld.S k fun j=>U t j*left j)%m)(el:∀i:Nat,i<k->nU i=(left i-Ld.S k fun t=>R i t*more t)/m) :
  yC k R goal (scale*m) (fun t=>r t+scale*more t) nU:=by
 refine⟨fun i hi=>?_,fun t ht=>?_⟩
 .have d:=lift ri (left:=left) (more:=more) (fun t ht=>by rw[em t ht];exact Lt.k5 _ _) i hi;have q:=cR d;rw[<-el i hi] at q;have a:(Ld.S k fun t=>R i t*(r t+scale*more t))=(Ld.S k fun t=>R i t*r t)+scale*Ld.S k fun t=>R i t*more t:=by
   rw[<-Ld.kg,<-Ld.mj];exact Ld.jO fun t _=>by grind
  rw[a,<-h.eq i hi];generalize (Ld.S k fun t=>R i t*more t)=x at *;rw[aK,q];grind
 .have a:=h.rg t ht;have b0:=aD (Ld.S k fun j=>U t j*left j) (show m≠0 by lia);have b1:=az (Ld.S k fun j=>U t j*left j) (show 0<m by lia);rw[<-em t ht] at b0 b1;have c0:=bx (show 0<=scale by lia) b0;have c1:=ay (show more t<=m-1 by lia) (show 0<=scale by lia);rw[cM,bV] at c1;show 0<=r t+scale*more t/\r t+scale*more t<scale*m
  lia
theorem yC.rest {p:Int}(p1:1<=p){k:Nat}{R:Int->Int->Int}(ci:CI p k R){goal:Int->Int}{e:Nat}{r left:Int->Int}(h:yC k R goal (p^e) r left){x:Int->Int}{s:Int}(hx:∀i:Nat,i<k->(Ld.S k fun t=>R i t*x t)=s*goal i)(t:Nat)(ht:t<k):p^e∣s*r t-x t :=
 ci.pow p1 e (y:=fun t=>s*r t-x t) (fun i hi=>by
  have:(Ld.S k fun t=>R i t*(s*r t-x t))=s*(Ld.S k fun t=>R i t*r t) + -1*Ld.S k fun t=>R i t*x t:=by
   rw[<-Ld.kg,<-Ld.kg,<-Ld.mj];exact Ld.jO fun t _=>by grind
  rw[this,hx i hi,<-h.eq i hi];exact⟨-(s*left i),by grind⟩) t ht
theorem rY {p:Int}(hp:Pt.mR p){a:Int}(h:¬p∣a):∀(e:Nat){y:Int},p^e∣a*y->p^e∣y
 | 0,y,_=>by rw[eI];exact fW y
 | e+1,y,d=>by
  have p2:=hp.1;have py:p∣y:=nE hp (bB ⟨p^e,by rw[bq,aB]⟩ d) h;obtain⟨z,hz⟩:=py;obtain⟨c,hc⟩:=d;have:p^e∣a*z:=⟨c,aS (show p≠0 by lia) (by
   rw[hz,bq] at hc;have e1:p*(a*z)=a*(p*z):=by grind
   have e2:p*(p^e*c)=p^e*p*c:=by grind
   rw[e1,e2];exact hc)⟩
  obtain⟨w,hw⟩:=rY hp h e this;exact⟨w,by rw[hz,hw,bq];grind⟩
theorem T3 {p:Int}(hp:Pt.mR p){e:Nat}{s b r x:Int}(s0:0<s)(ps:¬p∣s)(b0:0<b)(bs:b∣s)(hr:p^e∣s*r-x){B H:Int}(sB:s<=B)(xB:(x.natAbs:Int)<=B)(hH:4*B<=H)(HH:H*H<=p^e)
 {r0 r1 c0 c1:Int}(st:Eb.St (p^e) (r*b%p^e) r0 r1 c0 c1)(h0:H<=r0)(h1:r1<H):0<(c1.natAbs:Int)/\b*c1.natAbs∣s/\s∣b*c1.natAbs*x:=by
  have p2:=hp.1;have sc:0<p^e:=by have:=yB (p:=p) J e;lia
  obtain⟨S1,hS⟩:=bs;have S0:0<S1:=by
    rcases Int.lt_or_le 0 S1 with z | z
    · exact z
    · have:=ay z (show 0<=b by lia);lia
  obtain⟨G,hG⟩:∃G:Nat,G=Int.gcd S1 x:=⟨_,Z⟩;obtain⟨s',J3⟩:(G:Int)∣S1:=by rw[hG];exact Int.gcd_dvd_left ..
  obtain⟨x',CH⟩:(G:Int)∣x:=by rw[hG];exact Int.gcd_dvd_right ..
  have G0:0<(G:Int):=by
    rcases Nat.eq_zero_or_pos G with z | z
    · rw[z] at J3;have:S1=0:=by rw[J3];exact aY _
      lia
    · lia
  have YZ:0<s':=by
    rcases Int.lt_or_le 0 s' with z | z
    · exact z
    · have:=ay z (show 0<=(G:Int) by lia);lia
  have AR:Int.gcd s' x'=1:=by
    rw[J3,CH,g4,cx] at hG;have:G*1=G*Int.gcd s' x':=by rw[g7];exact hG
    exact(gf (show 0<G by lia) this).symm
  have pG:¬p∣(G:Int):=fun z=>ps (by rw[hS,J3];exact ax (aE z))
  -- the Qv x'/s' Xh this rest
  have d1:p^e∣s'*(r*b%p^e)-x':=by
    have a:p^e∣(G:Int)*(s'*(r*b)-x'):=by
      have:(G:Int)*(s'*(r*b)-x')=s*r-x:=by rw[hS,J3,CH];grind
      rw[this];exact hr
    have b':=rY hp pG e a;have c:=Lt.k5 (r*b) (p^e);have c':p^e∣s'*(r*b%p^e-r*b):=ax c;have:=bQ b' c';rwa [show s'*(r*b)-x'+s'*(r*b%p^e-r*b)=s'*(r*b%p^e)-x' by grind] at this
  obtain⟨k,hk⟩:=d1;have s'S:s'<=S1:=by have:=aq (show 1<=(G:Int) by lia) (show 0<=s' by lia);lia
  have Ss:S1<=s:=by have:=aq (show 1<=b by lia) (show 0<=S1 by lia);lia
  have xx:(x'.natAbs:Int)<=B:=by
    have:x.natAbs=G*x'.natAbs:=by rw[CH,aM,cx]
    have:=cS x'.natAbs (show 1<=G by lia);lia
  have cr:=st.Ag J;have B0:0<=B:=J;have small:(x'.natAbs:Int)*c1.natAbs+s'*r1<p^e:=by
    have q1:=bx st.p1 (show (0:Int)<=c0.natAbs by lia);have q2:H*c1.natAbs<=p^e:=by
      have:=aq h0 (show (0:Int)<=c1.natAbs by lia);lia
    have q3:4*((x'.natAbs:Int)*c1.natAbs)<=H*c1.natAbs:=by
      have:=aq (show 4*(x'.natAbs:Int)<=H by lia) (show (0:Int)<=c1.natAbs by lia);rw[aK] at this;exact this
    have q4:4*(s'*r1)<=H*H:=by
      have a:=cH (show 4*s'<=H by lia) (show r1<=H by lia) st.p1 (show 0<=H by lia);rw[aK] at a;exact a
    lia
  have rc:=st.PL sc YZ (show s'*(r*b%p^e)=x'+k*p^e by rw[aB k];lia) AR small;have ca:(c1.natAbs:Int)=s':=by rcases rc with ⟨a,_⟩ | ⟨a,_⟩<;>lia
  rw[ca];exact⟨YZ,⟨G,by rw[hS,J3];grind⟩,⟨x',by rw[hS,J3,CH];grind⟩⟩
theorem Hw {k:Nat}{s b:Int}{x:Int->Int}(s0:0<s)(b0:0<b)(bs:b∣s)(all:∀t:Nat,t<k->s∣b*x t)(one:∀d:Int,d∣s->(∀t:Nat,t<k->d∣x t)->d∣1):b=s:=by
 obtain⟨S1,hS⟩:=bs;have d:S1∣1:=one S1 ⟨b,by rw[hS,aB]⟩ fun t ht=>by
  obtain⟨c,hc⟩:=all t ht;refine⟨c,aS (show b≠0 by lia) ?_⟩;rw[hc,hS,aK]
 have S0:0<S1:=by
  rcases Int.lt_or_le 0 S1 with z | z
  .exact z
  .have:=ay z (show 0<=b by lia);lia
 have:=aT O d;have:S1=1:=J;rw[hS,this,bV]
theorem Hn {n m x:Int}(hm:0<m)(h:m∣n-x)(hx:2*(x.natAbs:Int)<m):(if 2*(n%m)<=m then n%m else n%m-m)=x:=by
 have r0:=aD n (show m≠0 by lia);have r1:=az n hm;have d:m∣n%m-x:=by have:=bQ (Lt.k5 n m) h;rwa [show n%m-n+(n-x)=n%m-x by lia] at this
 obtain⟨c,hc⟩:=d;have cc:c=0\/c=1:=by
  rcases Int.lt_or_le c 0 with z | z
  .have:=ay (show c<=-1 by lia) (show 0<=m by lia);lia
  .rcases Int.lt_or_le 1 c with y | y
   .have:=ay (show 2<=c by lia) (show 0<=m by lia);lia
   .lia
 rcases cc with z | z
 .rw[z,bu] at hc;rw[aC J];lia
 .rw[z,bV] at hc;rw[ak J];lia
structure Gj (m:Int)(k:Nat)(M:Int->Int->Int)(c:Nat)(A B:Int->Int->Int):Prop where
 rc:∀i j:Nat,i<k->j<k->m∣A i j-Ld.S k fun t=>B i t*M t j
 diag:∀i j:Nat,i<k->j<c->m∣A i j-if i=j then 1 else 0
 sup:∀i t:Nat,i<k->t<k->c<=t->t≠i->m∣B i t
 own:∀i:Nat,i<k->c<=i->m∣B i i-1
theorem Gj.start {m:Int}{k:Nat}{M:Int->Int->Int}:Gj m k M 0 M (fun i t=>if t=i then 1 else 0):=by
 refine⟨fun i j hi hj=>?_,fun i j _ hj=>absurd hj (bE _),fun i t _ _ _ ne=>?_,fun i _ _=>?_⟩
 .have:(Ld.S k fun t=>(if t=(i:Int) then 1 else 0)*M t j)=M i j:=by
   rw[Ld.jO (G:=fun t=>M t j*if t=(i:Int) then 1 else 0) fun t _=>aB ..,lX (F:=fun t=>M t j) hi]
  rw[this,cv];exact bi _
 .show m∣if (t:Int)=i then 1 else 0
  rw[ak J];exact bi _
 .show m∣(if (i:Int)=i then 1 else 0)-1
  rw[aC Z];exact bi _
theorem Fu {F:Int->Int}{c:Nat}:∀{k:Nat},c<=k->(∀t:Nat,c<=t->t<k->F t=0)->Ld.S k F=Ld.S c F
 | 0,h,_=>by
  have:c=0:=J;rw[this]
 | k+1,h,z=>by
  rcases Nat.lt_or_ge k c with y | y
  .have:c=k+1:=J;rw[this]
  .show Ld.S k F+F k=_
   rw[z k y (bJ k),df];exact Fu y fun t ht hk=>z t ht (bF hk)
theorem Gj.OB {p m:Int}(p2:2<=p)(pm:p∣m){k:Nat}{M:Int->Int->Int}{c:Nat}{A B:Int->Int->Int}(h:Gj m k M c A B)(hc:c<k)(ind:uY p (c+1) M):¬p∣A c c:=fun d=>by
 have key:=ind (fun t=>B c t) (fun j hj=>by
  have a:=bB pm (h.rc c j hc J)
  -- only rows up to c are in it
  have b:p∣(Ld.S k fun t=>B c t*M t j)-Ld.S (c+1) fun t=>B c t*M t j:=by
   have e:(Ld.S (c+1) fun t=>B c t*M t j)=Ld.S k fun t=>if t<(c+1:Nat) then B c t*M t j else 0:=by
    rw[Fu (c:=c+1) (F:=fun t=>if t<((c+1:Nat):Int) then B c t*M t j else 0) hc fun t h1 h2=>ak J];exact Ld.jO fun t ht=>by rw[aC J]
   rw[e];refine Lt.m8 fun t ht=>?_
   by_cases q:(t:Int)<(c+1:Nat)
   .rw[aC q,cv];exact bi _
   .rw[ak q,c5];exact aE (bB pm (h.sup c t hc ht J J))
  have aj:p∣A c j:=by
   rcases Nat.lt_succ_iff_lt_or_eq.mp hj with q | q
   .have:=bB pm (h.diag c j hc q);rwa [ak J,c5] at this
   .rw[q];exact d
  have s:=d6.mpr (bQ (aZ a aj) b);rwa [show ∀x y z:Int,-(x-y-x+(y-z))=z from fun x y z=>by lia] at s) c (bJ c)
 have o:=bB pm (h.own c hc (aH c));have:=aZ key o;rw[show B c c-(B c c-1)=1 by lia] at this;have:=aT O this;lia
theorem Gj.step {m:Int}{k:Nat}{M:Int->Int->Int}{c:Nat}{A B A' B':Int->Int->Int}(h:Gj m k M c A B)(hc:c<k){v:Int}(hv:m∣A c c*v-1)
  (a1:∀j:Nat,j<k->m∣A' c j-A c j*v)(b1:∀t:Nat,t<k->m∣B' c t-B c t*v)
  (a2:∀i j:Nat,i<k->i≠c->j<k->m∣A' i j-(A i j-A i c*(A c j*v)))(b2:∀i t:Nat,i<k->i≠c->t<k->m∣B' i t-(B i t-A i c*(B c t*v))):Gj m k M (c+1) A' B':=by
 refine⟨fun i j hi hj=>?_,fun i j hi hj=>?_,fun i t hi ht ct ne=>?_,fun i hi ci=>?_⟩
 .by_cases q:i=c
  .subst q;have r:=h.rc i j hi hj;have e1:m∣(Ld.S k fun t=>B' i t*M t j)-Ld.S k fun t=>v*(B i t*M t j):=Lt.m8 fun t ht=>by
    have:=aE (c:=M t j) (b1 t ht);rwa [show (B' i t-B i t*v)*M t j=B' i t*M t j-v*(B i t*M t j) by grind] at this
   rw[Ld.kg] at e1;have r':m∣v*(A i j-Ld.S k fun t=>B i t*M t j):=ax r;have:=aZ (bQ (a1 j hj) r') e1;generalize (Ld.S k fun t=>B i t*M t j)=x at *;generalize (Ld.S k fun t=>B' i t*M t j)=y at *;rwa [show A' i j-A i j*v+v*(A i j-x)-(y-v*x)=A' i j-y by grind] at this
  .have r1:=h.rc i j hi hj;have r2:=h.rc c j hc hj;have e1:m∣(Ld.S k fun t=>B' i t*M t j)-Ld.S k fun t=>B i t*M t j + -(A i c*v)*(B c t*M t j):=Lt.m8 fun t ht=>by
    have:=aE (c:=M t j) (b2 i t hi q ht);rwa [show (B' i t-(B i t-A i c*(B c t*v)))*M t j=B' i t*M t j-(B i t*M t j + -(A i c*v)*(B c t*M t j)) by grind] at this
   rw[Ld.mj,Ld.kg] at e1;have r3:m∣-(A i c*v)*(A c j-Ld.S k fun t=>B c t*M t j):=ax r2;have:=aZ (bQ (bQ (a2 i j hi q hj) r1) r3) e1;generalize (Ld.S k fun t=>B i t*M t j)=x at *;generalize (Ld.S k fun t=>B c t*M t j)=z at *;generalize (Ld.S k fun t=>B' i t*M t j)=y at *;rwa [show A' i j-(A i j-A i c*(A c j*v))+(A i j-x) + -(A i c*v)*(A c j-z)-(y-(x + -(A i c*v)*z))=A' i j-y by grind] at this
 .have RO:j<k:=J
  by_cases q:i=c
  .subst q;rcases Nat.lt_succ_iff_lt_or_eq.mp hj with y | y
   .have d:=h.diag i j hi y;rw[ak J,c5] at d;rw[ak J,c5];have d':m∣A i j*v:=aE d;have:=bQ (a1 j RO) d';rwa [show A' i j-A i j*v+A i j*v=A' i j by lia] at this
   .subst y;rw[aC Z];have:=bQ (a1 j RO) hv;rwa [show A' j j-A j j*v+(A j j*v-1)=A' j j-1 by lia] at this
  .rcases Nat.lt_succ_iff_lt_or_eq.mp hj with y | y
   .have d1:=h.diag i j hi y;have d2:=h.diag c j hc y;rw[ak (show ¬c=j by lia),c5] at d2;have d3:m∣A i c*(A c j*v):=ax (aE d2);have:=aZ (bQ (a2 i j hi q RO) d1) d3;generalize (if i=j then (1:Int) else 0)=x at *;rwa [show A' i j-(A i j-A i c*(A c j*v))+(A i j-x)-A i c*(A c j*v)=A' i j-x by lia] at this
   .subst y;rw[ak q,c5];have d3:m∣A i j*(A j j*v-1):=ax hv;have:=aZ (a2 i j hi q RO) d3;rwa [show A' i j-(A i j-A i j*(A j j*v))-A i j*(A j j*v-1)=A' i j by grind] at this
 .have dc:=h.sup c t hc ht J J
  by_cases q:i=c
  .subst q;have d':m∣B i t*v:=aE dc;have:=bQ (b1 t ht) d';rwa [show B' i t-B i t*v+B i t*v=B' i t by lia] at this
  .have di:=h.sup i t hi ht J ne;have d':m∣A i c*(B c t*v):=ax (aE dc);have:=aZ (bQ (b2 i t hi q ht) di) d';rwa [show B' i t-(B i t-A i c*(B c t*v))+B i t-A i c*(B c t*v)=B' i t by lia] at this
 .have q:i≠c:=J;have o:=h.own i hi J;have dc:=h.sup c i hc hi J J;have d':m∣A i c*(B c i*v):=ax (aE dc);have:=aZ (bQ (b2 i i hi q hi) o) d';rwa [show B' i i-(B i i-A i c*(B c i*v))+(B i i-1)-A i c*(B c i*v)=B' i i-1 by lia] at this
theorem Gj.end {m:Int}{k:Nat}{M A B:Int->Int->Int}(h:Gj m k M k A B):LI m k B M:=fun i j hi hj=>by
 have a:=h.rc i j hi hj;have b:=h.diag i j hi hj;have:=aZ b a;rwa [show ∀x y z:Int,x-y-(x-z)=z-y from fun x y z=>by lia] at this
structure EN (p:Int)(w:Nat)(stp:Nat->Int->Int)(k:Nat)(num col:Nat->Nat)(row:Nat->Int->Int):Prop where
 colw:∀t,t<k->col t<w
 one:∀t,t<k->p∣row t (col t)-1
 zero:∀s t,s<t->t<k->p∣row t (col s)
 span:∀t,t<k->∃l:Int->Int,∀c:Nat,c<w->p∣row t c-Ld.S k fun s=>l s*stp (num s.toNat) c
 ind:∀c,c<=k->uY p c (fun s t=>stp (num s.toNat) (col t.toNat))
theorem EN.start (p:Int)(w:Nat)(stp:Nat->Int->Int)(num col:Nat->Nat)(row:Nat->Int->Int):EN p w stp 0 num col row :=
 ⟨fun t h=>absurd h (bE _),fun t h=>absurd h (bE _),fun s t _ h=>absurd h (bE _),fun t h=>absurd h (bE _),fun c h=>(Nat.le_zero.mp h)▸uY.zero _ _⟩
structure Iv (p:Int)(w:Nat)(stp:Nat->Int->Int)(k:Nat)(num col:Nat->Nat)(v:Int->Int)(t:Nat)(left:Int->Int):Prop where
 eq:∃x:Int->Int,∀c:Nat,c<w->p∣left c-(v c-Ld.S k fun s=>x s*stp (num s.toNat) c)
 zero:∀s,s<t->p∣left (col s)
theorem Iv.start {p:Int}{w:Nat}{stp:Nat->Int->Int}{k:Nat}{num col:Nat->Nat}{v left:Int->Int}(h:∀c:Nat,c<w->p∣left c-v c):Iv p w stp k num col v 0 left :=
 ⟨⟨fun _=>0,fun c hc=>by
  have e:(Ld.S k fun s=>(0:Int)*stp (num s.toNat) c)=0:=by
   rw[Ld.jO (G:=fun _=>0) fun s _=>aY (stp (num (s:Int).toNat) c)];exact Ld.mQ k
  show p∣left c-(v c-Ld.S k fun s=>(0:Int)*stp (num s.toNat) c)
  rw[e,c5];exact h c hc⟩,fun s h=>absurd h (bE _)⟩
theorem Iv.step {p:Int}{w:Nat}{stp:Nat->Int->Int}{k:Nat}{num col:Nat->Nat}{row:Nat->Int->Int}(cr:EN p w stp k num col row){v left nU:Int->Int}{t:Nat}(ht:t<k)(h:Iv p w stp k num col v t left)(e:∀c:Nat,c<w->p∣nU c-(left c-left (col t)*row t c)):Iv p w stp k num col v (t+1) nU:=by
 obtain⟨x,hx⟩:=h.eq;obtain⟨l,hl⟩:=cr.span t ht;refine⟨⟨fun s=>x s+left (col t)*l s,fun c hc=>?_⟩,fun s hs=>?_⟩
 .have a:=hx c hc;have b:p∣left (col t)*(row t c-Ld.S k fun s=>l s*stp (num s.toNat) c):=ax (hl c hc);have d:(Ld.S k fun s=>(x s+left (col t)*l s)*stp (num s.toNat) c)=(Ld.S k fun s=>x s*stp (num s.toNat) c)+left (col t)*Ld.S k fun s=>l s*stp (num s.toNat) c:=by
   rw[<-Ld.kg,<-Ld.mj];exact Ld.jO fun s _=>by grind
  rw[d];have:=aZ (bQ (e c hc) a) b;generalize (Ld.S k fun s=>x s*stp (num s.toNat) c)=y at *;generalize (Ld.S k fun s=>l s*stp (num s.toNat) c)=z at *;rwa [show nU c-(left c-left (col t)*row t c)+(left c-(v c-y))-left (col t)*(row t c-z)=nU c-(v c-(y+left (col t)*z)) by grind] at this
 .have ec:=e (col s) (cr.colw s J);rcases Nat.lt_succ_iff_lt_or_eq.mp hs with q | q
  .have z1:=h.zero s q;have z2:p∣left (col t)*row t (col s):=ax (cr.zero s t q ht);have:=aZ (bQ ec z1) z2;rwa [show ∀a b c:Int,a-(b-c)+b-c=a from fun a b c=>by lia] at this
  .subst q;have z2:p∣left (col s)*(row s (col s)-1):=ax (cr.one s ht);have:=aZ ec z2;rwa [show nU (col s)-(left (col s)-left (col s)*row s (col s))-left (col s)*(row s (col s)-1)=nU (col s) by grind] at this
theorem EN.congr {p:Int}{w:Nat}{stp:Nat->Int->Int}{k:Nat}{num col num' col':Nat->Nat}{row row':Nat->Int->Int}(h:EN p w stp k num col row)(e1:∀t,t<k->num' t=num t)(e2:∀t,t<k->col' t=col t)(e3:∀t,t<k->row' t=row t):EN p w stp k num' col' row':=by
 refine⟨fun t ht=>by rw[e2 t ht];exact h.colw t ht,fun t ht=>by rw[e3 t ht,e2 t ht];exact h.one t ht,fun s t st ht=>by rw[e3 t ht,e2 s J];exact h.zero s t st ht,fun t ht=>?_,fun c hc y hy s hs=>?_⟩
 .obtain⟨l,hl⟩:=h.span t ht;refine⟨l,fun c hc=>?_⟩;rw[e3 t ht,Ld.jO (G:=fun s=>l s*stp (num s.toNat) c) fun s hs=>by rw[ae,e1 s hs]];exact hl c hc
 .refine h.ind c hc y (fun t ht=>?_) s hs;have:=hy t ht;dsimp only at this ⊢;rw[Ld.jO (G:=fun s=>y s*stp (num s.toNat) (col (t:Int).toNat)) fun s hs=>by rw[ae,ae,e1 s J,e2 t J]] at this;exact this
theorem EN.snoc {p:Int}(hp:Pt.mR p){w:Nat}{stp:Nat->Int->Int}{k:Nat}{num col:Nat->Nat}{row:Nat->Int->Int}(h:EN p w stp k num col row){left:Int->Int}(cl:Iv p w stp k num col (stp (num k)) k left)(cw:col k<w)(nz:¬p∣left (col k)){u:Int}(hu:p∣left (col k)*u-1)(er:∀c:Nat,c<w->p∣row k c-left c*u):EN p w stp (k+1) num col row:=by
 obtain⟨x,hx⟩:=cl.eq;refine⟨fun t ht=>?_,fun t ht=>?_,fun s t st ht=>?_,fun t ht=>?_,fun c hc=>?_⟩
 .rcases Nat.lt_succ_iff_lt_or_eq.mp ht with q | q
  .exact h.colw t q
  .rw[q];exact cw
 .rcases Nat.lt_succ_iff_lt_or_eq.mp ht with q | q
  .exact h.one t q
  .rw[q];have:=bQ (er (col k) cw) hu;rwa [show ∀a b:Int,a-b+(b-1)=a-1 from fun a b=>by lia] at this
 .rcases Nat.lt_succ_iff_lt_or_eq.mp ht with q | q
  .exact h.zero s t st q
  .subst q;have z:p∣left (col s)*u:=aE (cl.zero s st);have:=bQ (er (col s) (h.colw s st)) z;rwa [show ∀a b:Int,a-b+b=a from fun a b=>by lia] at this
 .rcases Nat.lt_succ_iff_lt_or_eq.mp ht with q | q
  .obtain⟨l,hl⟩:=h.span t q;refine⟨fun s=>if s=(k:Int) then 0 else l s,fun c hc=>?_⟩;have e:(Ld.S (k+1) fun s=>(if s=(k:Int) then 0 else l s)*stp (num s.toNat) c)=Ld.S k fun s=>l s*stp (num s.toNat) c:=by
    show (Ld.S k fun s=>(if s=(k:Int) then 0 else l s)*stp (num s.toNat) c)+(if (k:Int)=k then 0 else l k)*stp (num (k:Int).toNat) c=_
    rw[aC Z,aY,df];exact Ld.jO fun s hs=>by rw[ak J]
   rw[e];exact hl c hc
  .subst q;refine⟨fun s=>if s=(t:Int) then u else -(u*x s),fun c hc=>?_⟩;have e:(Ld.S (t+1) fun s=>(if s=(t:Int) then u else -(u*x s))*stp (num s.toNat) c)=u*(stp (num t) c-Ld.S t fun s=>x s*stp (num s.toNat) c):=by
    show (Ld.S t fun s=>(if s=(t:Int) then u else -(u*x s))*stp (num s.toNat) c)+(if (t:Int)=t then u else -(u*x t))*stp (num (t:Int).toNat) c=_
    rw[aC Z,ae];have:(Ld.S t fun s=>(if s=(t:Int) then u else -(u*x s))*stp (num s.toNat) c)=-u*Ld.S t fun s=>x s*stp (num s.toNat) c:=by
     rw[<-Ld.kg];exact Ld.jO fun s hs=>by rw[ak J];grind
    rw[this];grind
   rw[e];have a:p∣u*(left c-(stp (num t) c-Ld.S t fun s=>x s*stp (num s.toNat) c)):=ax (hx c hc);have:=bQ (er c hc) a;generalize (Ld.S t fun s=>x s*stp (num s.toNat) c)=y at *;rwa [show row t c-left c*u+u*(left c-(stp (num t) c-y))=row t c-u*(stp (num t) c-y) by grind] at this
 .rcases Nat.lt_or_ge c (k+1) with q | q
  .exact h.ind c J
  .have ec:c=k+1:=J;subst ec;refine uY.snoc hp (h.ind k (aH k)) (x:=x) (fun t ht=>?_) fun d=>nz ?_
   .have a:=hx (col t) (h.colw t ht);have b:=cl.zero t ht;have:=aZ b a;rw[show ∀a b:Int,a-(a-b)=b from fun a b=>by lia] at this;rw[ae,ae];exact this
   .have a:=hx (col k) cw;rw[ae] at d;exact(Lt.nS a).mpr d
def Hg (w:Nat)(stp:Nat->Int->Int)(k:Nat)(num:Nat->Nat)(v:Int->Int):Prop:=∃(t:Int->Int)(s:Int),s≠0/\∀c:Nat,c<w->s*v c=Ld.S k fun i=>t i*stp (num i.toNat) c
theorem xA {F:Int->Int}{B:Int}:∀{k:Nat},(∀i:Nat,i<k->((F i).natAbs:Int)<=B)->((Ld.S k F).natAbs:Int)<=k*B
 | 0,_=>by show ((0:Int).natAbs:Int)<=_;simp
 | k+1,h=>by
  have a:=xA (k:=k) fun i hi=>h i (bF hi);have b:=h k (bJ k);show ((Ld.S k F+F k).natAbs:Int)<=((k+1:Nat):Int)*B
  rw[jj,eD,cQ];omega
section
variable {p:Int}{w k:Nat}{stp:Nat->Int->Int}{num col:Nat->Nat}{row:Nat->Int->Int}
theorem Hg.zero:Hg w stp k num fun _=>0:=⟨fun _=>0,1,O,fun c _=>by
 have:(Ld.S k fun i=>(fun _=>(0:Int)) i*stp (num i.toNat) c)=Ld.S k fun _=>0:=Ld.jO fun i _=>aY _;rw[this,Ld.mQ];rfl⟩
theorem Hg.add {u v:Int->Int}(h:Hg w stp k num u)(g:Hg w stp k num v)(a b:Int):Hg w stp k num fun c=>a*u c+b*v c:=by
 obtain⟨t,s,s0,ht⟩:=h;obtain⟨t',s',NR,RP⟩:=g;refine⟨fun i=>a*s'*t i+b*s*t' i,s*s',fun z=>(gE.mp z).elim s0 NR,fun c hc=>?_⟩;have e:(Ld.S k fun i=>(a*s'*t i+b*s*t' i)*stp (num i.toNat) c)=a*s'*(Ld.S k fun i=>t i*stp (num i.toNat) c)+b*s*Ld.S k fun i=>t' i*stp (num i.toNat) c:=by
  rw[<-Ld.kg,<-Ld.kg,<-Ld.mj];exact Ld.jO fun i _=>by grind
 rw[e,<-ht c hc,<-RP c hc];grind
theorem Hg.all (hp:Pt.mR p)(cr:EN p w stp k num col row){v:Int->Int}(h:Hg w stp k num v)(z:∀t:Nat,t<k->v (col t)=0)(c:Nat)(hc:c<w):v c=0:=by
 obtain⟨t,s,s0,ht⟩:=h;have ci:=(cr.ind k (aH k)).ci;have all:=ci.inj hp.1 (y:=t) fun j hj=>by
  have:=ht (col j) (cr.colw j hj);rw[z j hj,bu] at this;show (Ld.S k fun i=>stp (num i.toNat) (col (j:Int).toNat)*t i)=0
  rw[ae,Ld.jO (G:=fun i=>t i*stp (num i.toNat) (col j)) fun i _=>aB ..];exact this.symm
 have e:=ht c hc;rw[Ld.jO (G:=fun _=>0) fun i hi=>by rw[all i hi,aY],Ld.mQ] at e;exact(gE.mp e).resolve_left s0
theorem Hg.weigh {v:Int->Int}(h:Hg w stp k num v){W:Int->Int}(z:∀i:Nat,i<k->(Ld.S w fun c=>stp (num i) c*W c)=0):(Ld.S w fun c=>v c*W c)=0:=by
 obtain⟨t,s,s0,ht⟩:=h;have e1:s*(Ld.S w fun c=>v c*W c)=Ld.S k fun i=>t i*Ld.S w fun c=>stp (num i.toNat) c*W c:=by
  rw[<-Ld.kg];have a:(Ld.S w fun c=>s*(v c*W c))=Ld.S w fun c=>Ld.S k fun i=>t i*(stp (num i.toNat) c*W c):=Ld.jO fun c hc=>by
   rw[<-aK,ht c hc,<-Ld.qo];exact Ld.jO fun i _=>aK ..
  rw[a,Ld.mP];exact Ld.jO fun i _=>by rw[Ld.kg]
 have e2:(Ld.S k fun i=>t i*Ld.S w fun c=>stp (num i.toNat) c*W c)=0:=by
  rw[Ld.jO (G:=fun _=>0) fun i hi=>by rw[ae,z i hi,bu],Ld.mQ]
 rw[e2] at e1;exact(gE.mp e1).resolve_left s0
end
def La (k:Nat)(R:Int->Int->Int)(v:Int->Int):Prop:=∃x:Int->Int,∀i:Nat,i<k->(Ld.S k fun t=>R i t*x t)=v i
section
variable {k:Nat}{R:Int->Int->Int}
theorem La.Yq {u v:Int->Int}(h:La k R u)(g:La k R v)(a b:Int):La k R fun i=>a*u i+b*v i:=by
 obtain⟨x,hx⟩:=h;obtain⟨y,hy⟩:=g;refine⟨fun t=>a*x t+b*y t,fun i hi=>?_⟩;have:(Ld.S k fun t=>R i t*(a*x t+b*y t))=a*(Ld.S k fun t=>R i t*x t)+b*Ld.S k fun t=>R i t*y t:=by
  rw[<-Ld.kg,<-Ld.kg,<-Ld.mj];exact Ld.jO fun t _=>by grind
 rw[this,hx i hi,hy i hi]
theorem La.congr {u v:Int->Int}(h:La k R u)(e:∀i:Nat,i<k->u i=v i):La k R v:=by
 obtain⟨x,hx⟩:=h;exact⟨x,fun i hi=>by rw[hx i hi,e i hi]⟩
end
def pr (n:Nat->Nat):Nat->Nat
 | 0=>1
 | j+1=>pr n j*n j
def pt (n:Nat->Nat):Nat->Nat->Nat->Nat
 | 0,_,_=>0
 | k+1,N,i=>if i=k then N/pr n k else pt n k (N%pr n k) i
theorem zL {n:Nat->Nat}(h:∀i,1<=n i):∀k,1<=pr n k
 | 0=>aH 1
 | k+1=>by have:=cI (zL h k) (h k);exact this
theorem Hu {n:Nat->Nat}(h:∀i,1<=n i):∀{k N:Nat},N<pr n k->∀i,i<k->pt n k N i<n i
 | 0,_,_,i,hi=>absurd hi (bE _)
 | k+1,N,hN,i,hi=>by
  have p:=zL h k;show (if i=k then N/pr n k else pt n k (N%pr n k) i)<n i
  by_cases c:i=k
  .rw[aC c,c];exact gI hN
  .rw[ak c];exact Hu h (gx _ p) i J
theorem GY {n:Nat->Nat}(h:∀i,1<=n i):∀{k N M:Nat},N<pr n k->M<pr n k->(∀i,i<k->pt n k N i=pt n k M i)->N=M
 | 0,N,M,hN,hM,_=>by have a:N<1:=hN;have b:M<1:=hM;lia
 | k+1,N,M,hN,hM,e=>by
  have p:=zL h k;have ek:=e k (bJ k);have Xi:N/pr n k=M/pr n k:=by
   have:(if k=k then N/pr n k else pt n k (N%pr n k) k)=if k=k then M/pr n k else pt n k (M%pr n k) k:=ek;rwa [aC Z,aC Z] at this
  have r:=GY h (k:=k) (gx N p) (gx M p) fun i hi=>by
   have:(if i=k then N/pr n k else pt n k (N%pr n k) i)=if i=k then M/pr n k else pt n k (M%pr n k) i:=e i (bF hi);rwa [ak J,ak J] at this
  rw[<-gC N (pr n k),<-gC M (pr n k),Xi,r]
theorem Dq {f g:Nat->Nat}:∀{k:Nat},(∃i,i<k/\f i≠g i)->∃j,j<k/\f j≠g j/\∀i,j<i->i<k->f i=g i
 | 0,⟨i,hi,_⟩=>absurd hi (bE _)
 | k+1,⟨i,hi,ne⟩=>by
  by_cases c:f k=g k
  .have:i≠k:=fun z=>ne (z▸c);obtain⟨j,hj,nj,all⟩:=Dq (k:=k) ⟨i,J,ne⟩;refine⟨j,J,nj,fun i ji ik=>?_⟩;rcases Nat.lt_succ_iff_lt_or_eq.mp ik with q | q
   .exact all i ji q
   .rw[q];exact c
  .exact⟨k,bJ k,c,fun i a b=>by lia⟩
theorem LD {p:Int}(hp:Pt.mR p){k C:Nat}(hC:1<=C){R:Int->Int->Int}(ci:CI p k R)(hR:∀i t:Nat,i<k->t<k->(R i t).natAbs<=C) :
  ∃D:Nat,1<=D/\D<=(2*(k*C)+1)^k/\∀v:Int->Int,La k R fun i=>D*v i:=by
 have ex:∀j:Nat,∃n:Nat,1<=n/\(j<k->(∃x:Int->Int,∀i:Nat,j<=i->i<k->(Ld.S k fun t=>R i t*x t)=if i=j then (n:Int) else 0)/\∀m:Nat,m<n->¬(0<m/\∃x:Int->Int,∀i:Nat,j<=i->i<k->(Ld.S k fun t=>R i t*x t)=if i=j then (m:Int) else 0)):=fun j=>by
  by_cases hj:j<k
  .obtain⟨x,s,s0,_,hx,_⟩:=yU hp hC (goal:=fun i=>if i=(j:Int) then 1 else 0) ci hR (fun i hi=>by
    show (if (i:Int)=j then (1:Int) else 0).natAbs<=C
    by_cases c:(i:Int)=j
    .rw[aC c];exact hC
    .rw[ak c];exact dH _)
   obtain⟨n,⟨n0,hn⟩,mn⟩:=Pg.least (P:=fun m:Nat=>0<m/\∃x:Int->Int,∀i:Nat,j<=i->i<k->(Ld.S k fun t=>R i t*x t)=if i=j then (m:Int) else 0) (n:=s.toNat) ⟨J,x,fun i _ hi=>by
    have:=hx i hi;rw[this];show s*(if (i:Int)=j then (1:Int) else 0)=_
    by_cases c:i=j
    .rw[aC c,aC J];lia
    .rw[ak c,ak J,bu]⟩
   exact⟨n,n0,fun _=>⟨hn,mn⟩⟩
  .exact⟨1,aH 1,fun h=>absurd h hj⟩
 obtain⟨n,hn⟩:=Classical.axiomOfChoice ex;have n1:∀j,1<=n j:=fun j=>(hn j).1;have kill:∀j:Nat,j<=k->∀v:Int->Int,(∀i:Nat,j<=i->i<k->v i=0)->La k R fun i=>(pr n j:Int)*v i:=by
  intro j
  induction j with
  | zero =>
   intro _ v hv;refine⟨fun _=>0,fun i hi=>?_⟩;have:(Ld.S k fun t=>R i t*(fun _=>(0:Int)) t)=Ld.S k fun _=>0:=Ld.jO fun t _=>bu _;rw[this,Ld.mQ];show 0=(pr n 0:Int)*v i
   rw[hv i (dH i) hi,bu]
  | succ j ih =>
   intro hj v hv;obtain⟨⟨x,hx⟩,_⟩:=(hn j).2 J;have a:=ih J (fun i=>n j*v i-v j*Ld.S k fun t=>R i t*x t) fun i ji ik=>by
    show (n j:Int)*v i-v j*(Ld.S k fun t=>R i t*x t)=0
    rw[hx i ji ik]
    by_cases c:i=j
    .rw[aC c,c,aB];lia
    .rw[ak c,hv i J ik,bu,bu];rfl
   have b:La k R fun i=>Ld.S k fun t=>R i t*x t:=⟨x,fun i _=>Z⟩;refine(a.Yq b 1 (pr n j*v j)).congr fun i _=>?_;show 1*((pr n j:Int)*((n j:Int)*v i-v j*Ld.S k fun t=>R i t*x t))+pr n j*v j*(Ld.S k fun t=>R i t*x t)=((pr n j*n j:Nat):Int)*v i
   rw[aO];grind
 have all:∀v:Int->Int,La k R fun i=>(pr n k:Int)*v i:=fun v=>kill k (aH k) v fun i a b=>by lia
 have p1:=zL n1 k;refine⟨pr n k,p1,?_,all⟩;refine fi fun big=>?_
 -- each point has a zck one in the box
 have box:∀N:Nat,∃u:Int->Int,(∀i:Nat,i<k->(u i).natAbs<=k*C)/\La k R fun i=>(pt n k N i.toNat:Int)-u i:=fun N=>by
  obtain⟨x,hx⟩:=all fun i=>(pt n k N i.toNat:Int);refine⟨fun i=>(pt n k N i.toNat:Int)-Ld.S k fun t=>R i t*(x t/pr n k),fun i hi=>?_,⟨fun t=>x t/pr n k,fun i hi=>by dsimp only;lia⟩⟩;have e:(pr n k:Int)*((pt n k N (i:Int).toNat:Int)-Ld.S k fun t=>R i t*(x t/pr n k))=Ld.S k fun t=>R i t*(x t%pr n k):=by
   have h1:=hx i hi;dsimp only at h1;rw[cM,<-h1,<-Ld.kg];have:(Ld.S k fun t=>R i t*(x t%pr n k))=(Ld.S k fun t=>R i t*x t) + -1*(Ld.S k fun t=>pr n k*(R i t*(x t/pr n k))):=by
    rw[<-Ld.kg,<-Ld.mj];refine Ld.jO fun t _=>?_;rw[iI];grind
   rw[this];lia
  have b:=Sg.xA (m:=k) (F:=fun t=>R i t*(x t%pr n k)) (B:=C*pr n k) fun t ht=>by
   show (R i t*(x t%pr n k)).natAbs<=_
   rw[aM];refine cI (hR i t hi ht) ?_;have:=aD (x t) (show (pr n k:Int)≠0 by lia);have:=az (x t) (show 0<(pr n k:Int) by lia);lia
  rw[<-e,aM,cx,<-gn,fQ] at b;exact Nat.le_of_mul_le_mul_right b p1
 obtain⟨u,hu⟩:=Classical.axiomOfChoice box;have eb:∀N i:Nat,i<k->(u N i+(k*C:Nat)).toNat<2*(k*C)+1:=fun N i hi=>by
  have:=(hu N).1 i hi;lia
 obtain⟨N,M,NM,Mk,e⟩:=Pg.vK (fun N=>Sg.enc (2*(k*C)+1) k fun i=>(u N i+(k*C:Nat)).toNat) big fun N _=>Sg.ub (eb N);have same:=Sg.vh (eb N) (eb M) e;obtain⟨x,hx⟩:La k R fun i=>(pt n k N i.toNat:Int)-pt n k M i.toNat:=((hu N).2.Yq (hu M).2 1 (-1)).congr fun i hi=>by
  have s:=same i hi;have a:=(hu N).1 i hi;have b:=(hu M).1 i hi;lia
 have dif:∃i,i<k/\pt n k N i≠pt n k M i:=by
  refine aV fun no=>?_;have:=GY n1 (k:=k) (N:=N) (M:=M) J Mk fun i hi=>aV fun z=>no ⟨i,hi,z⟩;lia
 obtain⟨j,jk,nj,later⟩:=Dq dif;have lN:=Hu n1 (k:=k) (N:=N) J j jk;have lM:=Hu n1 (k:=k) (N:=M) Mk j jk;have mn:=((hn j).2 jk).2;have CH:∀i:Nat,i<k->(Ld.S k fun t=>R i t*x t)=(pt n k N i:Int)-pt n k M i:=fun i hi=>by
  have:=hx i hi;dsimp only at this;rwa [ae] at this
 rcases Nat.lt_or_gt_of_ne nj with lt | gt
 .refine mn (pt n k M j-pt n k N j) J ⟨J,fun t=>-1*x t,fun i ji ik=>?_⟩;have:(Ld.S k fun t=>R i t*(-1*x t))=-1*Ld.S k fun t=>R i t*x t:=by
   rw[<-Ld.kg];exact Ld.jO fun t _=>by grind
  rw[this,CH i ik]
  by_cases c:i=j
  .rw[aC c,c];lia
  .rw[ak c,later i J ik];lia
 .refine mn (pt n k N j-pt n k M j) J ⟨J,x,fun i ji ik=>?_⟩;rw[CH i ik]
  by_cases c:i=j
  .rw[aC c,c];lia
  .rw[ak c,later i J ik];lia
end Mx
namespace Pq
def bl (a:Nat):Nat->Nat
 | 0=>a
 | k+1=>bl a k*bl (a+2^k) k
theorem BZ:∀{k a d:Nat},a<=d->d<a+2^k->d∣bl a k
 | 0,a,d,h1,h2=>by
  have:d=a:=by rw[gX] at h2;lia
  rw[this];exact iL _
 | k+1,a,d,h1,h2=>by
  rw[dE] at h2;show d∣bl a k*bl (a+2^k) k
  rcases Nat.lt_or_ge d (a+2^k) with c | c
  .exact Nat.dvd_mul_right_of_dvd (BZ h1 c) _
  .exact iw (BZ c J) _
def S:List Nat:=[1000000007,1000000009,1000000021,1000000033,1000000087,1000000093,1000000097,1000000103,1000000123,1000000181,1000000207,1000000223,1000000241,1000000271,1000000289,1000000297,1000000321,1000000349,1000000363,1000000403,1000000409,1000000411,1000000427,1000000433,1000000439,1000000447,1000000453,1000000459,1000000483,1000000513,1000000531,1000000579,1000000607,1000000613,1000000637,1000000663,1000000711,1000000753,1000000787,1000000801,1000000829,1000000861,1000000871,1000000891,1000000901,1000000919,1000000931,1000000933,1000000993,1000001011,1000001021,1000001053,1000001087,1000001099,1000001137,1000001161,1000001203,1000001213,1000001237,1000001263,1000001269,1000001273,1000001279,1000001311,1000001329,1000001333,1000001351,1000001371,1000001393,1000001413,1000001447,1000001449,1000001491,1000001501,1000001531,1000001537,1000001539,1000001581,1000001617,1000001621,1000001633,1000001647,1000001663,1000001677,1000001699,1000001759,1000001773,1000001789,1000001791,1000001801,1000001803,1000001819]
def pd:List Nat->Nat
 | []=>1
 | p::l=>p*pd l
theorem Fl:∀{l:List Nat}{p:Nat},p∈l->p∣pd l
 | q::l,p,h=>by
  show p∣q*pd l
  rcases List.mem_cons.mp h with e | e
  .rw[e];exact Nat.dvd_mul_right ..
  .exact iw (Fl e) _
theorem AR:(Nat.gcd (pd S) (bl 2 15) == 1)=true:=by decide +kernel
theorem AC:(S.all fun p=>decide (1000000007<=p/\p<1000002100))=true:=by decide +kernel
theorem Mr:S.Nodup:=by decide +kernel
theorem Hr {p:Nat}(h:p∈S):Pt.mR (p:Int)/\1000000007<=p/\p<1000002100:=by
 have r:=eT (dC.mp AC p h);refine⟨⟨J,fun d d2 dp dd=>?_⟩,r⟩;have g:Nat.gcd (pd S) (bl 2 15)=1:=eq_of_beq AR;have no:∀e:Nat,2<=e->e<2+2^15->¬e∣p:=fun e e2 el ep=>by
  have a:=Nat.dvd_gcd (Nat.dvd_trans ep (Fl h)) (BZ e2 el);rw[g] at a;have:=gk Nat.one_pos a;lia
 obtain⟨e,rfl⟩:=Int.eq_ofNat_of_zero_le (show 0<=d by lia);have ep:e∣p:=Int.natCast_dvd_natCast.mp dd;obtain⟨f,hf⟩:=ep;have f2:2<=f:=by
  rcases Nat.lt_or_ge f 2 with c | c
  .have:f=0\/f=1:=J;rcases this with z | z
   .rw[z] at hf;lia
   .rw[z,g7] at hf;lia
  .exact c
 rcases Nat.lt_or_ge e (2+2^15) with c | c
 .exact no e J c ⟨f,hf⟩
 .rcases Nat.lt_or_ge f (2+2^15) with c' | c'
  .exact no f f2 c' ⟨e,by rw[hf,fQ]⟩
  .have:=cI c c';lia
end Pq
namespace Mx
def Hm (q:Int)(w:Nat)(stp:Nat->Int->Int)(k:Nat)(num:Nat->Nat)(v:Int->Int):Prop:=∃x:Int->Int,∀c:Nat,c<w->q∣v c-Ld.S k fun s=>x s*stp (num s.toNat) c
structure Fr (q:Int)(w n:Nat)(stp:Nat->Int->Int)(k:Nat)(num col:Nat->Nat):Prop where
 colw:∀t,t<k->col t<w
 se:∀t,t<k->num t<n
 ind:uY q k (fun s t=>stp (num s.toNat) (col t.toNat))
 all:∀j,j<n->Hm q w stp k num (stp j)
def Good (q:Int)(w n:Nat)(stp:Nat->Int->Int)(goal:Int->Int):Prop :=
 ∀k num col,Fr q w n stp k num col->(∀j,j<n->Hg w stp k num (stp j))/\(Hm q w stp k num goal->Hg w stp k num goal)
theorem Rq {q:Int}(hq:2<=q){w m k:Nat}(km:k<m){r f:Nat->Int->Int}(h:∀i,i<m->∃x:Int->Int,∀c:Nat,c<w->q∣r i c-Ld.S k fun s=>x s*f s.toNat c) :
  ∃y:Int->Int,(∃i:Nat,i<m/\¬q∣y i)/\∀c:Nat,c<w->q∣Ld.S m fun i=>y i*r i.toNat c:=by
 have h':∀i,∃x:Int->Int,i<m->∀c:Nat,c<w->q∣r i c-Ld.S k fun s=>x s*f s.toNat c:=fun i=>by
  by_cases c:i<m
  .obtain⟨x,hx⟩:=h i c;exact⟨x,fun _=>hx⟩
  .exact⟨fun _=>0,fun z=>absurd z c⟩
 obtain⟨X,hX⟩:=Classical.axiomOfChoice h';obtain⟨Q,hQ⟩:∃Q:Nat,Q=q.toNat:=⟨_,Z⟩;have qQ:q=Q:=J;have Q2:2<=Q:=J;have eb:∀N s:Nat,s<k->((Ld.S m fun i=>(Sg.dig Q N i.toNat:Int)*X i.toNat s)%q).toNat<Q:=fun N s _=>by
  have a:=aD (Ld.S m fun i=>(Sg.dig Q N i.toNat:Int)*X i.toNat s) (show q≠0 by lia);have b:=az (Ld.S m fun i=>(Sg.dig Q N i.toNat:Int)*X i.toNat s) (show 0<q by lia);lia
 obtain⟨N,M,NM,Mm,e⟩:=Pg.vK (fun N=>Sg.enc Q k fun s=>((Ld.S m fun i=>(Sg.dig Q N i.toNat:Int)*X i.toNat s)%q).toNat) (Nat.pow_lt_pow_right Q2 km) fun N _=>Sg.ub (eb N);have same:=Sg.vh (eb N) (eb M) e;refine⟨fun i=>(Sg.dig Q N i.toNat:Int)-Sg.dig Q M i.toNat,?_,fun c hc=>?_⟩
 .refine aV fun no=>?_;have:N=M:=Sg.zF (b:=Q) J J Mm fun j hj=>by
   have d:q∣(Sg.dig Q N j:Int)-Sg.dig Q M j:=aV fun z=>no ⟨j,hj,by dsimp only;rw[Int.toNat_natCast];exact z⟩;have a:Sg.dig Q N j<Q:=gx _ J;have b:Sg.dig Q M j<Q:=gx _ J
   by_cases z:(Sg.dig Q N j:Int)-Sg.dig Q M j=0
   .lia
   .have:=aT (show (0:Int)<((Sg.dig Q N j:Int)-Sg.dig Q M j).natAbs by lia) (gc.mpr d);lia
  lia
 .have e1:q∣(Ld.S m fun i=>((Sg.dig Q N i.toNat:Int)-Sg.dig Q M i.toNat)*r i.toNat c)-Ld.S m fun i=>((Sg.dig Q N i.toNat:Int)-Sg.dig Q M i.toNat)*Ld.S k fun s=>X i.toNat s*f s.toNat c:=Lt.m8 fun i hi=>by
   rw[ae,<-cM];exact ax (hX i hi c hc)
  refine(Lt.nS e1).mpr ?_;have e2:(Ld.S m fun i=>((Sg.dig Q N i.toNat:Int)-Sg.dig Q M i.toNat)*Ld.S k fun s=>X i.toNat s*f s.toNat c)=Ld.S k fun s=>(Ld.S m fun i=>((Sg.dig Q N i.toNat:Int)-Sg.dig Q M i.toNat)*X i.toNat s)*f s.toNat c:=by
   rw[Ld.jO (G:=fun i=>Ld.S k fun s=>((Sg.dig Q N i.toNat:Int)-Sg.dig Q M i.toNat)*X i.toNat s*f s.toNat c) fun i _=>by
    rw[<-Ld.kg];exact Ld.jO fun s _=>by grind]
   rw[Ld.mP];exact Ld.jO fun s _=>by rw[Ld.qo]
  rw[e2];refine uP fun s hs=>aE ?_;have z:=same s hs;have e3:(Ld.S m fun i=>((Sg.dig Q N i.toNat:Int)-Sg.dig Q M i.toNat)*X i.toNat s)=(Ld.S m fun i=>(Sg.dig Q N i.toNat:Int)*X i.toNat s) + -1*Ld.S m fun i=>(Sg.dig Q M i.toNat:Int)*X i.toNat s:=by
   rw[<-Ld.kg,<-Ld.mj];exact Ld.jO fun i _=>by grind
  rw[e3];have a:=aD (Ld.S m fun i=>(Sg.dig Q N i.toNat:Int)*X i.toNat s) (show q≠0 by lia);have b:=aD (Ld.S m fun i=>(Sg.dig Q M i.toNat:Int)*X i.toNat s) (show q≠0 by lia);generalize (Ld.S m fun i=>(Sg.dig Q N i.toNat:Int)*X i.toNat s)=A at *;generalize (Ld.S m fun i=>(Sg.dig Q M i.toNat:Int)*X i.toNat s)=B at *;have ab:A%q=B%q:=J;rw[show A + -1*B=A-B by lia];exact bO (by rw[eJ,ab,cv,d8])
theorem both {p:Int}(hp:Pt.mR p){k C:Nat}(hC:1<=C){M:Int->Int->Int}(ind:uY p k M)(hM:∀i t:Nat,i<k->t<k->(M i t).natAbs<=C) :
  ∃D:Nat,1<=D/\D<=(2*(k*C)+1)^k/\(∀v:Int->Int,La k (fun s t=>M t s) fun i=>D*v i)/\∀v:Int->Int,La k M fun i=>D*v i:=by
 obtain⟨D,D1,Db,al⟩:=LD hp hC ind.ci fun i t hi ht=>hM t i ht hi;refine⟨D,D1,Db,al,fun v=>?_⟩
 -- the weights that single one row out
 have ex:∀j:Nat,∃x:Int->Int,∀t:Nat,t<k->(Ld.S k fun i=>M i t*x i)=D*if t=j then 1 else 0:=fun j=>by
  obtain⟨x,hx⟩:=al fun t=>if t=(j:Int) then 1 else 0;refine⟨x,fun t ht=>?_⟩;have:=hx t ht;dsimp only at this;rw[this]
  by_cases c:t=j
  .rw[aC c,aC J]
  .rw[ak c,ak J]
 obtain⟨X,hX⟩:=Classical.axiomOfChoice ex;have key:∀l i:Nat,l<k->i<k->(Ld.S k fun j=>M l j*X j.toNat i)=D*if i=l then 1 else 0:=fun l i hl hi=>by
  have z:=ind.ci.inj hp.1 (y:=fun i=>(Ld.S k fun j=>M l j*X j.toNat i)-D*if i=(l:Int) then 1 else 0) (fun t ht=>by
   show (Ld.S k fun i=>M i t*((Ld.S k fun j=>M l j*X j.toNat i)-D*if i=(l:Int) then 1 else 0))=0
   have a:(Ld.S k fun i=>M i t*((Ld.S k fun j=>M l j*X j.toNat i)-D*if i=(l:Int) then 1 else 0))=(Ld.S k fun i=>Ld.S k fun j=>M l j*(M i t*X j.toNat i)) + -D*Ld.S k fun i=>M i t*if i=(l:Int) then 1 else 0:=by
    rw[<-Ld.kg,<-Ld.mj];refine Ld.jO fun i _=>?_;have:(Ld.S k fun j=>M l j*(M i t*X j.toNat i))=M i t*Ld.S k fun j=>M l j*X j.toNat i:=by rw[<-Ld.kg];exact Ld.jO fun j _=>by grind
    rw[this];grind
   rw[a,lX hl,Ld.mP];have b:(Ld.S k fun j=>Ld.S k fun i=>M l j*(M i t*X j.toNat i))=Ld.S k fun j=>M l j*D*if j=(t:Int) then 1 else 0:=Ld.jO fun j hj=>by
    rw[Ld.kg,ae,hX j t ht]
    by_cases c:t=j
    .rw[aC c,aC J];grind
    .rw[ak c,ak J];grind
   rw[b,lX (F:=fun j=>M l j*D) ht];grind) i hi
  by_cases c:i=l
  .rw[aC c];rw[aC J] at z;lia
  .rw[ak c];rw[ak J] at z;lia
 refine⟨fun j=>Ld.S k fun i=>X j.toNat i*v i,fun l hl=>?_⟩;have a:(Ld.S k fun j=>M l j*Ld.S k fun i=>X j.toNat i*v i)=Ld.S k fun i=>Ld.S k fun j=>M l j*X j.toNat i*v i:=by
  rw[Ld.mP];exact Ld.jO fun j _=>by rw[<-Ld.kg];exact Ld.jO fun i _=>by grind
 rw[a];have b:(Ld.S k fun i=>Ld.S k fun j=>M l j*X j.toNat i*v i)=Ld.S k fun i=>D*v i*if i=(l:Int) then 1 else 0:=Ld.jO fun i hi=>by
  rw[Ld.qo,key l i hl hi]
  by_cases c:i=l
  .rw[aC c,aC J];grind
  .rw[ak c,ak J];grind
 rw[b,lX (F:=fun i=>D*v i) hl]
theorem La.ind {q:Int}(hq:Pt.mR q){k:Nat}{M:Int->Int->Int}{D:Int}(h:∀v:Int->Int,La k M fun i=>D*v i)(nd:¬q∣D):uY q k M:=fun y hy s hs=>by
 obtain⟨x,hx⟩:=h fun i=>if i=(s:Int) then 1 else 0;have e:(Ld.S k fun t=>x t*Ld.S k fun i=>y i*M i t)=D*y s:=by
  have a:(Ld.S k fun t=>x t*Ld.S k fun i=>y i*M i t)=Ld.S k fun i=>y i*Ld.S k fun t=>M i t*x t:=by
   rw[Ld.jO (G:=fun t=>Ld.S k fun i=>y i*(M i t*x t)) fun t _=>by rw[<-Ld.kg];exact Ld.jO fun i _=>by grind];rw[Ld.mP];exact Ld.jO fun i _=>by rw[Ld.kg]
  rw[a,Ld.jO (G:=fun i=>D*y i*if i=(s:Int) then 1 else 0) fun i hi=>by rw[hx i hi];grind];exact lX (F:=fun i=>D*y i) hs
 have d:q∣D*y s:=by rw[<-e];exact uP fun t ht=>ax (hy t ht)
 exact nE hq d nd
section
variable {k:Nat}{num col:Nat->Nat}
variable {w n:Nat}{stp:Nat->Int->Int}
theorem Fr.Ea {q:Int}(hq:Pt.mR q)(F:Fr q w n stp k num col):k<=n/\k<=w:=by
 constructor
 .refine fi fun lt=>?_;obtain⟨y,⟨i,hi,ny⟩,hy⟩:=Rq hq.1 (w:=w) lt (r:=fun i=>stp (num i)) (f:=stp) fun i hi=>⟨fun s=>if s=(num i:Int) then 1 else 0,fun c hc=>by
   rw[Ld.jO (G:=fun s=>stp s.toNat c*if s=(num i:Int) then 1 else 0) fun s _=>by grind,lX (F:=fun s=>stp s.toNat c) (F.se i hi)];rw[ae,cv];exact bi _⟩
  exact ny (F.ind y (fun t ht=>by dsimp only;rw[Int.toNat_natCast];exact hy (col t) (F.colw t ht)) i hi)
 .refine fi fun lt=>?_;obtain⟨y,⟨i,hi,ny⟩,hy⟩:=Rq hq.1 (w:=w) lt (r:=fun i=>stp (num i)) (f:=fun s c=>if (s:Int)=c then 1 else 0) fun i hi=>⟨fun s=>stp (num i) s,fun c hc=>by
   rw[Ld.jO (G:=fun s=>stp (num i) s*if s=(c:Int) then 1 else 0) fun s _=>by rw[ae],lX (F:=fun s=>stp (num i) s) hc];rw[cv];exact bi _⟩
  exact ny (F.ind y (fun t ht=>by dsimp only;rw[Int.toNat_natCast];exact hy (col t) (F.colw t ht)) i hi)
theorem Bh {q:Int}(hq:Pt.mR q){k':Nat}{num' col':Nat->Nat}{D:Int}(cw:∀t,t<k->col t<w)(nn:∀t,t<k->num t<n)(h:∀v:Int->Int,La k (fun s t=>stp (num s.toNat) (col t.toNat)) fun i=>D*v i)(nd:¬q∣D)(F:Fr q w n stp k' num' col'):k<=k':=by
 refine fi fun lt=>?_;obtain⟨y,⟨i,hi,ny⟩,hy⟩:=Rq hq.1 (w:=w) lt (r:=fun i=>stp (num i)) (f:=fun s=>stp (num' s)) fun i hi=>F.all (num i) (nn i hi);exact ny (La.ind hq h nd y (fun t ht=>by dsimp only;rw[Int.toNat_natCast];exact hy (col t) (cw t ht)) i hi)
theorem Pn {q:Int}(hq:Pt.mR q){k':Nat}{num' col':Nat->Nat}{D:Int}(cw:∀t,t<k->col t<w)(nn:∀t,t<k->num t<n)(h:∀v:Int->Int,La k (fun s t=>stp (num s.toNat) (col t.toNat)) fun i=>D*v i)(F:Fr q w n stp k' num' col')(kk:k'<=k)
 {v:Int->Int}(hv:Hm q w stp k' num' v){s:Int}{t:Int->Int}(ht:∀i:Nat,i<k->(Ld.S k fun j=>stp (num j.toNat) (col i)*t j)=s*v (col i)){c:Nat}(hc:c<w):q∣D*(s*v c-Ld.S k fun i=>t i*stp (num i.toNat) c):=by
  refine aV fun nd=>?_;have nD:¬q∣D:=fun z=>nd (aE z);have nG:¬q∣s*v c-Ld.S k fun i=>t i*stp (num i.toNat) c:=fun z=>nd (ax z);have ind:=La.ind hq h nD;obtain⟨y,⟨i,hi,ny⟩,hy⟩:=Rq hq.1 (w:=w) (show k'<k+1 by lia) (r:=fun i=>if i<k then stp (num i) else v) (f:=fun s=>stp (num' s)) fun i hi=>by
    by_cases z:i<k
    · rw[aC z];exact F.all (num i) (nn i z)
    · rw[ak z];exact hv
  have CD:∀c:Nat,c<w->q∣(Ld.S k fun i=>y i*stp (num i.toNat) c)+y k*v c:=fun c hc=>by
    have a:=hy c hc;have e:(Ld.S (k+1) fun i=>y i*(if i.toNat<k then stp (num i.toNat) else v) c)=(Ld.S k fun i=>y i*stp (num i.toNat) c)+y k*v c:=by
      show (Ld.S k fun i=>y i*(if i.toNat<k then stp (num i.toNat) else v) c)+y k*(if (k:Int).toNat<k then stp (num (k:Int).toNat) else v) c=_
      rw[ak J,Ld.jO (G:=fun i=>y i*stp (num i.toNat) c) fun i hi=>by rw[aC J]]
    rwa [e] at a
  have sp:∀c:Nat,(Ld.S k fun i=>(s*y i+y k*t i)*stp (num i.toNat) c)=s*(Ld.S k fun i=>y i*stp (num i.toNat) c)+y k*Ld.S k fun i=>t i*stp (num i.toNat) c:=fun c=>by
    rw[<-Ld.kg,<-Ld.kg,<-Ld.mj];exact Ld.jO fun i _=>by grind
  have near:=ind (fun i=>s*y i+y k*t i) fun j hj=>by
    have a:=ax (a:=q) (b:=s) (CD (col j) (cw j hj));have b:=ht j hj;dsimp only;rw[ae,sp];rw[Ld.jO (G:=fun i=>t i*stp (num i.toNat) (col j)) fun i _=>aB ..] at b;rw[b];rwa [show s*((Ld.S k fun i=>y i*stp (num i.toNat) (col j))+y k*v (col j))=s*(Ld.S k fun i=>y i*stp (num i.toNat) (col j))+y k*(s*v (col j)) by grind] at a
  have yk:q∣y k:=by
    have a:=ax (a:=q) (b:=s) (CD c hc);have b:q∣Ld.S k fun i=>(s*y i+y k*t i)*stp (num i.toNat) c:=uP fun i hi=>aE (near i hi);rw[sp] at b;have d:=aZ a b;generalize (Ld.S k fun i=>y i*stp (num i.toNat) c)=Y at *;generalize (Ld.S k fun i=>t i*stp (num i.toNat) c)=T at *;rw[show s*(Y+y k*v c)-(s*Y+y k*T)=(s*v c-T)*y k by grind] at d;exact nE hq d nG
  have yi:=ind y fun j hj=>by
    have a:=CD (col j) (cw j hj);have b:q∣y k*v (col j):=aE yk;have:=aZ a b;rw[show ∀a b:Int,a+b-b=a from fun a b=>by lia] at this;dsimp only;rw[ae];exact this
  rcases Nat.lt_succ_iff_lt_or_eq.mp hi with z | z
  · exact ny (yi i z)
  · rw[z] at ny;exact ny yk
theorem res {p:Int}(hp:Pt.mR p){C:Nat}(hC:1<=C)(F:Fr p w n stp k num col)(hs:∀(j:Nat)(c:Nat),j<n->c<w->(stp j c).natAbs<=C){v:Int->Int}(hv:∀c:Nat,c<w->(v c).natAbs<=C)(no:¬Hg w stp k num v) :
  ∃(t:Int->Int)(s:Int)(c:Nat),c<w/\(∀i:Nat,i<k->(Ld.S k fun j=>stp (num j.toNat) (col i)*t j)=s*v (col i))/\(s*v c-Ld.S k fun i=>t i*stp (num i.toNat) c)≠0/\((s*v c-Ld.S k fun i=>t i*stp (num i.toNat) c).natAbs:Int)<=(k+1:Nat)*(Sg.t7 k C*C):=by
 obtain⟨t,s,s0,ps,ht,tb,sb,_⟩:=yU hp hC (goal:=fun i=>v (col i.toNat)) F.ind.ci (fun i j hi hj=>by
  show (stp (num (j:Int).toNat) (col (i:Int).toNat)).natAbs<=C
  rw[ae,ae];exact hs _ (col i) (F.se j hj) (F.colw i hi)) (fun i hi=>by
  show (v (col (i:Int).toNat)).natAbs<=C
  rw[ae];exact hv (col i) (F.colw i hi))
 have RP:∀i:Nat,i<k->(Ld.S k fun j=>stp (num j.toNat) (col i)*t j)=s*v (col i):=fun i hi=>by
  have:=ht i hi;rwa [ae] at this
 have ex:∃c:Nat,c<w/\(s*v c-Ld.S k fun i=>t i*stp (num i.toNat) c)≠0:=aV fun z=>no ⟨t,s,J,fun c hc=>by
  have:(s*v c-Ld.S k fun i=>t i*stp (num i.toNat) c)=0:=aV fun y=>z ⟨c,hc,y⟩;lia⟩
 obtain⟨c,hc,nz⟩:=ex;refine⟨t,s,c,hc,RP,nz,?_⟩;have T0:(0:Int)<=Sg.t7 k C:=J;have a:((s*v c).natAbs:Int)<=Sg.t7 k C*C:=by
  rw[aM,aO];exact cH J (by have:=hv c hc;lia) J T0
 have b:((Ld.S k fun i=>t i*stp (num i.toNat) c).natAbs:Int)<=k*(Sg.t7 k C*C):=xA fun i hi=>by
  rw[aM,aO,ae];exact cH (by have:=tb i hi;lia) (by have:=hs _ c (F.se i hi) hc;lia) J T0
 rw[jj,eD,cQ];lia
theorem Ki {α:Type}(f:α->Nat):∀{l:List α},l≠[]->∃a,a∈l/\∀b,b∈l->f b<=f a
 | [],h=>absurd Z h
 | [a],_=>⟨a,av,fun b hb=>by rw[b3.mp hb];exact aH _⟩
 | a::b::l,_=>by
  obtain⟨x,hx,mx⟩:=Ki f (l:=b::l) jB;rcases Nat.lt_or_ge (f a) (f x) with c | c
  .exact⟨x,ar _ hx,fun y hy=>(fv.mp hy).elim (fun e=>by rw[e];lia) (mx y)⟩
  .exact⟨a,av,fun y hy=>(fv.mp hy).elim (fun e=>by rw[e];lia) fun h=>by have:=mx y h;lia⟩
theorem Ht:∀{l:List Nat}{x:Int},l.Nodup->(∀q,q∈l->Pt.mR (q:Int)/\(q:Int)∣x)->(Pq.pd l:Int)∣x
 | [],x,_,_=>fW _
 | q::l,x,nd,h=>by
  obtain⟨hq,x',hx⟩:=h q List.mem_cons_self;rw[eQ] at nd;have r:=Ht (l:=l) (x:=x') nd.2 fun p hp=>by
   have a:=h p (ar _ hp);refine⟨a.1,?_⟩;rw[hx] at a;refine nE a.1 a.2 fun d=>?_;have:p≠q:=fun e=>nd.1 (e▸hp);have le:=aT (by have:=hq.1;lia) d;exact hq.2 p a.1.1 J d
  show ((q*Pq.pd l:Nat):Int)∣x
  rw[aO,hx];exact Int.mul_dvd_mul (cT _) r
theorem JQ {S:List Nat}(ne:S≠[])(HW:∀q,q∈S->Pt.mR (q:Int))(nd:S.Nodup){goal:Int->Int}{C Cg:Nat}(hC:1<=C)(CC:C<=Cg)(hs:∀(j:Nat)(c:Nat),j<n->c<w->(stp j c).natAbs<=C)(hg:∀c:Nat,c<w->(goal c).natAbs<=Cg)
 (big:∀k,k<=n->k<=w->(2*(k*C)+1)^k*((k+1)*(Sg.t7 k Cg*Cg))<Pq.pd S):∃q,q∈S/\Good q w n stp goal:=by
  refine aV fun no=>?_;have ex:∀q:Nat,∃F:Nat×(Nat->Nat)×(Nat->Nat),q∈S->Fr q w n stp F.1 F.2.1 F.2.2/\¬((∀j,j<n->Hg w stp F.1 F.2.1 (stp j))/\(Hm q w stp F.1 F.2.1 goal->Hg w stp F.1 F.2.1 goal)):=fun q=>by
    by_cases h:q∈S
    · refine aV fun z=>no ⟨q,h,fun k num col F=>aV fun y=>z ⟨(k,num,col),fun _=>⟨F,y⟩⟩⟩
    · exact⟨(0,id,id),fun z=>absurd z h⟩
  obtain⟨F,hF⟩:=Classical.axiomOfChoice ex;obtain⟨p,pS,mx⟩:=Ki (fun q=>(F q).1) ne;have Xj:∀(j:Nat)(c:Nat),j<n->c<w->(stp j c).natAbs<=Cg:=fun j c a b=>bR (hs j c a b) CC;have over:∀(k:Nat)(D:Nat)(G:Int),k<=n->k<=w->1<=D->D<=(2*(k*C)+1)^k->G≠0->(G.natAbs:Int)<=(k+1:Nat)*(Sg.t7 k Cg*Cg)->¬∀q,q∈S->(q:Int)∣D*G:=fun k D G kn kw D1 Db G0 Gb all=>by
    have d:=Ht nd fun q hq=>⟨HW q hq,all q hq⟩;have d':=aX.mpr d;rw[aM,cx,cx] at d';have G1:0<G.natAbs:=J;have le:=gk (fK D1 G1) d';have b:=big k kn kw;have Gb':G.natAbs<=(k+1)*(Sg.t7 k Cg*Cg):=by
      have:(G.natAbs:Int)<=(((k+1)*(Sg.t7 k Cg*Cg):Nat):Int):=by rw[aO,aO];exact Gb
      lia
    have:=cI Db Gb';lia
  have dl:∀q:Nat,q∈S->∃D:Nat,1<=D/\D<=(2*((F q).1*C)+1)^(F q).1/\∀v:Int->Int,La (F q).1 (fun s t=>stp ((F q).2.1 s.toNat) ((F q).2.2 t.toNat)) fun i=>D*v i:=fun q hq=>by
    have fr:=(hF q hq).1;obtain⟨D,D1,Db,_,al⟩:=both (HW q hq) hC fr.ind fun i t hi ht=>by
      rw[ae,ae];exact hs _ _ (fr.se i hi) (fr.colw t ht)
    exact⟨D,D1,Db,al⟩
  -- all steps zcn on as many rows as there are at most
  have steps:∀q:Nat,q∈S->(F q).1=(F p).1->∀j,j<n->Hg w stp (F q).1 (F q).2.1 (stp j):=fun q hq ek j hj=>aV fun z=>by
    have fr:=(hF q hq).1;obtain⟨D,D1,Db,al⟩:=dl q hq;obtain⟨t,s,c,hc,ht,nz,Gb⟩:=res (HW q hq) J fr Xj (Xj j · hj) z;have le:=fr.Ea (HW q hq);exact over _ D _ le.1 le.2 D1 Db nz Gb fun q' Bc=>Pn (HW q' Bc) fr.colw fr.se al (hF q' Bc).1 (by have:=mx q' Bc;lia) ((hF q' Bc).1.all j hj) ht hc
  have fr:=(hF p pS).1;obtain⟨D,D1,Db,al⟩:=dl p pS;have st:=steps p pS Z;have gl:Hm p w stp (F p).1 (F p).2.1 goal/\¬Hg w stp (F p).1 (F p).2.1 goal:=by
    have b:=(hF p pS).2;refine aV fun z=>b ⟨st,fun h=>aV fun y=>z ⟨h,y⟩⟩
  obtain⟨t,s,c,hc,ht,nz,Gb⟩:=res (HW p pS) J fr Xj hg gl.2;have le:=fr.Ea (HW p pS);refine over _ D _ le.1 le.2 D1 Db nz Gb fun q hq=>?_;have kk:=mx q hq
  by_cases e:(F q).1=(F p).1
  · have hm:Hm q w stp (F q).1 (F q).2.1 goal:=by
      refine aV fun z=>(hF q hq).2 ⟨steps q hq e,fun h=>absurd h z⟩
    exact Pn (HW q hq) fr.colw fr.se al (hF q hq).1 kk hm ht hc
  · refine aV fun z=>?_
    have:=Bh (HW q hq) fr.colw fr.se al (fun d=>z (aE d)) (hF q hq).1;lia
end
end Mx
namespace Lt
theorem Bu.at {m:Int}{K:Nat}:∀{c:Nat}{ls:List (List Int)},Bu m K c ls->∀{i:Nat}{l:List Int},ls[i]?=some l->l.length=K/\(∀j,j<c+i->g l j=0)/\1<=g l (c+i)/\g l (c+i)∣m
 | c,l::ls,h,0,l',e=>by cases e;exact h.1
 | c,l::ls,h,i+1,l',e=>by
  have:=Bu.at h.2 (i:=i) (l:=l') e;rw[show c+(i+1)=c+1+i by lia];exact this
theorem Jk.at {m:Int}{k:Nat}:∀{c:Nat}{ls:List (List Int)},Jk m k c ls->∀{i:Nat}{l:List Int},ls[i]?=some l->∀a:Int->Int,(∀(j:Nat)(l':List Int),i<j->ls[j]?=some l'->m∣dt k l' a)->m∣m/g l (c+i)*dt k l a
 | c,l::ls,h,0,l',e,a,kl=>by
  cases e;refine h.1 a fun y hy=>?_;obtain⟨j,hj⟩:=List.getElem?_of_mem hy;exact kl (j+1) y (iJ j) hj
 | c,l::ls,h,i+1,l',e,a,kl=>by
  have:=Jk.at h.2 (i:=i) (l:=l') e a fun j y ij hy=>kl (j+1) y (jh ij) hy;rw[show c+(i+1)=c+1+i by lia];exact this
structure EK (m:Int)(k col:Nat)(ls:List (List Int))(j:Nat)(a:Int->Int):Prop where
 lo:∀i:Nat,i<j->a i=0
 hi:∀i:Nat,col<i->a i=0
 at_:∀l,ls[col]?=some l->a col=m/g l col
 kl:∀(i:Nat)(l:List Int),j<=i->ls[i]?=some l->m∣dt k l a
theorem yZ {F:Int->Int}{c:Nat}:∀{k:Nat},c<k->(∀i:Nat,i<k->i≠c->F i=0)->Ld.S k F=F c
 | 0,h,_=>absurd h (bE _)
 | k+1,h,z=>by
  show Ld.S k F+F k=F c
  rcases Nat.lt_succ_iff_lt_or_eq.mp h with y | y
  .rw[yZ y fun i hi ne=>z i (bF hi) ne,z k (bJ k) J,df]
  .have:Ld.S k F=0:=by
    rw[Ld.jO (G:=fun _=>0) fun i hi=>z i (bF hi) J];exact Ld.mQ k
   rw[this,dD,y]
theorem Tp {m:Int}{K k col:Nat}{ls:List (List Int)}(t:Bu m K 0 ls)(hc:col<k){l:List Int}(el:ls[col]?=some l):EK m k col ls col (fun x=>if x=col then m/g l col else 0):=by
 refine⟨fun i hi=>ak J,fun i hi=>ak J,fun l' e=>?_,fun i l' hi e=>?_⟩
 .rw[el] at e;cases e;exact if_pos Z
 .have ti:=t.at e;rw[dR] at ti;have e1:dt k l' (fun x=>if x=(col:Int) then m/g l col else 0)=g l' col*(m/g l col):=by
   unfold dt;rw[yZ (c:=col) hc fun j _ ne=>by
    show g l' (j:Int).toNat*(if (j:Int)=col then m/g l col else 0)=0
    rw[ak J,bu]]
   show g l' (col:Int).toNat*(if (col:Int)=col then m/g l col else 0)=_
   rw[aC Z,ae]
  rw[e1];rcases Nat.lt_or_eq_of_le hi with y | y
  .rw[ti.2.1 col y,aY];exact bi _
  .subst y;rw[el] at e;cases e;rw[cR ti.2.2.2];exact cT m
theorem FX {k:Nat}{v:List Int}{a b:Int->Int}(h:∀i:Nat,i<k->g v i≠0->a i=b i):dt k v a=dt k v b:=by
 unfold dt;refine Ld.jO fun i hi=>?_;rw[ae]
 by_cases z:g v i=0
 .rw[z,aY,aY]
 .rw[h i hi z]
theorem Ku {F:Int->Int}{c:Nat}{x:Int}:∀{k:Nat},c<k->F c=0->(Ld.S k fun i=>if i=c then x else F i)=Ld.S k F+x
 | 0,h,_=>absurd h (bE _)
 | k+1,h,z=>by
  show (Ld.S k fun i=>if i=c then x else F i)+(if (k:Int)=c then x else F k)=Ld.S k F+F k+x
  rcases Nat.lt_succ_iff_lt_or_eq.mp h with y | y
  .rw[Ku y z,ak J];lia
  .subst y;rw[aC Z,z,Ld.jO (G:=F) fun i hi=>ak J];lia
theorem UR {m:Int}(hm:1<=m){K k col p:Nat}{ls:List (List Int)}(t:Bu m K 0 ls)(w:Jk m k 0 ls)(hc:col<k)(pc:p<col){a:Int->Int}(b:EK m k col ls (p+1) a){l:List Int}(el:ls[p]?=some l) :
  g l p∣dt k l a/\EK m k col ls p (fun x=>if x=p then (-(dt k l a/g l p))%(m/g l p) else a x):=by
 have tp:=t.at el;have hp:=w.at el a fun j l' pj e=>b.kl j l' pj e;rw[dR] at tp hp;obtain⟨ll,lz,l1,r,hr⟩:=tp;have mr:m/g l p=r:=by rw[hr];exact aG _ J
 have r1:1<=r:=by
  rcases Int.lt_or_le r 1 with z | z
  .have:=ay (show r<=0 by lia) (show 0<=g l p by lia);lia
  .exact z
 have dv:g l p∣dt k l a:=by
  rw[mr] at hp;obtain⟨z,hz⟩:=hp;refine⟨z,aS (show r≠0 by lia) ?_⟩;rw[hz,hr];grind
 refine⟨dv,fun i hi=>?_,fun i hi=>?_,fun l' e=>?_,fun i l' hi e=>?_⟩
 .show (if (i:Int)=p then _ else a i)=0
  rw[ak J];exact b.lo i J
 .show (if (i:Int)=p then _ else a i)=0
  rw[ak J];exact b.hi i hi
 .show (if (col:Int)=p then _ else a col)=_
  rw[ak J];exact b.at_ l' e
 .rcases Nat.lt_or_eq_of_le hi with y | y
  .have ti:=t.at e;rw[dR] at ti;rw[FX (b:=a) fun j hj nz=>?_]
   .exact b.kl i l' y e
   .by_cases z:(j:Int)=p
    .exact absurd (ti.2.1 j J) nz
    .exact ak z
  .subst y;rw[el] at e;cases e;obtain⟨x,hx⟩:=dv;have xq:dt k l a/g l p=x:=by rw[hx];exact aG _ J
   rw[mr,xq];have e1:dt k l (fun y=>if y=(p:Int) then (-x)%r else a y)=dt k l a+g l p*((-x)%r):=by
    have:(fun y:Int=>g l y.toNat*(if y=(p:Int) then (-x)%r else a y))=fun y=>if y=(p:Int) then g l p*((-x)%r) else g l y.toNat*a y:=funext fun y=>by
     by_cases c:y=(p:Int)
     .rw[aC c,aC c,c,ae]
     .rw[ak c,ak c]
    unfold dt;rw[this,Ku (F:=fun y=>g l y.toNat*a y) (c:=p) J (by rw[b.lo p J,bu])]
   rw[e1,hx];obtain⟨z,hz⟩:=k5 (-x) r;have:(-x)%r=r*z-x:=J;refine⟨z,?_⟩;rw[this]
   conv=>rhs;rw[hr]
   grind
theorem EK.not {m:Int}(hm:1<=m){K k col:Nat}{ls:List (List Int)}(t:Bu m K 0 ls)(hc:col<k){a:Int->Int}(b:EK m k col ls 0 a){l:List Int}(el:ls[col]?=some l){left:List Int}(z:∀i,i<col->g left i=0)(nd:¬g l col∣g left col):¬m∣dt k left a:=fun d=>by
 have tp:=t.at el;rw[dR] at tp;obtain⟨_,_,l1,r,hr⟩:=tp;have mr:m/g l col=r:=by rw[hr];exact aG _ J
 have e1:dt k left a=g left col*r:=by
  unfold dt;rw[yZ (c:=col) hc fun j _ ne=>?_,ae,b.at_ l el,mr];rw[ae];rcases Nat.lt_or_gt_of_ne ne with y | y
  .rw[z j y,aY]
  .rw[b.hi j y,bu]
 rw[e1] at d;obtain⟨y,hy⟩:=d;have r0:r≠0:=fun q=>by rw[q,bu] at hr;lia
 refine nd ⟨y,aS r0 ?_⟩;rw[aB r,hy]
 conv=>lhs;rw[hr]
 grind
def Rec (m:Int)(k r:Nat)(row:Nat->Int->Int)(G:Int->Int)(v:List Int):Prop:=∀i:Nat,i<k->m∣g v i-(G i+Ld.S r fun j=>g v (k+j.toNat)*row j.toNat i)
theorem Rec.mix {m:Int}{K k r:Nat}{row:Nat->Int->Int}{G1 G2:Int->Int}{u v:List Int}(lu:u.length=K)(lv:v.length=K)(h1:Rec m k r row G1 u)(h2:Rec m k r row G2 v)(a b:Int):Rec m k r row (fun i=>a*G1 i+b*G2 i) (mix u a v b m):=fun i hi=>by
 obtain⟨x,hx⟩:=h1 i hi;obtain⟨y,hy⟩:=h2 i hi;obtain⟨z,hz⟩:=k5 (g u i*a+g v i*b) m;have e1:m∣(Ld.S r fun j=>g (Lt.mix u a v b m) (k+j.toNat)*row j.toNat i)-(Ld.S r fun j=>a*(g u (k+j.toNat)*row j.toNat i)+b*(g v (k+j.toNat)*row j.toNat i)):=m8 fun j _=>by
  rw[oC lu lv];obtain⟨q,hq⟩:=k5 (g u (k+(j:Int).toNat)*a+g v (k+(j:Int).toNat)*b) m;refine⟨q*row (j:Int).toNat i,?_⟩;have:(g u (k+(j:Int).toNat)*a+g v (k+(j:Int).toNat)*b)%m=m*q+(g u (k+(j:Int).toNat)*a+g v (k+(j:Int).toNat)*b):=J;rw[this];grind
 rw[Ld.mj,Ld.kg,Ld.kg] at e1;obtain⟨q,hq⟩:=e1;rw[oC lu lv];generalize (Ld.S r fun j=>g (Lt.mix u a v b m) (k+j.toNat)*row j.toNat i)=s at *;generalize (Ld.S r fun j=>g u (k+j.toNat)*row j.toNat i)=s1 at *;generalize (Ld.S r fun j=>g v (k+j.toNat)*row j.toNat i)=s2 at *;refine⟨z+a*x+b*y-q,?_⟩;grind
end Lt
namespace Rx
variable {l a b row other:List Int}{i n:Nat}{x m:Int}
open Lt (g)
theorem Az (h:l.length<=i):g l i=0:=by unfold g;rw[List.getD_eq_getElem?_getD,List.getElem?_eq_none h];rfl
theorem lJ {v:Int}(h:l[i]?=some v):g l i=v:=by unfold g;rw[List.getD_eq_getElem?_getD,h];rfl
theorem lL (h:i<l.length):l[i]?=some (g l i):=by
 have e:l[i]?=some l[i]:=aA h;rw[e,lJ e]
theorem qP {f:Int->Int}(h:i<l.length):g (l.map f) i=f (g l i):=lJ (by rw[af,lL h];rfl)
theorem xR {f:Int->Int->Int}(h:i<a.length)(h':i<b.length):g (List.zipWith f a b) i=f (g a i) (g b i):=lJ (by rw[bY,lL h,lL h'])
theorem rP (h:i<a.length):g (a++b) i=g a i:=by unfold g;rw[List.getD_eq_getElem?_getD,List.getD_eq_getElem?_getD,List.getElem?_append_left h]
theorem wR (h:a.length=n):g (a++b) (n+i)=g b i:=by unfold g;rw[List.getD_eq_getElem?_getD,List.getD_eq_getElem?_getD,List.getElem?_append_right J];congr 2;lia
theorem B8:g (a.drop n) i=g a (n+i):=by unfold g;rw[List.getD_eq_getElem?_getD,List.getD_eq_getElem?_getD,List.getElem?_drop]
theorem sw (h:x∈l):∃i,i<l.length/\g l i=x:=by
 obtain⟨i,hi,e⟩:=List.getElem_of_mem h;exact⟨i,hi,lJ (by rw[aA hi,e])⟩
theorem nV (h:i<l.length):g l i∈l:=ah (lL h)
theorem AD (h:i<n):g (List.replicate n x) i=x:=lJ (by rw[fI,aC h])
theorem PU (l:a.length=b.length)(h:∀i,i<a.length->g a i=g b i):a=b:=by
 refine gV fun i=>?_;rcases Nat.lt_or_ge i a.length with c | c
 .rw[lL c,lL J,h i c]
 .rw[cA c,cA J]
theorem yg {j:Nat}(h:i<a.length):g (a.set i x) j=if j=i then x else g a j:=by
 unfold g;rw[ao,ao]
 by_cases c:j=i
 .rw[aC c,c,fM h];rfl
 .rw[ak c,fU J]
def dot (a b:List Int):Int:=(List.zipWith (· * ·) a b).sum
theorem n5 (la:a.length=n)(lb:b.length=n):dot a b=Ld.S n fun i=>g a i.toNat*g b i.toNat:=by
 rw[<-Pl.Hx (fun i=>g a i.toNat*g b i.toNat)];unfold dot;congr 1;refine gV fun i=>?_;rw[bY,af];rcases Nat.lt_or_ge i n with c | c
 .rw[lL J,lL J,dh c];rfl
 .rw[cA J,cA J,cA (l:=List.range n) (by rw[gi];lia)];rfl
def sY (row:List Int)(many:Int)(other:List Int)(m:Int):List Int:=if many=0 then row else List.zipWith (fun x y=>(x-many*y)%m) row other
theorem yP (l:row.length=other.length)(many m:Int):(sY row many other m).length=row.length:=by
 unfold sY;split
 .rfl
 .rw[dQ,<-l,fR]
def In (m:Int)(l:List Int):Prop:=∀x∈l,0<=x/\x<m
theorem In.g {m:Int}{l:List Int}(h:In m l)(m0:0<m)(i:Nat):0<=Lt.g l i/\Lt.g l i<m:=by
 rcases Nat.lt_or_ge i l.length with c | c
 .exact h _ (nV c)
 .rw[Az c];lia
theorem In.mod (m0:0<m)(l:List Int)(f:Int->Int):In m (l.map fun x=>f x%m):=fun x hx=>by
 obtain⟨y,_,rfl⟩:=List.mem_map.mp hx;exact⟨aD _ J,az _ m0⟩
theorem In.zip (m0:0<m)(a b:List Int)(f:Int->Int->Int):In m (List.zipWith (fun x y=>f x y%m) a b):=fun x hx=>by
 obtain⟨i,hi,e⟩:=List.getElem_of_mem hx;rw[List.getElem_zipWith] at e;rw[<-e];exact⟨aD _ J,az _ m0⟩
theorem LP {many:Int}(m0:0<m)(h:In m row):In m (sY row many other m):=by
 unfold sY;split
 .exact h
 .exact In.zip m0 _ _ fun x y=>x-many*y
theorem Pk {many:Int}(m0:0<m)(h:In m row)(l:row.length=other.length)(hi:i<row.length):Lt.g (sY row many other m) i=(Lt.g row i-many*Lt.g other i)%m:=by
 unfold sY
 by_cases c:many=0
 .rw[aC c,c,aY,c5,aU (h.g m0 i).1 (h.g m0 i).2]
 .rw[ak c,xR hi J]
def tJ (n i:Nat)(x:Int):List Int:=(List.replicate n 0).set i x
theorem oz (n i:Nat)(x:Int):(tJ n i x).length=n:=by unfold tJ;rw[List.length_set,List.length_replicate]
theorem pf {j:Nat}(h:i<n):Lt.g (tJ n i x) j=if j=i then x else 0:=by
 unfold tJ;rw[yg (by rw[aR];exact h)]
 by_cases c:j=i
 .rw[aC c,aC c]
 .rw[ak c,ak c];rcases Nat.lt_or_ge j n with d | d
  .exact AD d
  .exact Az (by rw[aR];exact d)
def xf (k:Nat)(rows:List (List Int)):List (List Int):=(List.range k).map fun c=>rows.map fun row=>g row c
def sE:List Int->List Nat->List Int->List Int
 | l,[],_=>l
 | l,_::_,[]=>l
 | l,p::ps,x::xs=>sE (l.set p x) ps xs
def uk (n:Nat)(ps:List Nat)(xs:List Int):List Int:=sE (List.replicate n 0) ps xs
theorem Bq (n:Nat)(ps:List Nat)(xs:List Int):uk n ps xs=sE (List.replicate n 0) ps xs:=rfl
theorem xE:∀(l:List Int)(ps:List Nat)(xs:List Int)(p:Nat)(x:Int),ps.length=xs.length->sE l (ps++[p]) (xs++[x])=(sE l ps xs).set p x
 | l,[],[],p,x,_=>rfl
 | l,q::ps,y::xs,p,x,h=>xE (l.set q y) ps xs p x (by simpa using h)
 | l,[],_::_,p,x,h=>by simp at h
 | l,_::_,[],p,x,h=>by simp at h
theorem Ac:∀(l:List Int)(ps:List Nat)(xs:List Int),(sE l ps xs).length=l.length
 | l,[],_=>by rw[sE]
 | l,_::_,[]=>rfl
 | l,p::ps,x::xs=>by
  show (sE (l.set p x) ps xs).length=l.length
  rw[Ac,cf]
theorem nX (n:Nat)(ps:List Nat)(xs:List Int):(uk n ps xs).length=n:=by rw[Bq,Ac,aR]
theorem sP {c:Nat}:∀(l:List Int)(ps:List Nat)(xs:List Int),c∉ps->(∀p∈ps,p<l.length)->g (sE l ps xs) c=g l c
 | l,[],_,_,_=>by rw[sE]
 | l,_::_,[],_,_=>rfl
 | l,p::ps,x::xs,h,hl=>by
  rw[fv,not_or] at h;show g (sE (l.set p x) ps xs) c=g l c
  rw[sP (l.set p x) ps xs h.2 (fun q hq=>by rw[cf];exact hl q (ar _ hq)),yg (hl p av),ak h.1]
theorem Dt:∀(l:List Int)(ps:List Nat)(xs:List Int),ps.Nodup->(∀p∈ps,p<l.length)->∀(i p:Nat)(x:Int),ps[i]?=some p->xs[i]?=some x->g (sE l ps xs) p=x
 | l,[],_,_,_,i,p,x,h,_=>by simp at h
 | l,_::_,[],_,_,i,p,x,_,h=>by simp at h
 | l,q::ps,y::xs,nd,hl,i,p,x,hp,hx=>by
  rw[eQ] at nd;have hl':∀p∈ps,p<(l.set q y).length:=fun z hz=>by rw[cf];exact hl z (ar _ hz)
  show g (sE (l.set q y) ps xs) p=x
  cases i with
  | zero =>
   rw[List.getElem?_cons_zero] at hp hx;cases hp;cases hx;rw[sP _ ps xs nd.1 hl',yg (hl q av),aC Z]
  | succ i =>
   rw[dJ] at hp hx;exact Dt (l.set q y) ps xs nd.2 hl' i p x hp hx
theorem uo {n c:Nat}{ps:List Nat}{xs:List Int}(h:c∉ps)(hl:∀p∈ps,p<n):g (uk n ps xs) c=0:=by
 rw[Bq,sP _ ps xs h (fun p hp=>by rw[aR];exact hl p hp)];rcases Nat.lt_or_ge c n with d | d
 .exact AD d
 .exact Az (by rw[aR];exact d)
theorem Fz {n:Nat}{ps:List Nat}{xs:List Int}(nd:ps.Nodup)(hl:∀p∈ps,p<n){i p:Nat}{x:Int}(hp:ps[i]?=some p)(hx:xs[i]?=some x):g (uk n ps xs) p=x:=by
 rw[Bq];exact Dt _ ps xs nd (fun p hp=>by rw[aR];exact hl p hp) i p x hp hx
theorem Ky {n:Nat}{F:Int->Int}:∀{ps:List Nat}{xs:List Int}{k:Nat},ps.length=k->xs.length=k->ps.Nodup->(∀p∈ps,p<n) ->
  (Ld.S n fun c=>F c*g (uk n ps xs) c.toNat)=Ld.S k fun i=>F (ps.getD i.toNat 0)*g xs i.toNat:=by
 intro ps xs k lp lx nd hl
 -- each filled place by its own
 have e1:(Ld.S n fun c=>F c*g (uk n ps xs) c.toNat)=Ld.S n fun c=>Ld.S k fun i=>if c=(ps.getD i.toNat 0:Int) then F c*g xs i.toNat else 0:=Ld.jO fun c hc=>by
  rw[ae]
  by_cases m:c∈ps
  .obtain⟨j,hj,ej⟩:=List.getElem_of_mem m;have pj:ps[j]?=some c:=by rw[aA hj,ej]
   rw[Fz nd hl pj (lL J)];have uni:∀i:Nat,i<k->(c:Int)=(ps.getD (i:Int).toNat 0:Int)->i=j:=fun i hi z=>by
    have z':c=ps.getD i 0:=by rw[ae] at z;lia
    rw[ao,aA (show i<ps.length by lia)] at z';have pw:=cV.mp nd;have z2:c=ps[i]'J:=z';rcases Nat.lt_trichotomy i j with q | q | q
    .exact absurd (by rw[<-z2,ej]) (pw i j J hj q)
    .exact q
    .exact absurd (by rw[<-z2,ej]) (pw j i hj J q)
   rw[Lt.yZ (c:=j) J fun i hi ne=>ak fun z=>ne (uni i hi z)]
   .have:ps.getD (j:Int).toNat 0=c:=by rw[ae,ao,pj];rfl
    rw[this,aC Z,ae]
  .rw[uo m hl,bu];have non:∀i:Nat,i<k->¬(c:Int)=(ps.getD (i:Int).toNat 0:Int):=fun i hi z=>m (by
    have z':c=ps.getD i 0:=by rw[ae] at z;lia
    rw[ao,aA (show i<ps.length by lia)] at z';rw[z'];exact cm _)
   rw[Ld.jO (G:=fun _=>0) fun i hi=>ak (non i hi),Ld.mQ]
 rw[e1,Ld.mP];refine Ld.jO fun i hi=>?_;have pi:ps.getD (i:Int).toNat 0<n:=by
  rw[ae,ao,aA (show i<ps.length by lia)];exact hl _ (cm _)
 rw[Ld.AK (G:=fun c=>F c*g xs (i:Int).toNat) J,aC J]
variable {step:List Int}
open Mx
abbrev Fd:=Nat×Nat×List Int
def st (steps:List (List Int)):Nat->Int->Int:=fun j c=>g (steps.getD j []) c.toNat
def fn (l:List Int):Int->Int:=fun c=>g l c.toNat
def nm (fs:List Fd)(t:Nat):Nat:=(fs.getD t (0,0,[])).1
def cl (fs:List Fd)(t:Nat):Nat:=(fs.getD t (0,0,[])).2.1
def EF (fs:List Fd)(t:Nat):Int->Int:=fn (fs.getD t (0,0,[])).2.2
def Jw (p:Int)(l:List Int)(f:Fd):List Int:=sY l (g l f.2.1) f.2.2 p
def oN (p:Int)(fs:List Fd)(step:List Int):List Int:=fs.foldl (Jw p) (step.map fun x=>x%p)
theorem wc (p:Int)(fs:List Fd)(f:Fd)(step:List Int):oN p (fs++[f]) step=Jw p (oN p fs step) f:=by unfold oN;rw[List.foldl_append];rfl
theorem Dd (p:Int)(step:List Int):oN p [] step=step.map fun x=>x%p:=rfl
def OO (p:Int)(w:Nat)(fs:List Fd):Prop:=∀f∈fs,f.2.2.length=w/\In p f.2.2/\f.2.1<w
theorem sR {p:Int}(p0:0<p){w:Nat}(l:step.length=w):∀{k:Nat}{fs:List Fd},fs.length=k->OO p w fs->(oN p fs step).length=w/\In p (oN p fs step):=by
 intro k
 induction k with
 | zero =>
  intro fs e _;rw[g8 e,Dd];exact⟨by rw[aa,l],In.mod p0 step fun x=>x⟩
 | succ k ih =>
  intro fs e h;have ne:fs≠[]:=fun z=>by rw[z] at e;cases e
  obtain⟨CJ,f,rfl⟩:∃CJ f,fs=CJ++[f]:=⟨fs.dropLast,fs.getLast ne,(List.dropLast_concat_getLast ne).symm⟩;rw[aJ] at e;have r:=ih (fs:=CJ) (by simpa using e) fun f hf=>h f (List.mem_append_left _ hf);have hf:=h f (bp _ av);rw[wc];exact⟨by unfold Jw;rw[yP (by rw[r.1,hf.1]),r.1],LP p0 r.2⟩
theorem Do {p:Int}(p0:0<p){w:Nat}{stp:Nat->Int->Int}{k:Nat}{num col:Nat->Nat}{row:Nat->Int->Int}(cr:EN p w stp k num col row){fs:List Fd}(rk:OO p w fs)(lk:fs.length<=k)(ag:∀(t:Nat)(f:Fd),fs[t]?=some f->col t=f.2.1/\row t=fn f.2.2)
 (l:step.length=w):Iv p w stp k num col (fn step) fs.length (fn (oN p fs step)):=by
  obtain⟨m,hm⟩:∃m,m=fs.length:=⟨_,Z⟩
  induction m generalizing fs with
  | zero =>
    rw[g8 hm.symm,Dd];refine Iv.start fun c hc=>?_;unfold fn;rw[ae,qP J];exact Lt.k5 _ _
  | succ m ih =>
    have ne:fs≠[]:=fun z=>by rw[z] at hm;cases hm
    obtain⟨CJ,f,rfl⟩:∃CJ f,fs=CJ++[f]:=⟨fs.dropLast,fs.getLast ne,(List.dropLast_concat_getLast ne).symm⟩;have Y0:OO p w CJ:=fun f hf=>rk f (cD _ hf);have l':CJ.length=m:=by rw[aJ] at hm;simpa using hm.symm
    have hf:=rk f (bp _ av);have a:=ih Y0 (by rw[aJ] at lk;lia) (fun t f h=>ag t f (by rw[dj (by exact(aF.mp h).1)];exact h)) l'.symm;have b:=ag CJ.length f (by rw[c9 (aH _),iM];rfl);have ok:=sR p0 l Z Y0;have e:(CJ++[f]).length=CJ.length+1:=by rw[aJ];rfl
    rw[e,wc];refine Iv.step cr (by rw[e] at lk;lia) a fun c hc=>?_;rw[b.1,b.2];unfold fn Jw;rw[ae,ae,Pk p0 ok.2 (by rw[ok.1,hf.1]) J];exact Lt.k5 _ _
structure qE (p:Int)(w:Nat)(steps:List (List Int))(i:Nat)(fs:List Fd):Prop where
 cor:EN p w (st steps) fs.length (nm fs) (cl fs) (EF fs)
 rok:OO p w fs
 lt:∀f∈fs,f.1<i
 srt:fs.Pairwise fun a b=>a.1<b.1
 all:∀j,j<i->Hm p w (st steps) fs.length (nm fs) (st steps j)
theorem qE.start (p:Int)(w:Nat)(steps:List (List Int)):qE p w steps 0 [] :=
 ⟨EN.start ..,fun f h=>(nomatch h),fun f h=>(nomatch h),.nil,fun j h=>absurd h (bE _)⟩
theorem getD_at {fs:List Fd}{t:Nat}{f:Fd}(h:fs[t]?=some f):fs.getD t (0,0,[])=f:=by rw[ao,h];rfl
theorem qE.oN {p:Int}(p0:0<p){w:Nat}{steps:List (List Int)}{i:Nat}{fs:List Fd}(h:qE p w steps i fs){step:List Int}(l:step.length=w):Iv p w (st steps) fs.length (nm fs) (cl fs) (fn step) fs.length (fn (oN p fs step)) :=
 Do p0 h.cor h.rok (aH _) (fun t f e=>⟨by unfold cl;rw[getD_at e],by unfold EF;rw[getD_at e]⟩) l
theorem qE.hm {p:Int}(p0:0<p){w:Nat}{steps:List (List Int)}{i:Nat}{fs:List Fd}(h:qE p w steps i fs)(l:step.length=w)(z:∀c,c<w->g (Rx.oN p fs step) c=0):Hm p w (st steps) fs.length (nm fs) (fn step):=by
 obtain⟨x,hx⟩:=(h.oN p0 l).eq;refine⟨x,fun c hc=>?_⟩;have a:=hx c hc;unfold fn at a;rw[ae,z c hc] at a;have:=d6.mpr a;unfold fn;rw[ae];rwa [show ∀x y:Int,-(0-(x-y))=x-y from fun x y=>by lia] at this
theorem Kv {steps:List (List Int)}{i:Nat}(e:steps[i]?=some step):st steps i=fn step:=by
 unfold st fn;funext c;rw[ao,e];rfl
theorem qE.none {p:Int}(p0:0<p){w:Nat}{steps:List (List Int)}{i:Nat}{fs:List Fd}(h:qE p w steps i fs)(e:steps[i]?=some step)(l:step.length=w)(z:∀c,c<w->g (Rx.oN p fs step) c=0):qE p w steps (i+1) fs:=by
 refine⟨h.cor,h.rok,fun f hf=>bF (h.lt f hf),h.srt,fun j hj=>?_⟩;rcases Nat.lt_succ_iff_lt_or_eq.mp hj with q | q
 .exact h.all j q
 .rw[q,Kv e];exact h.hm p0 l z
theorem qE.some {p:Int}(hp:Pt.mR p){w:Nat}{steps:List (List Int)}{i:Nat}{fs:List Fd}(h:qE p w steps i fs){step:List Int}(e:steps[i]?=some step)(l:step.length=w){c:Nat}(hc:c<w)(nz:g (Rx.oN p fs step) c≠0){u:Int}(hu:p∣g (Rx.oN p fs step) c*u-1) :
  qE p w steps (i+1) (fs++[(i,c,(Rx.oN p fs step).map fun x=>x*u%p)]):=by
 have p2:=hp.1;have p0:0<p:=J;have ok:=sR p0 l Z h.rok;obtain⟨f,hf⟩:∃f:Fd,f=(i,c,(Rx.oN p fs step).map fun x=>x*u%p):=⟨_,Z⟩;rw[<-hf];have NS:∀t,t<fs.length->(fs++[f]).getD t (0,0,[])=fs.getD t (0,0,[]):=fun t ht=>by rw[ao,ao,dj ht]
 have at2:(fs++[f]).getD fs.length (0,0,[])=f:=getD_at (by rw[c9 (aH _),iM];rfl);have cr:=h.cor.congr (num':=nm (fs++[f])) (col':=cl (fs++[f])) (row':=EF (fs++[f])) (fun t ht=>by unfold nm;rw[NS t ht]) (fun t ht=>by unfold cl;rw[NS t ht]) (fun t ht=>by unfold EF;rw[NS t ht]);have en:nm (fs++[f]) fs.length=i:=by unfold nm;rw[at2,hf]
 have ec:cl (fs++[f]) fs.length=c:=by unfold cl;rw[at2,hf]
 have er:EF (fs++[f]) fs.length=fn ((Rx.oN p fs step).map fun x=>x*u%p):=by unfold EF;rw[at2,hf]
 have M9:=Do p0 cr h.rok (aH _) (fun t f' e'=>by
  have tl:=(aF.mp e').1;refine⟨by unfold cl;rw[NS t tl,getD_at e'],by unfold EF;rw[NS t tl,getD_at e']⟩) l
 have fg:fn (Rx.oN p fs step) c=g (Rx.oN p fs step) c:=by unfold fn;rw[Int.toNat_natCast]
 have lt:=ok.2.g p0 c;have le:(fs++[f]).length=fs.length+1:=by rw[aJ];rfl
 have cor:=cr.snoc hp (left:=fn (Rx.oN p fs step)) (by rw[en,Kv e];exact M9) (by rw[ec];exact hc) (by
  rw[ec,fg];exact fun d=>by
   have:=aT (show 0<g (Rx.oN p fs step) c by lia) d;lia) (u:=u) (by rw[ec,fg];exact hu) (fun c' wT=>by
   rw[er];unfold fn;rw[ae,qP J];exact Lt.k5 _ _)
 refine⟨by rw[le];exact cor,fun f' Xk=>?_,fun f' Xk=>?_,?_,fun j hj=>?_⟩
 .rcases List.mem_append.mp Xk with q | q
  .exact h.rok f' q
  .rw[b3.mp q,hf];exact⟨by rw[aa,ok.1],In.mod p0 _ fun x=>x*u,hc⟩
 .rcases List.mem_append.mp Xk with q | q
  .exact bF (h.lt f' q)
  .rw[b3.mp q,hf];exact bJ i
 .rw[eY];refine⟨h.srt,gq ..,fun a ha b hb=>?_⟩;rw[b3.mp hb,hf];exact h.lt a ha
 .rw[le];rcases Nat.lt_succ_iff_lt_or_eq.mp hj with q | q
  .obtain⟨x,hx⟩:=h.all j q;refine⟨fun s=>if s=(fs.length:Int) then 0 else x s,fun c' wT=>?_⟩;have a:=hx c' wT;have b:(Ld.S (fs.length+1) fun s=>(if s=(fs.length:Int) then 0 else x s)*st steps (nm (fs++[f]) s.toNat) c')=Ld.S fs.length fun s=>x s*st steps (nm fs s.toNat) c':=by
    show (Ld.S fs.length fun s=>(if s=(fs.length:Int) then 0 else x s)*st steps (nm (fs++[f]) s.toNat) c')+(if (fs.length:Int)=fs.length then 0 else x fs.length)*st steps (nm (fs++[f]) (fs.length:Int).toNat) c'=_
    rw[aC Z,aY,df];refine Ld.jO fun s hs=>?_;rw[ak J,ae];have:nm (fs++[f]) s=nm fs s:=by unfold nm;rw[NS s hs]
    rw[this]
   rw[b];exact a
  .rw[q];refine⟨fun s=>if s=(fs.length:Int) then 1 else 0,fun c' wT=>?_⟩;have b:(Ld.S (fs.length+1) fun s=>(if s=(fs.length:Int) then 1 else 0)*st steps (nm (fs++[f]) s.toNat) c')=st steps i c':=by
    rw[Ld.jO (G:=fun s=>st steps (nm (fs++[f]) s.toNat) c'*if s=(fs.length:Int) then 1 else 0) fun s _=>aB ..,lX (F:=fun s=>st steps (nm (fs++[f]) s.toNat) c') (bJ _),ae,en]
   rw[b,cv];exact bi _
theorem qE.fr {p:Int}{w:Nat}{steps:List (List Int)}{n:Nat}{fs:List Fd}(h:qE p w steps n fs):Fr p w n (st steps) fs.length (nm fs) (cl fs):=by
 refine⟨h.cor.colw,fun t ht=>?_,h.cor.ind _ (aH _),h.all⟩;unfold nm;rw[getD_at (aA ht)];exact h.lt _ (cm ht)
variable {rows ls:List (List Int)}{i k:Nat}{m:Int}{M:Int->Int->Int}
def mt (rows:List (List Int)):Int->Int->Int:=fun i j=>g (rows.getD i.toNat []) j.toNat
theorem tq {row:List Int}(h:rows[i]?=some row):rows.getD i []=row:=by rw[ao,h];rfl
theorem uq (rows:List (List Int))(i j:Nat):mt rows i j=g (rows.getD i []) j:=by unfold mt;rw[Int.toNat_natCast,Int.toNat_natCast]
theorem ma (h:i<rows.length):rows[i]?=some (rows.getD i []):=by rw[ao,aA h];rfl
theorem lh (h:i<rows.length):rows.getD i []∈rows:=ah (ma h)
theorem C4 {row other:List Int}{many:Int}(l:row.length=other.length)(hi:i<row.length):m∣g (sY row many other m) i-(g row i-many*g other i):=by
 unfold sY
 by_cases c:many=0
 .rw[aC c,c,aY,c5,cv];exact bi _
 .rw[ak c,xR hi J];exact Lt.k5 _ _
def aug (k:Nat)(rows:List (List Int)):List (List Int):=rows.mapIdx fun i row=>row++tJ k i 1
def wl (k:Nat)(ls:List (List Int)):Int->Int->Int:=fun i j=>g (ls.getD i.toNat []) j.toNat
def wr (k:Nat)(ls:List (List Int)):Int->Int->Int:=fun i t=>g (ls.getD i.toNat []) (k+t.toNat)
def sQ (m:Int)(c:Nat)(v:Int)(ls:List (List Int)):List (List Int) :=
 (ls.map fun row=>sY row (g row c) ((ls.getD c []).map fun x=>x*v%m) m).set c ((ls.getD c []).map fun x=>x*v%m)
theorem Mz (lr:rows.length=k)(lw:∀row∈rows,row.length=k):Gj m k (mt rows) 0 (wl k (aug k rows)) (wr k (aug k rows)):=by
 have at_:∀i:Nat,i<k->(aug k rows).getD i []=rows.getD i []++tJ k i 1:=fun i hi=>by
  refine tq ?_;unfold aug;rw[List.getElem?_mapIdx,ma J];rfl
 have len:∀i:Nat,i<k->(rows.getD i []).length=k:=fun i hi=>lw _ (lh J);have A:∀i j:Nat,i<k->j<k->wl k (aug k rows) i j=mt rows i j:=fun i j hi hj=>by
  unfold wl;rw[Int.toNat_natCast,Int.toNat_natCast,at_ i hi,uq,rP (by rw[len i hi];exact hj)]
 have B:∀i t:Nat,i<k->wr k (aug k rows) i t=if t=i then 1 else 0:=fun i t hi=>by
  unfold wr;rw[Int.toNat_natCast,Int.toNat_natCast,at_ i hi,wR (len i hi),pf hi]
 have s:=Gj.start (m:=m) (k:=k) (M:=mt rows);refine⟨fun i j hi hj=>?_,fun i j _ hj=>absurd hj (bE _),fun i t hi ht _ ne=>?_,fun i hi _=>?_⟩
 .rw[A i j hi hj];have a:=s.rc i j hi hj;have e:(Ld.S k fun t=>wr k (aug k rows) i t*mt rows t j)=Ld.S k fun t=>(fun (i t:Int)=>if t=i then (1:Int) else 0) i t*mt rows t j:=Ld.jO fun t ht=>by
   rw[B i t hi]
   by_cases c:t=i
   .rw[aC c];dsimp only;rw[if_pos J]
   .rw[ak c];dsimp only;rw[if_neg J]
  rw[e];exact a
 .rw[B i t hi,ak ne];exact bi _
 .rw[B i i hi,aC Z,cv];exact bi _
theorem Jz {c:Nat}(ll:ls.length=k)(lw:∀row∈ls,row.length=k+k)(h:Gj m k M c (wl k ls) (wr k ls))(hc:c<k){v:Int}(hv:m∣g (ls.getD c []) c*v-1) :
  Gj m k M (c+1) (wl k (sQ m c v ls)) (wr k (sQ m c v ls)):=by
 have len:∀i:Nat,i<k->(ls.getD i []).length=k+k:=fun i hi=>lw _ (lh J);have own:(sQ m c v ls).getD c []=(ls.getD c []).map fun x=>x*v%m:=by
  refine tq ?_;unfold sQ;rw[fM zfM]
 have oth:∀i:Nat,i<k->i≠c->(sQ m c v ls).getD i []=sY (ls.getD i []) (g (ls.getD i []) c) ((ls.getD c []).map fun x=>x*v%m) m:=fun i hi ne=>by
  refine tq ?_;unfold sQ;rw[fU J,af,ma J];rfl
 have cg:∀j:Nat,j<k+k->g ((ls.getD c []).map fun x=>x*v%m) j=g (ls.getD c []) j*v%m:=fun j hj=>qP (by rw[len c hc];exact hj);have o1:∀j:Nat,j<k+k->m∣g ((sQ m c v ls).getD c []) j-g (ls.getD c []) j*v:=fun j hj=>by rw[own,cg j hj];exact Lt.k5 _ _
 have o2:∀i j:Nat,i<k->i≠c->j<k+k->m∣g ((sQ m c v ls).getD i []) j-(g (ls.getD i []) j-g (ls.getD i []) c*(g (ls.getD c []) j*v)):=fun i j hi ne hj=>by
  rw[oth i hi ne];have a:=C4 (m:=m) (many:=g (ls.getD i []) c) (row:=ls.getD i []) (other:=(ls.getD c []).map fun x=>x*v%m) (by rw[aa,len i hi,len c hc]) (i:=j) (by rw[len i hi];exact hj);rw[cg j hj] at a;have b:m∣g (ls.getD i []) c*(g (ls.getD c []) j*v%m-g (ls.getD c []) j*v):=ax (Lt.k5 _ _);have:=aZ a b;generalize g (ls.getD c []) j*v%m=y at *;rwa [show ∀a b d e:Int,a-(b-d*y)-d*(y-e)=a-(b-d*e) from fun a b d e=>by grind] at this
 refine h.step hc (v:=v) ?_ (fun j hj=>?_) (fun t ht=>?_) (fun i j hi ne hj=>?_) (fun i t hi ne ht=>?_)
 .unfold wl;rw[Int.toNat_natCast];exact hv
 .unfold wl;rw[Int.toNat_natCast,Int.toNat_natCast];exact o1 j J
 .unfold wr;rw[Int.toNat_natCast,Int.toNat_natCast];exact o1 (k+t) J
 .unfold wl;rw[Int.toNat_natCast,Int.toNat_natCast,Int.toNat_natCast];exact o2 i j hi ne J
 .unfold wr wl;rw[Int.toNat_natCast,Int.toNat_natCast,Int.toNat_natCast];exact o2 i (k+t) hi ne J
theorem FU {c:Nat}{v:Int}(ll:ls.length=k)(hc:c<k)(lw:∀row∈ls,row.length=k+k):(sQ m c v ls).length=k/\∀row∈sQ m c v ls,row.length=k+k:=by
 have lc:(ls.getD c []).length=k+k:=lw _ (lh J);refine⟨by unfold sQ;rw[List.length_set,List.length_map,ll],fun row hr=>?_⟩;unfold sQ at hr;rcases List.mem_or_eq_of_mem_set hr with q | q
 .obtain⟨r,Ix,rfl⟩:=List.mem_map.mp q;rw[yP (by rw[aa,lc,lw r Ix]),lw r Ix]
 .rw[q,aa,lc]
theorem JK (ll:ls.length=k)(h:Gj m k M k (wl k ls) (wr k ls)):LI m k (mt (ls.map fun row=>row.drop k)) M:=by
 have e:=h.end;intro i j hi hj;have a:=e i j hi hj;have b:(Ld.S k fun t=>mt (ls.map fun row=>row.drop k) i t*M t j)=Ld.S k fun t=>wr k ls i t*M t j:=Ld.jO fun t ht=>by
  rw[uq];unfold wr;rw[ae,ae,tq (row:=(ls.getD i []).drop k) (by rw[af,ma J];rfl),B8]
 rw[b];exact a
theorem JY {p:Int}(hp:Pt.mR p){x:Int}(nx:¬p∣x){E:Nat}{d:Int}(d1:1<=d)(dm:d∣p^E)(dx:d∣x):d=1:=by
 have c:=Pt.IH hp nx;have c2:Nat.Coprime (p.natAbs^E) x.natAbs:=iQ E c;have a:d.natAbs∣p.natAbs^E:=by rw[<-jz];exact aX.mpr dm
 have b:d.natAbs∣x.natAbs:=aX.mpr dx;have:=Nat.dvd_gcd a b;rw[c2] at this;have:=gk Nat.one_pos this;lia
end Rx
namespace Mx
variable {R:Int->Int->Int}
theorem yv {p:Int}(p2:2<=p){k:Nat}(ci:CI p k R){goal:Int->Int}{D b:Int}{y x:Int->Int}(b0:0<b)(hy:∀i:Nat,i<k->(Ld.S k fun t=>R i t*y t)=D*goal i)(hx:∀i:Nat,i<k->(Ld.S k fun t=>R i t*x t)=b*goal i)
 (one:∀d:Int,d∣b->(∀t:Nat,t<k->d∣x t)->d∣1):b∣D/\∀t:Nat,t<k->D*x t=b*y t:=by
  have e:∀t:Nat,t<k->D*x t=b*y t:=fun t ht=>by
    have:=ci.inj p2 (y:=fun t=>D*x t-b*y t) (fun i hi=>by
      have:(Ld.S k fun t=>R i t*(D*x t-b*y t))=D*(Ld.S k fun t=>R i t*x t) + -b*Ld.S k fun t=>R i t*y t:=by
        rw[<-Ld.kg,<-Ld.kg,<-Ld.mj];exact Ld.jO fun t _=>by grind
      rw[this,hx i hi,hy i hi];grind) t ht
    have z:D*x t-b*y t=0:=this;lia
  refine⟨?_,e⟩;obtain⟨G,hG⟩:∃G:Nat,G=Int.gcd b D:=⟨_,Z⟩;obtain⟨b',hb⟩:(G:Int)∣b:=by rw[hG];exact Int.gcd_dvd_left ..
  obtain⟨D',hD⟩:(G:Int)∣D:=by rw[hG];exact Int.gcd_dvd_right ..
  have G0:0<G:=by
    rcases Nat.eq_zero_or_pos G with z | z
    · rw[z] at hb;have:b=0:=by rw[hb];exact aY _
      lia
    · exact z
  have AR:Int.gcd b' D'=1:=by
    rw[hb,hD,g4,cx] at hG;have:G*1=G*Int.gcd b' D':=by rw[g7];exact hG
    exact(gf G0 this).symm
  have d1:b'∣1:=one b' ⟨G,by rw[hb,aB]⟩ fun t ht=>by
    have h:=e t ht;rw[hb,hD] at h;have h':D'*x t=b'*y t:=aS (show (G:Int)≠0 by lia) (by rw[<-aK,<-aK];exact h);have d:b'∣D'*x t:=⟨y t,h'⟩;have d':=aX.mpr d;rw[aM] at d';exact aX.mp (d9 AR d')
  obtain⟨z,hz⟩:=d1;refine⟨z*D',?_⟩;rw[hD,hb];have:(G:Int)*D'=G*(b'*z)*D':=by rw[<-hz,bV]
  rw[this];grind
theorem SK {p:Int}(hp:Pt.mR p){k C G:Nat}(hC:1<=C){goal:Int->Int}(ci:CI p k R)(hR:∀i t:Nat,i<k->t<k->(R i t).natAbs<=C)(hg:∀i:Nat,i<k->(goal i).natAbs<=G){D:Nat}(D1:1<=D)(al:∀v:Int->Int,La k R fun i=>D*v i) :
  ∃(x:Int->Int)(s:Int),0<s/\¬p∣s/\(∀i:Nat,i<k->(Ld.S k fun t=>R i t*x t)=s*goal i)/\s∣D/\(∀t:Nat,t<k->(x t).natAbs<=k*(D*(Sg.t7 k C*G)))/\∀d:Int,d∣s->(∀t:Nat,t<k->d∣x t)->d∣1:=by
 have p2:=hp.1;obtain⟨x,s,s0,ps,hx,_,_,one⟩:=yU hp (C:=C+G) J ci (fun i t hi ht=>Nat.le_trans (hR i t hi ht) J) (fun i hi=>Nat.le_trans (hg i hi) J)
 -- what Xl each place in
 have ex:∀j:Nat,∃X:Int->Int,j<k->(∀i:Nat,i<k->(Ld.S k fun t=>R i t*X t)=D*if i=j then 1 else 0)/\∀t:Nat,t<k->(X t).natAbs<=D*Sg.t7 k C:=fun j=>by
  by_cases hj:j<k
  .obtain⟨z,s',NR,_,hz,zb,_,Xm⟩:=yU hp hC (goal:=fun i=>if i=(j:Int) then 1 else 0) ci hR (fun i hi=>by
    show (if (i:Int)=j then (1:Int) else 0).natAbs<=C
    by_cases c:(i:Int)=j
    .rw[aC c];exact hC
    .rw[ak c];exact dH _)
   obtain⟨X,hX⟩:=al fun i=>if i=(j:Int) then 1 else 0;obtain⟨sd,e⟩:=yv p2 ci (goal:=fun i=>if i=(j:Int) then 1 else 0) NR hX hz Xm;refine⟨X,fun _=>⟨fun i hi=>?_,fun t ht=>?_⟩⟩
   .have:=hX i hi;dsimp only at this;rw[this]
    by_cases c:i=j
    .rw[aC c,aC J]
    .rw[ak c,ak J]
   .have n:=cU Int.natAbs (e t ht);rw[aM,aM,cx] at n;have a:=dO D (zb t ht);have b:=cS (X t).natAbs (show 1<=s'.natAbs by lia);lia
  .exact⟨fun _=>0,fun h=>absurd h hj⟩
 obtain⟨X,hX⟩:=Classical.axiomOfChoice ex;have hy:∀i:Nat,i<k->(Ld.S k fun t=>R i t*(fun t=>Ld.S k fun j=>X j.toNat t*goal j) t)=D*goal i:=fun i hi=>by
  have a:(Ld.S k fun t=>R i t*Ld.S k fun j=>X j.toNat t*goal j)=Ld.S k fun j=>Ld.S k fun t=>R i t*X j.toNat t*goal j:=by
   rw[Ld.mP];exact Ld.jO fun t _=>by rw[<-Ld.kg];exact Ld.jO fun j _=>by grind
  show (Ld.S k fun t=>R i t*Ld.S k fun j=>X j.toNat t*goal j)=D*goal i
  rw[a];have b:(Ld.S k fun j=>Ld.S k fun t=>R i t*X j.toNat t*goal j)=Ld.S k fun j=>D*goal j*if j=(i:Int) then 1 else 0:=Ld.jO fun j hj=>by
   rw[Ld.qo,ae,(hX j hj).1 i hi]
   by_cases c:i=j
   .rw[aC c,aC J];grind
   .rw[ak c,ak J];grind
  rw[b,lX (F:=fun j=>D*goal j) hi]
 obtain⟨sd,e⟩:=yv p2 ci s0 hy hx one;refine⟨x,s,s0,ps,hx,sd,fun t ht=>?_,one⟩;have n:=cU Int.natAbs (e t ht);rw[aM,aM,cx] at n;have yb:=Sg.xA (m:=k) (F:=fun j=>X j.toNat t*goal j) (B:=D*(Sg.t7 k C*G)) fun j hj=>by
  show (X (j:Int).toNat t*goal j).natAbs<=_
  rw[aM,ae,<-gn];exact cI ((hX j hj).2 t ht) (hg j hj)
 have sD:s.natAbs<=D:=gk D1 (by have:=aX.mpr sd;rwa [cx] at this);have a:=cI sD yb;rw[<-n] at a;exact ie a D1
end Mx
namespace Rx
open Lt (g)
open Mx
def cn (n m:Int):Int:=if 2*(n%m)<=m then n%m else n%m-m
inductive zV (sc H:Int):List Int->Int->Prop where
 | nil:zV sc H [] 1
 | snoc {l:List Int}{b x r0 r1 c0 c1:Int}:zV sc H l b->Eb.St sc (x*b%sc) r0 r1 c0 c1->H<=r0->r1<H->zV sc H (l++[x]) (b*c1.natAbs)
theorem zV.pos {sc H:Int}(HH:H<=sc){l:List Int}{b:Int}(h:zV sc H l b):0<b:=by
 induction h with
 | nil=>decide
 | @snoc l b x r0 r1 c0 c1 _ s _ lt ih =>
  have ne:=s.KQ J;exact g9 ih J
theorem zV.done {p:Int}(hp:Pt.mR p){E:Nat}{s:Int}(s0:0<s)(ps:¬p∣s){B H:Int}(sB:s<=B)(hH:4*B<=H)(HH:H*H<=p^E){x:Nat->Int}{l:List Int}{b:Int}(h:zV (p^E) H l b) :
  (∀t,t<l.length->p^E∣s*g l t-x t)->(∀t,t<l.length->((x t).natAbs:Int)<=B)->0<b/\b∣s/\∀t,t<l.length->s∣b*x t:=by
 induction h with
 | nil=>exact fun _ _=>⟨O,fW _,fun t ht=>absurd ht (bE _)⟩
 | @snoc l b y r0 r1 c0 c1 _ st h0 h1 ih =>
  intro hr hx;have len:(l++[y]).length=l.length+1:=by rw[aJ];rfl
  obtain⟨b0,bs,al⟩:=ih (fun t ht=>by have:=hr t J;rwa [rP ht] at this) (fun t ht=>hx t J);have e:g (l++[y]) l.length=y:=by have:=wR (a:=l) (b:=[y]) (n:=l.length) (i:=0) Z;rw[Nat.add_zero] at this;rw[this];rfl
  have hy:=hr l.length J;rw[e] at hy;obtain⟨RQ,d1,d2⟩:=T3 hp s0 ps b0 bs hy sB (hx l.length J) hH HH st h0 h1;refine⟨g9 b0 RQ,d1,fun t ht=>?_⟩;rcases Nat.lt_or_ge t l.length with q | q
  .have:=ax (b:=(c1.natAbs:Int)) (al t q);rwa [show (c1.natAbs:Int)*(b*x t)=b*c1.natAbs*x t by grind] at this
  .have:t=l.length:=J;rw[this];exact d2
theorem r6 {p q:Int}(hp:Pt.mR p)(hq:Pt.mR q):∀{E:Nat},q∣p^E->q=p
 | 0,h=>by
  rw[eI] at h;have:=aT O h;have:=hq.1;lia
 | E+1,h=>by
  rw[bq] at h
  by_cases c:q∣p^E
  .exact r6 hp hq c
  .have d:=nE hq h c;have a:=aT (by have:=hp.1;lia) d;rcases Int.lt_or_le q p with l | l
   .exact absurd d (hp.2 q hq.1 l)
   .lia
theorem zV.red {p:Int}(hp:Pt.mR p){E:Nat}{H Bt:Int}(HH:2*(H*H)<=p^E)(H0:1<=H)(BH:Bt<H){q:Int}(hq:Pt.mR q){l:List Int}{b:Int}(h:zV (p^E) H l b) :
  ∀e:Int,1<=e->b*e=Bt->¬q∣e->q∣b->(∀x∈l,q∣cn (x*Bt) (p^E))->(q=p->∀x∈l,p^E∣cn (x*Bt) (p^E)/p-Bt/p*x)->dZ:=by
 have RR:H<=H*H:=by have:=aq H0 (show 0<=H by lia);lia
 induction h with
 | nil =>
  intro e _ _ _ d _ _;have:=aT O d;have:=hq.1;lia
 | @snoc l b x r0 r1 c0 c1 fr s h0 h1 ih =>
  intro e e1 eb qe qb tp ex;have b0:=fr.pos J;have ne:=s.KQ J;have RQ:0<(c1.natAbs:Int):=J;have bc:1<=b*c1.natAbs:=g9 b0 RQ;have RS:=s.p1
  by_cases qc:q∣(c1.natAbs:Int)
  .have Xo:q∣c1:=gc.mp qc;have eB:e<=Bt:=by rw[<-eb];have:=aq bc (show 0<=e by lia);lia
   obtain⟨m0,m1,_,NK,det⟩:=s.m;obtain⟨τ,NT⟩:∃τ:Int,τ=if 0<=c1 then r1*e else -(r1*e):=⟨_,Z⟩;have small:r1*e<=(H-1)*(H-1):=cH J J J J;have sq:(H-1)*(H-1)=H*H-2*H+1:=by grind
   have re0:0<=r1*e:=bx RS J;have τa:((τ.natAbs:Nat):Int)=r1*e:=by rw[NT];split<;>omega
   have scp:0<p^E:=J;obtain⟨v,hv⟩:=Lt.k5 (x*b) (p^E);have con:p^E∣x*Bt-τ:=by
    rw[<-eb,NT]
    by_cases sg:0<=c1
    .rw[aC sg,show (c1.natAbs:Int)=c1 by lia];refine⟨e*(-(c1*v)-m1),?_⟩;have:x*b=x*b%p^E-p^E*v:=J;have z:x*(b*c1*e)=x*b*c1*e:=by grind
     rw[z,this,NK];grind
    .rw[ak sg,show (c1.natAbs:Int)=-c1 by lia];refine⟨e*(c1*v+m1),?_⟩;have:x*b=x*b%p^E-p^E*v:=J;have z:x*(b * -c1*e)=-(x*b*c1*e):=by grind
     rw[z,this,NK];grind
   have ce:cn (x*Bt) (p^E)=τ:=Hn scp con (by rw[τa];lia);have Y1:=tp x (bp _ av);rw[ce] at Y1;have qr:q∣r1:=by
    have:q∣e*r1:=by
     have a:q∣(τ.natAbs:Int):=gc.mpr Y1;rw[τa,aB] at a;exact a
    exact nE hq this qe
   have Y2:¬q∣m1:=fun d=>by
    have a:q∣m0*c1-m1*c0:=aZ (ax Xo) (aE d);have b:q∣1:=by
     rcases det with z | z
     .rwa [z] at a
     .rw[z] at a;exact d6.mp a
    have:=aT O b;have:=hq.1;lia
   have qsc:q∣p^E:=by
    have a:q∣r1-c1*(x*b%p^E):=aZ qr (aE Xo);rw[show r1-c1*(x*b%p^E)=m1*p^E by lia] at a;exact nE hq a Y2
   have qp:=r6 hp hq qsc;subst qp;have q0:q≠0:=by have:=hq.1;lia
   obtain⟨zY,Xp⟩:=Xo;obtain⟨DY,HX⟩:=qr;have fin:=ex Z x (bp _ av);rw[ce] at fin;have key:q^E∣e*(DY-zY*(x*b)):=by
    by_cases sg:0<=c1
    .rw[aC sg] at NT;have d1:τ/q=DY*e:=by rw[NT,HX,aK,aG _ q0]
     have d2:Bt/q=b*zY*e:=by
      rw[<-eb,show (c1.natAbs:Int)=c1 by lia,Xp,show b*(q*zY)*e=q*(b*zY*e) by grind,Int.mul_ediv_cancel_left _ q0]
     rw[d1,d2] at fin;rwa [show DY*e-b*zY*e*x=e*(DY-zY*(x*b)) by grind] at fin
    .rw[ak sg] at NT;have d1:τ/q=-(DY*e):=by rw[NT,HX,show -(q*DY*e)=q * -(DY*e) by grind,Int.mul_ediv_cancel_left _ q0]
     have d2:Bt/q=-(b*zY*e):=by
      rw[<-eb,show (c1.natAbs:Int)=-c1 by lia,Xp,show b * -(q*zY)*e=q * -(b*zY*e) by grind,Int.mul_ediv_cancel_left _ q0]
     rw[d1,d2] at fin;have:=d6.mpr fin;rwa [show -(-(DY*e) - -(b*zY*e)*x)=e*(DY-zY*(x*b)) by grind] at this
   have k2:=rY hp qe E key;have k3:q^E∣DY-zY*(x*b%q^E):=by
    have:=aZ k2 (ax (b:=zY) (Lt.k5 (x*b) (q^E)));rwa [show DY-zY*(x*b)-zY*(x*b%q^E-x*b)=DY-zY*(x*b%q^E) by grind] at this
   obtain⟨y,hy⟩:=k3;refine Y2 ⟨y,Int.eq_of_mul_eq_mul_right (show q^E≠0 by lia) ?_⟩;have a:r1-c1*(x*b%q^E)=m1*q^E:=J;rw[<-a,HX,Xp];have:q*DY-q*zY*(x*b%q^E)=q*(DY-zY*(x*b%q^E)):=by grind
   rw[this,hy];grind
  .have Xq:q∣b:=by
    rw[aB] at qb;exact nE hq qb qc
   refine ih (c1.natAbs*e) (g9 RQ J) (by rw[<-aK];exact eb) (fun d=>qe (nE hq d qc)) Xq (fun x hx=>tp x (cD _ hx)) (fun z x hx=>ex z x (cD _ hx))
theorem zV.AR {p:Int}(hp:Pt.mR p){E:Nat}{H:Int}(HH:2*(H*H)<=p^E)(H0:1<=H){k:Nat}{R:Int->Int->Int}(ci:CI p k R){l:List Int}(ll:l.length=k){b:Int}(h:zV (p^E) H l b)(bH:b<H){goal left:Int->Int}
  (lf:∀i:Nat,i<k->(Ld.S k fun t=>R i t*fn l t)+p^E*left i=goal i)(sol:∀i:Nat,i<k->(Ld.S k fun t=>R i t*cn (fn l t*b) (p^E))=b*goal i) :
  ∀d:Int,d∣b->(∀t:Nat,t<k->d∣cn (fn l t*b) (p^E))->d∣1:=fun d db dt=>by
 have RR:H<=H*H:=by have:=aq H0 (show 0<=H by lia);lia
 have b0:=h.pos J;have d0:d≠0:=fun z=>by rw[z] at db;have:=ga.mp db;lia
 by_cases c:d.natAbs=1
 .exact aX.mp (by rw[c];exact iL 1)
 .exfalso;obtain⟨q,hq,qd'⟩:=Pt.Ab (n:=(d.natAbs:Int)) J;have qd:q∣d:=gc.mp qd';have tops:∀x∈l,∃t:Nat,t<k/\fn l t=x:=fun x hx=>by
   obtain⟨t,ht,e⟩:=sw hx;exact⟨t,J,by unfold fn;rw[Int.toNat_natCast];exact e⟩
  refine h.red hp HH H0 bH hq 1 O (bV b) (fun z=>?_) (bB qd db) (fun x hx=>?_) (fun e=>?_)
  .have:=aT O z;have:=hq.1;lia
  .obtain⟨t,ht,e⟩:=tops x hx;rw[<-e];exact bB qd (dt t ht)
  .subst e;have q0:q≠0:=by have:=hq.1;lia
   obtain⟨b',hb⟩:=Int.dvd_trans qd db;have al:=ci.pow (by have:=hq.1;lia) E (y:=fun t=>cn (fn l t*b) (q^E)/q-b'*fn l t) fun i hi=>by
    have e1:q*(Ld.S k fun t=>R i t*(cn (fn l t*b) (q^E)/q-b'*fn l t))=(Ld.S k fun t=>R i t*cn (fn l t*b) (q^E)) + -b*Ld.S k fun t=>R i t*fn l t:=by
     rw[<-Ld.kg,<-Ld.kg,<-Ld.mj];refine Ld.jO fun t ht=>?_;have z:=cR (bB qd (dt t ht));generalize cn (fn l t*b) (q^E)/q=y at *;rw[<-z,hb];grind
    rw[sol i hi] at e1;have e2:=lf i hi;refine⟨b'*left i,aS q0 ?_⟩;show q*(Ld.S k fun t=>R i t*(cn (fn l t*b) (q^E)/q-b'*fn l t))=_
    rw[e1,<-e2,hb];grind
   intro x hx;obtain⟨t,ht,e⟩:=tops x hx;have:=al t ht;rw[<-e,show b/q=b' by rw[hb,aG _ q0]];exact this
variable {rows:List (List Int)}
structure Sc (p:Int)(k:Nat)(R:Int->Int->Int)(goal:Int->Int)(D B:Nat):Prop where
 hp:Pt.mR p
 ci:CI p k R
 ex:∃(x:Int->Int)(s:Int),0<s/\¬p∣s/\(∀i:Nat,i<k->(Ld.S k fun t=>R i t*x t)=s*goal i)/\s<=B/\(∀t:Nat,t<k->((x t).natAbs:Int)<=B)/\∀d:Int,d∣s->(∀t:Nat,t<k->d∣x t)->d∣1
 al:∀v:Int->Int,La k R fun i=>D*v i
theorem Ll {a b:Int}(a0:0<=a)(b0:0<=b)(h:a*a<b*b):a<b:=by
 rcases Int.lt_or_le a b with c | c
 .exact c
 .have:=cH c c b0 a0;lia
section
variable {p:Int}{k D B e:Nat}{R:Int->Int->Int}{goal left:Int->Int}{rests:List Int}{H b:Int}
theorem Sc.great (HH:p^e<8*(H*H))(H0:1<=H)(gr:128*((B:Int)*B)<=p^e):4*(B:Int)<=H:=by
 have:(4*(B:Int))*(4*B)<H*H:=by
  rw[show (4*(B:Int))*(4*B)=16*(B*B) by grind];lia
 have:=Ll J J this;lia
theorem Sc.none (S:Sc p k R goal D B)(lif:yC k R goal (p^e) (fn rests) left)(ll:rests.length=k){l1 l2:List Int}(pre:rests=l1++l2)(fr:zV (p^e) H l1 b)(Hb:H<=b)(H0:1<=H)(HH:2*(H*H)<=p^e)(H8:p^e<8*(H*H)):p^e<128*((B:Int)*B):=by
 refine jm fun gr=>?_;have p2:=S.hp.1;obtain⟨x,s,s0,ps,hx,sB,xB,_⟩:=S.ex;have big:=Sc.great H8 H0 gr;have le:l1.length<=k:=by rw[<-ll,pre,aJ];lia
 obtain⟨b0,bs,_⟩:=fr.done S.hp s0 ps sB big (by have:=Int.mul_nonneg (show 0<=H by lia) (show 0<=H by lia);lia) (x:=fun t=>x t) (fun t ht=>by
  have:=lif.rest J S.ci hx t J;unfold fn at this;rw[ae,pre,rP ht] at this;exact this) (fun t ht=>xB t J)
 have:=aT s0 bs;lia
theorem Sc.not (S:Sc p k R goal D B)(lif:yC k R goal (p^e) (fn rests) left)(ll:rests.length=k)(fr:zV (p^e) H rests b)(H0:1<=H)(HH:2*(H*H)<=p^e)(H8:p^e<8*(H*H))(no:¬∀i:Nat,i<k->(Ld.S k fun t=>R i t*cn (fn rests t*b) (p^e))=b*goal i):p^e<128*((B:Int)*B):=by
 refine jm fun gr=>no ?_;have p2:=S.hp.1;obtain⟨x,s,s0,ps,hx,sB,xB,one⟩:=S.ex;have big:=Sc.great H8 H0 gr;have rs:∀t:Nat,t<k->p^e∣s*fn rests t-x t:=fun t ht=>lif.rest J S.ci hx t ht;obtain⟨b0,bs,al⟩:=fr.done S.hp s0 ps sB big (by have:=Int.mul_nonneg (show 0<=H by lia) (show 0<=H by lia);lia) (x:=fun t=>x t) (fun t ht=>by
  have:=rs t J;unfold fn at this;rwa [ae] at this) (fun t ht=>xB t J)
 have eb:=Hw s0 b0 bs (fun t ht=>al t J) one;have HB:(B:Int)*B >= B:=by
  have:(1:Int)<=B:=J;have:=aq this (show (0:Int)<=B by lia);lia
 intro i hi;rw[eb,<-hx i hi];refine Ld.jO fun t ht=>?_;have c:=Hn (n:=fn rests t*s) (m:=p^e) (x:=x t) J (by rw[aB];exact rs t ht) (by have:=xB t ht;lia);show R i t*cn (fn rests t*s) (p^e)=R i t*x t
 unfold cn;rw[c]
theorem Sc.bot (S:Sc p k R goal D B)(lif:yC k R goal (p^e) (fn rests) left)(ll:rests.length=k)(fr:zV (p^e) H rests b)(bH:b<H)(H0:1<=H)(HH:2*(H*H)<=p^e)(sol:∀i:Nat,i<k->(Ld.S k fun t=>R i t*cn (fn rests t*b) (p^e))=b*goal i):b∣D:=by
 obtain⟨y,hy⟩:=S.al goal;have RR:H<=H*H:=by have:=aq H0 (show 0<=H by lia);lia
 exact(yv S.hp.1 S.ci (fr.pos J) hy sol (fr.AR S.hp HH H0 S.ci ll bH lif.eq sol)).1
end
theorem Bn {k i:Nat}{x:List Int}(lr:rows.length=k)(lw:∀row∈rows,row.length=k)(hi:i<k)(lx:x.length=k):dot (rows.getD i []) x=Ld.S k fun t=>mt rows i t*fn x t:=by
 rw[n5 (lw _ (lh J)) lx];refine Ld.jO fun t _=>?_;unfold mt fn;rw[ae,ae]
theorem JU {k:Nat}{R:Int->Int->Int}{goal left r:Int->Int}{sc:Int}{C G:Nat}(s1:1<=sc)(lif:yC k R goal sc r left)(hR:∀i t:Nat,i<k->t<k->(R i t).natAbs<=C)(hg:∀i:Nat,i<k->(goal i).natAbs<=G)(i:Nat)(hi:i<k):(left i).natAbs<=G+k*C:=by
 have e:=lif.eq i hi;have b:=Mx.xA (F:=fun t=>R i t*r t) (B:=C*sc) (k:=k) fun t ht=>by
  have a:=hR i t hi ht;have c:=lif.rg t ht;rw[aM,aO];exact cH J J J J
 have n:sc*(left i).natAbs<=G+k*(C*sc):=by
  have g1:=hg i hi;have:sc*(left i).natAbs=((sc*left i).natAbs:Int):=by rw[aM,aO];congr 1;lia
  rw[this,show sc*left i=goal i-Ld.S k fun t=>R i t*r t by lia];lia
 have q:sc*(left i).natAbs<=sc*(G+k*C:Nat):=by
  have g2:=aq s1 (show (0:Int)<=G by lia);rw[hZ,aO,eZ];have:sc*((k:Int)*C)=k*(C*sc):=by grind
  lia
 have:=Int.le_of_mul_le_mul_left q J;lia
theorem HC {m:Int}(hm:1<=m){k:Nat}{us:List (List Int)}{goal:Int->Int}{sc:Int}(hs:1<=sc){rests left:List Int}(lr:rows.length=k)(lw:∀row∈rows,row.length=k)(lu:us.length=k)(lv:∀row∈us,row.length=k)(l1:rests.length=k)(l2:left.length=k)
 (ri:RI m k (mt rows) (mt us))(h:yC k (mt rows) goal sc (fn rests) (fn left)){more:List Int}(em:more=us.map fun u=>dot u left%m) :
    yC k (mt rows) goal (sc*m) (fn (List.zipWith (fun r y=>r+sc*y) rests more)) (fn (List.zipWith (fun row x=>(x-dot row more)/m) rows left)):=by
  have lm:more.length=k:=by rw[em,aa,lu]
  have mg:∀t:Nat,t<k->fn more t=(Ld.S k fun j=>mt us t j*fn left j)%m:=fun t ht=>by
    rw[<-Bn lu lv ht l2];unfold fn;rw[ae];exact lJ (by rw[em,af,ma J];rfl)
  have st:=h.step hm ri hs (more:=fn more) (nU:=fn (List.zipWith (fun row x=>(x-dot row more)/m) rows left)) mg fun i hi=>by
    rw[<-Bn lr lw hi lm];unfold fn;rw[ae];exact lJ (by rw[bY,ma J,lL J])
  refine⟨fun i hi=>?_,fun t ht=>?_⟩
  · rw[<-st.eq i hi]
    congr 1;refine Ld.jO fun t ht=>?_;congr 1;unfold fn;rw[ae,xR J J]
  · have a:=st.rg t ht
    unfold fn at a ⊢;rw[ae] at a ⊢;rw[xR J J];exact a
variable {k n:Nat}{M M':Int->Int->Int}{rows:List (List Int)}
def kf (fs:List Fd):List Nat:=fs.map fun f=>f.2.1
def numsOf (fs:List Fd):List Nat:=fs.map fun f=>f.1
def rowsOf (steps:List (List Int))(fs:List Fd):List (List Int):=fs.map fun f=>(kf fs).map fun c=>g (steps.getD f.1 []) c
theorem uY.vI {p:Int}(h:uY p k M)(e:∀s t:Nat,s<k->t<k->M s t=M' s t):uY p k M':=fun y hy=>h y fun t ht=>by
 have:=hy t ht;rwa [Ld.jO (G:=fun s=>y s*M s t) fun s hs=>by rw[e s t hs ht]] at this
theorem La.vI {v:Int->Int}(h:La k M v)(e:∀s t:Nat,s<k->t<k->M s t=M' s t):La k M' v:=by
 obtain⟨x,hx⟩:=h;exact⟨x,fun i hi=>by rw[<-hx i hi];exact Ld.jO fun t ht=>by rw[e i t hi ht]⟩
theorem CI.vI {p:Int}(h:CI p k M)(e:∀s t:Nat,s<k->t<k->M s t=M' s t):CI p k M':=fun y hy=>h y fun i hi=>by
 have:=hy i hi;rwa [Ld.jO (G:=fun t=>M i t*y t) fun t ht=>by rw[e i t hi ht]] at this
theorem mh {steps:List (List Int)}{fs:List Fd}:(rowsOf steps fs).length=fs.length/\∀row∈rowsOf steps fs,row.length=fs.length:=by
 refine⟨by unfold rowsOf;rw[List.length_map],fun row h=>?_⟩;unfold rowsOf at h;obtain⟨f,_,rfl⟩:=List.mem_map.mp h;rw[aa];unfold kf;rw[List.length_map]
theorem tN {steps:List (List Int)}{fs:List Fd}{i j:Nat}(hi:i<fs.length)(hj:j<fs.length):mt (rowsOf steps fs) i j=st steps (nm fs i) (cl fs j):=by
 rw[uq];have e:(rowsOf steps fs)[i]?=some ((kf fs).map fun c=>g (steps.getD (fs.getD i (0,0,[])).1 []) c):=by
  unfold rowsOf;rw[af,aA hi,getD_at (aA hi)];rfl
 rw[tq e];unfold st nm cl;rw[ae];refine lJ ?_;unfold kf;rw[af,af,aA hj,getD_at (aA hj)];rfl
theorem zP (lr:rows.length=k):(xf k rows).length=k/\∀row∈xf k rows,row.length=k:=by
 refine⟨by unfold xf;rw[List.length_map,List.length_range],fun row h=>?_⟩;unfold xf at h;obtain⟨c,_,rfl⟩:=List.mem_map.mp h;rw[aa,lr]
theorem uG (lr:rows.length=k){i j:Nat}(hi:i<k)(hj:j<k):mt (xf k rows) i j=mt rows j i:=by
 rw[uq,uq];have e:(xf k rows)[i]?=some (rows.map fun row=>g row i):=by
  unfold xf;rw[af,dh hi];rfl
 rw[tq e];exact lJ (by rw[af,ma J];rfl)
structure xp (p:Int)(w:Nat)(steps:List (List Int))(fs:List Fd)(us:List (List Int))(D C:Nat):Prop where
 hp:Pt.mR p
 crn:qE p w steps steps.length fs
 ul:us.length=fs.length
 uw:∀u∈us,u.length=fs.length
 li:LI (p^16) fs.length (mt us) (mt (rowsOf steps fs))
 C1:1<=C
 bd:∀(j c:Nat),j<steps.length->c<w->(st steps j c).natAbs<=C
 D1:1<=D
 Db:D<=(2*(fs.length*C)+1)^fs.length
 al1:∀v:Int->Int,La fs.length (mt (xf fs.length (rowsOf steps fs))) fun i=>D*v i
 al2:∀v:Int->Int,La fs.length (mt (rowsOf steps fs)) fun i=>D*v i
theorem qE.ind {p:Int}{w:Nat}{steps:List (List Int)}{n:Nat}{fs:List Fd}(h:qE p w steps n fs)(c:Nat)(hc:c<=fs.length):uY p c (mt (rowsOf steps fs)) :=
 uY.vI (h.cor.ind c hc) fun s t hs ht=>by rw[tN J J,ae,ae]
theorem qE.se {p:Int}{w:Nat}{steps:List (List Int)}{n:Nat}{fs:List Fd}(h:qE p w steps n fs){t:Nat}(ht:t<fs.length):nm fs t<n:=h.fr.se t ht
theorem yF {p:Int}{w:Nat}{steps:List (List Int)}{fs:List Fd}{C:Nat}(h:qE p w steps steps.length fs)(bd:∀(j c:Nat),j<steps.length->c<w->(st steps j c).natAbs<=C)(i t:Nat)(hi:i<fs.length)(ht:t<fs.length):(mt (rowsOf steps fs) i t).natAbs<=C:=by
 rw[tN hi ht];exact bd _ _ (h.se hi) (h.cor.colw t ht)
theorem xp.mk' {p:Int}(hp:Pt.mR p){w:Nat}{steps:List (List Int)}{fs:List Fd}{us:List (List Int)}{C:Nat}(crn:qE p w steps steps.length fs)(ul:us.length=fs.length)(uw:∀u∈us,u.length=fs.length)(li:LI (p^16) fs.length (mt us) (mt (rowsOf steps fs)))(C1:1<=C)
 (bd:∀(j c:Nat),j<steps.length->c<w->(st steps j c).natAbs<=C):∃D,xp p w steps fs us D C:=by
  obtain⟨D,D1,Db,a1,a2⟩:=both hp C1 (crn.ind _ (Nat.le_refl _)) (yF crn bd);exact⟨D,hp,crn,ul,uw,li,C1,bd,D1,Db,fun v=>La.vI (a1 v) fun s t hs ht=>(uG mh.1 hs ht).symm,a2⟩
section
variable {goal:Int->Int}
variable {p:Int}{w:Nat}{steps:List (List Int)}{fs:List Fd}{us:List (List Int)}{D C G B:Nat}
theorem xp.ci1 (F:xp p w steps fs us D C):CI p fs.length (mt (xf fs.length (rowsOf steps fs))):=CI.vI (F.crn.ind _ (aH _)).ci fun s t hs ht=>(uG mh.1 hs ht).symm
theorem U0 (p:Int):p∣p^16:=⟨p^15,by rw[<-Int.pow_succ']⟩
theorem xp.YC (F:xp p w steps fs us D C):CI p fs.length (mt (rowsOf steps fs)):=F.li.ci (U0 p)
theorem xp.ri1 (F:xp p w steps fs us D C):RI (p^16) fs.length (mt (xf fs.length (rowsOf steps fs))) (mt (xf fs.length us)):=fun i j hi hj=>by
 have a:=F.li j i hj hi;have e:(Ld.S fs.length fun t=>mt (xf fs.length (rowsOf steps fs)) i t*mt (xf fs.length us) t j)=Ld.S fs.length fun t=>mt us j t*mt (rowsOf steps fs) t i:=Ld.jO fun t ht=>by
  rw[uG mh.1 hi ht,uG F.ul ht hj,aB]
 rw[e]
 by_cases c:i=j
 .rw[aC c];rwa [aC c.symm] at a
 .rw[ak c];rwa [ak (fun z=>c z.symm)] at a
theorem xp.ri2 (F:xp p w steps fs us D C):RI (p^16) fs.length (mt (rowsOf steps fs)) (mt us):=F.li.right (by have:=F.hp.1;lia) (F.crn.ind _ (aH _))
theorem KN {p:Int}(hp:Pt.mR p){k:Nat}{R:Int->Int->Int}(ci:CI p k R)(C1:1<=C)(hR:∀i t:Nat,i<k->t<k->(R i t).natAbs<=C)(hg:∀i:Nat,i<k->(goal i).natAbs<=G)(D1:1<=D)(al:∀v:Int->Int,La k R fun i=>D*v i)(DB:D<=B)(big:k*(D*(Sg.t7 k C*G))<=B):Sc p k R goal D B:=by
 obtain⟨x,s,s0,ps,hx,sd,xb,one⟩:=SK hp C1 ci hR hg D1 al;refine⟨hp,ci,⟨x,s,s0,ps,hx,?_,fun t ht=>?_,one⟩,al⟩
 .have:=aT J sd;lia
 .have:=xb t ht;lia
theorem xp.sc1 (F:xp p w steps fs us D C)(hg:∀i:Nat,i<fs.length->(goal i).natAbs<=G)(DB:D<=B)(big:fs.length*(D*(Sg.t7 fs.length C*G))<=B):Sc p fs.length (mt (xf fs.length (rowsOf steps fs))) goal D B :=
 KN F.hp F.ci1 F.C1 (fun i t hi ht=>by rw[uG mh.1 hi ht];exact yF F.crn F.bd t i ht hi) hg F.D1 F.al1 DB big
theorem xp.sc2 (F:xp p w steps fs us D C)(hg:∀i:Nat,i<fs.length->(goal i).natAbs<=G)(DB:D<=B)(big:fs.length*(D*(Sg.t7 fs.length C*G))<=B):Sc p fs.length (mt (rowsOf steps fs)) goal D B :=
 KN F.hp F.YC F.C1 (yF F.crn F.bd) hg F.D1 F.al2 DB big
end
theorem qE.DS {p:Int}(hp:Pt.mR p){w:Nat}{steps:List (List Int)}{fs:List Fd}(h:qE p w steps n fs):(kf fs).Nodup:=by
 unfold kf;refine cV.mpr fun i j hi hj lt e=>?_;rw[aa] at hi hj;rw[jo,jo] at e;have ci:cl fs i=fs[i].2.1:=by unfold cl;rw[getD_at (List.getElem?_eq_getElem hi)]
 have cj:cl fs j=fs[j].2.1:=by unfold cl;rw[getD_at (List.getElem?_eq_getElem hj)]
 have z:=h.cor.zero i j lt hj;have o:=h.cor.one j hj;rw[ci,e,<-cj] at z;have:=aZ z o;rw[show ∀a:Int,a-(a-1)=1 from fun a=>by lia] at this;have:=aT O this;have:=hp.1;lia
theorem qE.Dm {p:Int}{w:Nat}{steps:List (List Int)}{fs:List Fd}(h:qE p w steps n fs):(numsOf fs).Nodup:=by
 unfold numsOf;exact List.Pairwise.map _ (fun a b (e:a.1<b.1)=>cF e) h.srt
theorem zw {fs:List Fd}{t:Nat}(ht:t<fs.length):(kf fs)[t]?=some (cl fs t):=by
 unfold kf cl;rw[af,aA ht,ao,aA ht];rfl
theorem DP {fs:List Fd}{t:Nat}(ht:t<fs.length):(numsOf fs)[t]?=some (nm fs t):=by
 unfold numsOf nm;rw[af,aA ht,ao,aA ht];rfl
theorem nQ {p:Int}{w:Nat}{steps:List (List Int)}{fs:List Fd}(h:qE p w steps n fs):∀c∈kf fs,c<w:=fun c hc=>by
 unfold kf at hc;obtain⟨f,hf,rfl⟩:=List.mem_map.mp hc;exact(h.rok f hf).2.2
theorem vm {p:Int}{w:Nat}{steps:List (List Int)}{fs:List Fd}(h:qE p w steps n fs):∀c∈numsOf fs,c<n:=fun c hc=>by
 unfold numsOf at hc;obtain⟨f,hf,rfl⟩:=List.mem_map.mp hc;exact h.lt f hf
variable {row:Nat->Int->Int}
open Lt
def si (rows:List (List Int)):Nat->Int->Int:=fun j i=>g (rows.getD j []) i.toNat
theorem Rec.vI {m:Int}{k r:Nat}{G G':Int->Int}{v:List Int}(h:Rec m k r row G v)(e:∀i:Nat,i<k->m∣G i-G' i):Rec m k r row G' v:=fun i hi=>by
 have:=bQ (h i hi) (e i hi);rwa [show ∀a b c d:Int,a-(b+c)+(b-d)=a-(d+c) from fun a b c d=>by lia] at this
theorem Ent.rec {m:Int}{K k r:Nat}(hK:k+r<=K):∀{c:Nat}{ls:List (List Int)}{left:List Int}{ls':List (List Int)},Ent m c ls left ls'->(∀l∈ls,l.length=K)->left.length=K->(∀l∈ls,Rec m k r row (fun _=>0) l)->Rec m k r row (fun _=>0) left->∀l∈ls',Rec m k r row (fun _=>0) l:=by
 intro c ls left ls' h
 induction h with
 | nil=>intro _ _ _ _ l hl;cases hl
 | @skip c l left ls ls' z _ ih =>
  intro ll lf rl rf x hx;rcases List.mem_cons.mp hx with e | e
  .rw[e];exact rl l av
  .exact ih (fun y hy=>ll y (ar _ hy)) lf (fun y hy=>rl y (ar _ hy)) rf x e
 | @mix c l left ls ls' α β G nz G1 d1 d2 e _ ih =>
  intro ll lf rl rf x hx;have l1:=ll l av;have r1:=rl l av;rcases List.mem_cons.mp hx with e' | e'
  .rw[e'];exact Rec.vI (Rec.mix l1 lf r1 rf α β) fun i _=>by rw[bu,bu];exact bi _
  .refine ih (fun y hy=>ll y (ar _ hy)) (tj lf l1 ..) (fun y hy=>rl y (ar _ hy)) ?_ x e';exact Rec.vI (Rec.mix lf l1 rf r1 _ _) fun i _=>by rw[bu,bu];exact bi _
def Up (m:Int)(l:List Int):Prop:=∀x∈l,0<=x/\x<=m
theorem LW {m:Int}(m0:0<m)(one:List Int)(a:Int)(other:List Int)(b:Int):In m (mix one a other b m):=In.zip m0 one other fun x y=>x*a+y*b
theorem In.up {m:Int}{l:List Int}(h:In m l):Up m l:=fun x hx=>⟨(h x hx).1,gU (h x hx).2⟩
theorem Ent.up {m:Int}(m0:0<m):∀{c:Nat}{ls:List (List Int)}{left:List Int}{ls':List (List Int)},Ent m c ls left ls'->(∀l∈ls,Up m l)->∀l∈ls',Up m l:=by
 intro c ls left ls' h
 induction h with
 | nil=>intro _ l hl;cases hl
 | @skip c l left ls ls' z _ ih =>
  intro ll x hx;rcases List.mem_cons.mp hx with e | e
  .rw[e];exact ll l av
  .exact ih (fun y hy=>ll y (ar _ hy)) x e
 | @mix c l left ls ls' α β G nz G1 d1 d2 e _ ih =>
  intro ll x hx;rcases List.mem_cons.mp hx with e' | e'
  .rw[e'];exact In.up (LW m0 l α left β)
  .exact ih (fun y hy=>ll y (ar _ hy)) x e'
structure Jo (m:Int)(k r:Nat)(rows:List (List Int))(j:Nat)(ls:List (List Int)):Prop where
 Cs:Bu m (k+r) 0 ls
 len:ls.length=k
 how:Jk m k 0 ls
 kill:∀a:Int->Int,Ei m k a ls->∀i,i<j->m∣dt k (rows.getD i []) a
 rc:∀l∈ls,Rec m k r (si rows) (fun _=>0) l
 up:∀l∈ls,Up m l
def Ks (m:Int)(k r:Nat):List (List Int):=(List.range k).map fun c=>tJ (k+r) c m
theorem Hy {m:Int}{K:Nat}:∀{c:Nat}{ls:List (List Int)},(∀(i:Nat)(l:List Int),ls[i]?=some l->l.length=K/\(∀j,j<c+i->g l j=0)/\1<=g l (c+i)/\g l (c+i)∣m)->Bu m K c ls
 | _,[],_=>trivial
 | c,l::ls,h=>⟨h 0 l Z,Hy (c:=c+1) fun i x e=>by
   have:=h (i+1) x (by rw[dJ];exact e);rwa [show c+(i+1)=c+1+i by lia] at this⟩
theorem GC {m:Int}{k:Nat}:∀{c:Nat}{ls:List (List Int)},(∀(i:Nat)(l:List Int),ls[i]?=some l->∀a:Int->Int,m∣m/g l (c+i)*dt k l a)->Jk m k c ls
 | _,[],_=>trivial
 | c,l::ls,h=>⟨fun a _=>h 0 l Z a,GC (c:=c+1) fun i x e=>by
   have:=h (i+1) x (by rw[dJ];exact e);rwa [show c+(i+1)=c+1+i by lia] at this⟩
theorem Jo.start {m:Int}(m1:1<=m)(k r:Nat)(rows:List (List Int)):Jo m k r rows 0 (Ks m k r):=by
 have at_:∀(i:Nat)(l:List Int),(Ks m k r)[i]?=some l->i<k/\l=tJ (k+r) i m:=fun i l h=>by
  unfold Ks at h;rw[af] at h;rcases Nat.lt_or_ge i k with c | c
  .rw[dh c] at h;exact⟨c,(bI h).symm⟩
  .rw[cA (by rw[gi];exact c)] at h;cases h
 have mem:∀l∈Ks m k r,∃i,i<k/\l=tJ (k+r) i m:=fun l hl=>by
  obtain⟨i,hi⟩:=List.getElem?_of_mem hl;exact⟨i,at_ i l hi⟩
 refine⟨Hy fun i l h=>?_,by unfold Ks;rw[List.length_map,List.length_range],GC fun i l h a=>?_,fun _ _ i hi=>absurd hi (Nat.not_lt_zero _),fun l hl i hi=>?_,fun l hl x hx=>?_⟩
 .obtain⟨ik,rfl⟩:=at_ i l h;refine⟨oz ..,fun j hj=>by rw[pf J,ak J],?_,?_⟩
  .rw[pf J,aC J];exact m1
  .rw[pf J,aC J];exact cT _
 .obtain⟨ik,rfl⟩:=at_ i l h;rw[pf J,aC J,Int.ediv_self J,cQ];unfold dt;refine Mx.uP fun t _=>?_;rw[ae,pf J];split
  .exact cY ..
  .rw[aY];exact bi _
 .obtain⟨c,hc,rfl⟩:=mem l hl;rw[pf J];have z:(Ld.S r fun j=>g (tJ (k+r) c m) (k+j.toNat)*si rows j.toNat i)=0:=by
   rw[Ld.jO (G:=fun _=>0) fun j _=>by rw[pf J,ak J,aY],Ld.mQ]
  rw[z,df,c5];split
  .exact cT _
  .exact bi _
 .obtain⟨c,hc,rfl⟩:=mem l hl;obtain⟨j,hj,rfl⟩:=sw hx;rw[pf J];split<;>lia
theorem Jo.enter {m:Int}(m1:1<=m){k r:Nat}{rows:List (List Int)}(lr:rows.length=r)(lw:∀row∈rows,row.length=k){j:Nat}(hj:j<r){ls ls':List (List Int)}(h:Jo m k r rows j ls)(e:Ent m 0 ls ((rows.getD j []++tJ r j 1).map fun x=>x%m) ls'):Jo m k r rows (j+1) ls':=by
 have lj:(rows.getD j []).length=k:=lw _ (lh J);obtain⟨left,hl⟩:∃left:List Int,left=(rows.getD j []++tJ r j 1).map fun x=>x%m:=⟨_,Z⟩;rw[<-hl] at e;have ll:left.length=k+r:=by rw[hl,aa,aJ,lj,oz]
 have la:(rows.getD j []++tJ r j 1).length=k+r:=by rw[aJ,lj,oz]
 have gl:∀i,i<k+r->g left i=g (rows.getD j []++tJ r j 1) i%m:=fun i hi=>by rw[hl];exact qP (by rw[la];exact hi)
 have lf:Lf m (k+r) 0 left:=⟨ll,fun i hi=>absurd hi (bE _),fun i=>by
  have:In m left:=by rw[hl];exact In.mod J _ fun x=>x
  exact this.g J i⟩
 have t:=e.Cs m1 h.Cs lf;have Xr:∀l∈ls,l.length=k+r:=fun l hl=>by
  obtain⟨i,hi⟩:=List.getElem?_of_mem hl;exact(h.Cs.at hi).1
 refine⟨t.1,by rw[t.2,h.len],e.how m1 h.Cs lf (by rw[h.len,dR]) h.how,fun a ka i hi=>?_,Ent.rec (aH _) e Xr ll h.rc ?_,Ent.up J e h.up⟩
 .have kk:=e.kill m1 a h.Cs lf (by rw[h.len,dR]) ka;rcases Nat.lt_succ_iff_lt_or_eq.mp hi with q | q
  .exact h.kill a kk.1 i q
  .rw[q];refine(nS ?_).mp kk.2;unfold dt;refine m8 fun t ht=>?_;rw[ae,gl t J,rP J,<-cN];exact aE (k5 _ _)
 .intro i hi;have a:m∣g left i-si rows j i:=by
   unfold si;rw[ae,gl i J,rP J];exact k5 _ _
  have b:m∣(Ld.S r fun j'=>g left (k+j'.toNat)*si rows j'.toNat i)-Ld.S r fun j'=>si rows j'.toNat i*if j'=(j:Int) then 1 else 0:=m8 fun t ht=>by
   rw[ae,gl (k+t) J,wR lj,pf hj]
   by_cases c:t=j
   .rw[aC c,aC J];have:=aE (c:=si rows t i) (k5 1 m);rw[cN,cQ] at this;rwa [bV]
   .rw[ak c,ak J,d8,aY,bu];exact bi _
  rw[Mx.lX (F:=fun j'=>si rows j'.toNat i) hj,ae] at b;have:=aZ a b;rwa [show ∀x y z:Int,x-y-(z-y)=x-(0+z) from fun x y z=>by lia] at this
structure Gl (m:Int)(k r:Nat)(rows:List (List Int))(goal:List Int)(ls:List (List Int))(c:Nat)(left:List Int):Prop where
 len:left.length=k+r
 zero:∀i,i<c->g left i=0
 rc:Rec m k r (si rows) (fn goal) left
 dd:∀a:Int->Int,Ei m k a ls->m∣dt k left a-dt k goal a
theorem Gl.start {m:Int}{k r:Nat}{rows:List (List Int)}{goal:List Int}(lg:goal.length=k)(ls:List (List Int)):Gl m k r rows goal ls 0 (goal++List.replicate r 0):=by
 refine⟨by rw[aJ,lg,aR],fun i hi=>absurd hi (bE _),fun i hi=>?_,fun a _=>?_⟩
 .have z:(Ld.S r fun j=>g (goal++List.replicate r 0) (k+j.toNat)*si rows j.toNat i)=0:=by
   rw[Ld.jO (G:=fun _=>0) fun j hj=>by rw[ae,wR lg,AD hj,aY],Ld.mQ]
  rw[z];unfold fn;rw[ae,rP J,df,cv];exact bi _
 .have:dt k (goal++List.replicate r 0) a=dt k goal a:=Ld.jO fun i hi=>by rw[ae,rP J]
  rw[this,cv];exact bi _
theorem Gl.step {m:Int}(m1:1<=m){k r:Nat}{rows:List (List Int)}{goal:List Int}{j:Nat}{ls:List (List Int)}(zfL:Jo m k r rows j ls){c:Nat}{left:List Int}(h:Gl m k r rows goal ls c left){l:List Int}(hl:ls[c]?=some l)(dv:g l c∣g left c):Gl m k r rows goal ls (c+1) (sY left (g left c/g l c) l m):=by
 have t:=zfL.Cs.at hl;rw[dR] at t;have ck:c<k:=by rw[<-zfL.len];exact(aF.mp hl).1
 have el:left.length=l.length:=by rw[h.len,t.1]
 have gd:∀i,i<k+r->m∣g (sY left (g left c/g l c) l m) i-(g left i-g left c/g l c*g l i):=fun i hi=>C4 el (by rw[h.len];exact hi);have ex:g left c/g l c*g l c=g left c:=f7 dv;refine⟨by rw[yP el,h.len],fun i hi=>?_,fun i hi=>?_,fun a ka=>?_⟩
 .have zz:g left i-g left c/g l c*g l i=0:=by
   rcases Nat.lt_succ_iff_lt_or_eq.mp hi with q | q
   .rw[h.zero i q,t.2.1 i J,bu];rfl
   .rw[q,ex,cv]
  unfold sY
  by_cases z:g left c/g l c=0
  .rw[aC z];rw[z,aY,c5] at zz;exact zz
  .rw[ak z,xR (by rw[h.len];lia) (by rw[t.1];lia),zz,d8]
 .have r1:=h.rc i hi;have r2:=zfL.rc l (ah hl) i hi;obtain⟨q,hq⟩:∃q,q=g left c/g l c:=⟨_,Z⟩;rw[<-hq] at gd ⊢;have s1:m∣(Ld.S r fun j=>g (sY left q l m) (k+j.toNat)*si rows j.toNat i)-Ld.S r fun j=>(g left (k+j.toNat)-q*g l (k+j.toNat))*si rows j.toNat i:=m8 fun t ht=>by
   rw[ae,<-cN];exact aE (gd (k+t) J)
  have s2:(Ld.S r fun j=>(g left (k+j.toNat)-q*g l (k+j.toNat))*si rows j.toNat i)=(Ld.S r fun j=>g left (k+j.toNat)*si rows j.toNat i) + -q*Ld.S r fun j=>g l (k+j.toNat)*si rows j.toNat i:=by
   rw[<-Ld.kg,<-Ld.mj];exact Ld.jO fun j _=>by grind
  rw[s2] at s1;have a:=gd i J;have b:=ax (b:=q) r2;have:=aZ (aZ (bQ a r1) b) s1;generalize (Ld.S r fun j=>g (sY left q l m) (k+j.toNat)*si rows j.toNat i)=X at *;generalize (Ld.S r fun j=>g left (k+j.toNat)*si rows j.toNat i)=Y at *;generalize (Ld.S r fun j=>g l (k+j.toNat)*si rows j.toNat i)=zfI at *;rwa [show g (sY left q l m) i-(g left i-q*g l i)+(g left i-(fn goal i+Y))-q*(g l i-(0+zfI))-(X-(Y + -q*zfI))=g (sY left q l m) i-(fn goal i+X) by grind] at this
 .obtain⟨q,hq⟩:∃q,q=g left c/g l c:=⟨_,Z⟩;rw[<-hq] at gd ⊢;have s1:m∣dt k (sY left q l m) a-(dt k left a-q*dt k l a):=by
   have e:dt k left a-q*dt k l a=Ld.S k fun i=>(g left i.toNat-q*g l i.toNat)*a i:=by
    have:(Ld.S k fun i=>(g left i.toNat-q*g l i.toNat)*a i)=dt k left a + -q*dt k l a:=by
     unfold Lt.dt;rw[<-Ld.kg,<-Ld.mj];exact Ld.jO fun i _=>by grind
    rw[this];grind
   rw[e];unfold Lt.dt;refine m8 fun i hi=>?_;rw[ae,<-cN];exact aE (gd i J)
  have b:=ax (b:=q) (ka l (ah hl));have:=aZ (bQ s1 (h.dd a ka)) b;rwa [show ∀x y z u:Int,x-(y-z)+(y-u)-z=x-u from fun x y z u=>by lia] at this
theorem Gl.end {m:Int}(m1:1<=m){k r:Nat}{rows:List (List Int)}{goal:List Int}{ls:List (List Int)}{left:List Int}(h:Gl m k r rows goal ls k left){tk:Nat->Int}(ht:∀j,j<r->m∣tk j+g left (k+j))(i:Nat)(hi:i<k):m∣g goal i-Ld.S r fun j=>tk j.toNat*si rows j.toNat i:=by
 have a:=h.rc i hi;rw[h.zero i hi] at a;have b:m∣(Ld.S r fun j=>tk j.toNat*si rows j.toNat i)-Ld.S r fun j=>-(g left (k+j.toNat))*si rows j.toNat i:=m8 fun j hj=>by
  rw[ae,<-cN,Int.sub_neg];exact aE (ht j hj)
 have c:(Ld.S r fun j=>-(g left (k+j.toNat))*si rows j.toNat i)=-1*Ld.S r fun j=>g left (k+j.toNat)*si rows j.toNat i:=by
  rw[<-Ld.kg];exact Ld.jO fun j _=>by grind
 rw[c] at b;have d:=d6.mpr a;have:=aZ d b;unfold fn at this;rw[ae] at this;rwa [show ∀x y z:Int,-(0-(x+y))-(z - -1*y)=x-z from fun x y z=>by lia] at this
theorem EK.vI {m:Int}{k col:Nat}{ls:List (List Int)}{j:Nat}{a a':Int->Int}(h:EK m k col ls j a)(e:∀i:Nat,a i=a' i):EK m k col ls j a':=by
 refine⟨fun i hi=>by rw[<-e];exact h.lo i hi,fun i hi=>by rw[<-e];exact h.hi i hi,fun l hl=>by rw[<-e];exact h.at_ l hl,fun i l hi hl=>?_⟩;have:=h.kl i l hi hl;rwa [show dt k l a=dt k l a' from Ld.jO fun t _=>by rw[e]] at this
theorem vj {F:Int->Int}:∀(a b:Nat),Ld.S (a+b) F=Ld.S a F+Ld.S b fun i=>F (a+i)
 | a,0=>by show Ld.S a F=Ld.S a F+0;lia
 | a,b+1=>by
  show Ld.S (a+b) F+F ((a+b:Nat):Int)=Ld.S a F+((Ld.S b fun i=>F (a+i))+F (a+b))
  rw[vj a b,hZ];lia
theorem IP {l am:List Int}{k lo hi:Nat}(ll:k<=l.length)(la:am.length=k)(h1:lo<=hi)(h2:hi<=k)(z1:∀i,i<lo->g am i=0)(z2:∀i,hi<=i->g am i=0) :
  dot ((l.take hi).drop lo) ((am.take hi).drop lo)=dt k l (fn am):=by
 have gt:∀(x:List Int)(i:Nat),i<hi-lo->g ((x.take hi).drop lo) i=g x (lo+i):=fun x i hx=>by
  rw[B8];unfold g;rw[ao,ao,ip J]
 rw[n5 (n:=hi-lo) (by rw[cC,cJ];lia) (by rw[cC,cJ];lia)];have e1:dt k l (fn am)=Ld.S hi fun i=>g l i.toNat*fn am i:=by
  unfold dt;exact Mx.Fu h2 fun t ht _=>by unfold fn;rw[Int.toNat_natCast,z2 t ht,Int.mul_zero]
 rw[e1,show hi=lo+(hi-lo) by lia,vj lo (hi-lo)];have e2:(Ld.S lo fun i=>g l i.toNat*fn am i)=0:=by
  rw[Ld.jO (G:=fun _=>0) fun i M7=>by unfold fn;rw[Int.toNat_natCast,z1 i M7,Int.mul_zero],Ld.mQ]
 rw[e2,dD,show lo+(hi-lo)=hi by lia];refine Ld.jO fun i M7=>?_;unfold fn;rw[ae,gt l i M7,gt am i M7,show ((lo:Int)+(i:Int)).toNat=lo+i by lia]
theorem Mw {a b G:Int}(a1:1<=a)(b1:1<=b)(hG:G=(Int.gcd a b:Nat)):1<=G/\G<=a/\1<=a/G*b/\a∣a/G*b/\b∣a/G*b/\∀D:Int,a∣D->b∣D->a/G*b∣D:=by
 have g0:0<Int.gcd a b:=Int.gcd_pos_of_ne_zero_left _ J;have G1:1<=G:=J;obtain⟨a',ha⟩:G∣a:=by rw[hG];exact Int.gcd_dvd_left ..
 obtain⟨b',hb⟩:G∣b:=by rw[hG];exact Int.gcd_dvd_right ..
 have AR:Int.gcd a' b'=1:=by
  have h:Int.gcd a b=Int.gcd a b*Int.gcd a' b':=by
   have:=g4 G a' b';rw[<-ha,<-hb,hG,cx] at this;exact this
  have:Int.gcd a b*1=Int.gcd a b*Int.gcd a' b':=by rw[g7];exact h
  exact(gf g0 this).symm
 have G0:G≠0:=J;have e:a/G=a':=by rw[ha,aG _ G0]
 have Y3:1<=a':=by
  rcases Int.lt_or_le 0 a' with c | c
  .exact c
  .have:=ay c (show 0<=G by lia);lia
 refine⟨G1,?_,?_,?_,?_,fun D dA dB=>?_⟩
 .have:=ay Y3 (show 0<=G by lia);lia
 .rw[e];have:=aq Y3 (show 0<=b by lia);lia
 .rw[e];exact⟨b',by rw[ha,hb];grind⟩
 .rw[e];exact⟨a',aB ..⟩
 .rw[e];obtain⟨x,hx⟩:=dA;obtain⟨y,hy⟩:=dB;have h1:a'*x=b'*y:=aS G0 (by rw[<-aK,<-aK,<-ha,<-hb,<-hx,<-hy]);have d:b'∣a'*x:=⟨y,h1⟩;have d':=aX.mpr d;rw[aM] at d';have d2:b'∣x:=aX.mp (d9 (by rw[Nat.coprime_comm];exact AR) d');obtain⟨z,hz⟩:=d2;exact⟨z,by rw[hx,hz,ha,hb];grind⟩
theorem UE {one other r0 c0 c1:Int}(h:Eb.St one other r0 0 c0 c1)(o1:1<=one):(r0-c0*other)/one*one+c0*other=r0:=by
 obtain⟨m0,m1,e0,e1,d⟩:=h.m;have:r0-c0*other=m0*one:=J;rw[this,gP _ J];lia
variable {k:Nat}{U:Nat->Nat->Int}{M:Int}
theorem Ds {p:Int}(hp:Pt.mR p){w n:Nat}{steps:List (List Int)}{fs:List Fd}(h:qE p w steps n fs){v x:List Int}(lv:v.length=w)(lx:x.length=fs.length):dot v (uk w (kf fs) x)=Ld.S fs.length fun t=>fn v (cl fs t.toNat)*fn x t:=by
 rw[n5 lv (nX ..)];have:=Ky (n:=w) (F:=fn v) (ps:=kf fs) (xs:=x) (k:=fs.length) (by unfold kf;rw[List.length_map]) lx (h.DS hp) (nQ h);unfold fn at this ⊢;rw[this];refine Ld.jO fun t ht=>?_;have e:(kf fs).getD (t:Int).toNat 0=cl fs (t:Int).toNat:=by
  rw[ae,ao,zw ht];rfl
 rw[e]
theorem LA {x am T v:Int->Int}{s:Int}(hs:∀i:Nat,i<k->(Ld.S k fun t=>U i t.toNat*x t)=s*am i)(hT:∀t:Nat,t<k->(Ld.S k fun i=>U i.toNat t*T i)=M*v t) :
  M*(Ld.S k fun t=>v t*x t)=s*Ld.S k fun i=>T i*am i:=by
 rw[<-Ld.kg,<-Ld.kg];have e1:(Ld.S k fun t=>M*(v t*x t))=Ld.S k fun t=>Ld.S k fun i=>U i.toNat t.toNat*T i*x t:=Ld.jO fun t ht=>by
  rw[Ld.qo,ae,hT t ht];grind
 rw[e1,Ld.mP];refine Ld.jO fun i hi=>?_;have:(Ld.S k fun t=>U (i:Int).toNat t.toNat*T i*x t)=T i*Ld.S k fun t=>U i t.toNat*x t:=by
  rw[<-Ld.kg];refine Ld.jO fun t _=>?_;rw[ae];grind
 rw[this,hs i hi];grind
theorem JN {s A B:Int}(s1:1<=s)(M1:1<=M)(e:M*A=s*B):s∣A↔M∣B:=by
 constructor
 .rintro⟨y,hy⟩;refine⟨y,aS (show s≠0 by lia) ?_⟩;rw[<-e,hy];grind
 .rintro⟨y,hy⟩;refine⟨y,aS (show M≠0 by lia) ?_⟩;rw[e,hy];grind
theorem Js {s:Int}{v W:List Int}{w:Nat}(lv:v.length=w)(lW:W.length=w):s∣dot v (W.map fun x=>x%s)-dot v W:=by
 rw[n5 lv (by rw[aa,lW]),n5 lv lW];refine m8 fun i hi=>?_;rw[ae,qP J,<-cM];exact ax (k5 _ _)
def wh (tops:List Int)(q:Int):List Int:=tops.map fun x=>x*q
theorem zG (tops:List Int)(q:Int):(wh tops q).length=tops.length:=by unfold wh;rw[List.length_map]
theorem DM {tops:List Int}{b v:Int}{t:Nat}(lt:tops.length=k)(b1:1<=b)(bM:b∣M)(h:(Ld.S k fun i=>U i.toNat t*fn tops i)=b*v):(Ld.S k fun i=>U i.toNat t*fn (wh tops (M/b)) i)=M*v:=by
 have e:(Ld.S k fun i=>U i.toNat t*fn (wh tops (M/b)) i)=M/b*Ld.S k fun i=>U i.toNat t*fn tops i:=by
  rw[<-Ld.kg];refine Ld.jO fun i hi=>?_;unfold fn wh;rw[ae,qP J];grind
 rw[e,h,<-aK,f7 bM]
theorem Ms {r:Nat}{gv:Int}{t:Nat}{goalw:Int->Int}{R:Nat->Int->Int}{sv:Nat->Int}{tk sp:Int->Int}(M1:1<=M)(hg:(Ld.S k fun i=>U i.toNat t*goalw i)=M*gv)(hR:∀j:Nat,j<r->(Ld.S k fun i=>U i.toNat t*R j i)=M*sv j)
 (hsp:∀i:Nat,i<k->M*sp i=goalw i-Ld.S r fun j=>tk j*R j.toNat i):(Ld.S r fun j=>tk j*sv j.toNat)+(Ld.S k fun i=>sp i*U i.toNat t)=gv:=by
  refine aS (show M≠0 by lia) ?_;rw[eZ,<-hg,<-Ld.kg,<-Ld.kg];have e1:(Ld.S k fun i=>M*(sp i*U i.toNat t))=(Ld.S k fun i=>U i.toNat t*goalw i) + -1*Ld.S k fun i=>Ld.S r fun j=>tk j*(U i.toNat t*R j.toNat i):=by
    rw[<-Ld.kg,<-Ld.mj];refine Ld.jO fun i hi=>?_;have a:=hsp i hi;have b:(Ld.S r fun j=>tk j*(U (i:Int).toNat t*R j.toNat i))=U (i:Int).toNat t*Ld.S r fun j=>tk j*R j.toNat i:=by
      rw[<-Ld.kg];exact Ld.jO fun j _=>by grind
    rw[b,show M*(sp i*U (i:Int).toNat t)=M*sp i*U (i:Int).toNat t by grind,a];grind
  have e2:(Ld.S k fun i=>Ld.S r fun j=>tk j*(U i.toNat t*R j.toNat i))=Ld.S r fun j=>M*(tk j*sv j.toNat):=by
    rw[Ld.mP];refine Ld.jO fun j hj=>?_;rw[Ld.kg,ae,hR j hj];grind
  rw[e1,e2];lia
theorem Pd {n r:Nat}{F:Int->Int}{os cs:List Nat}{tk sp:List Int}(lo:os.length=r)(lc:cs.length=k)(lt:tk.length=r)(ls:sp.length=k)(nd:(os++cs).Nodup)(hl:∀p∈os++cs,p<n) :
  (Ld.S n fun j=>F j*g (uk n (os++cs) (tk++sp)) j.toNat)=(Ld.S r fun j=>F (os.getD j.toNat 0)*g tk j.toNat)+Ld.S k fun i=>F (cs.getD i.toNat 0)*g sp i.toNat:=by
 rw[Ky (k:=r+k) (by rw[aJ,lo,lc]) (by rw[aJ,lt,ls]) nd hl,vj r k];congr 1
 .refine Ld.jO fun j hj=>?_;rw[ae,rP J,ao,ao,dj J]
 .refine Ld.jO fun i hi=>?_;rw[show ((r:Int)+(i:Int)).toNat=r+i by lia,wR lt,ae,ao,ao,c9 J,show r+i-os.length=i by lia]
theorem Af:∀(l:List Int)(ps:List Nat)(xs:List Int)(x:Int),x∈sE l ps xs->x∈l\/x∈xs
 | l,[],_,x,h=>by rw[sE] at h;exact .inl h
 | l,_::_,[],x,h=>.inl h
 | l,p::ps,y::xs,x,h=>by
  rcases Af (l.set p y) ps xs x h with c | c
  .rcases List.mem_or_eq_of_mem_set c with d | d
   .exact .inl d
   .exact .inr (d▸av)
  .exact .inr (ar _ c)
theorem C7 {n:Nat}{ps:List Nat}{xs:List Int}{x:Int}(h:x∈uk n ps xs):x=0\/x∈xs:=by
 rcases Af _ _ _ _ h with c | c
 .exact .inl (eL.mp c).2
 .exact .inr c
theorem Lr (n m:Int):m∣cn n m-n:=by
 have a:=k5 n m;unfold cn;split
 .exact a
 .have:=aZ a (cT m);rwa [show n%m-n-m=n%m-m-n by lia] at this
theorem Px {n m:Int}(m0:0<m):(cn n m).natAbs<=m.natAbs:=by
 have a:=aD n (show m≠0 by lia);have b:=az n m0;unfold cn;split<;>lia
theorem sum_cons {r:Nat}{gw:List Int}{rows:List (List Int)}{tk:List Int}(lt:tk.length=r){c:Nat}:(Ld.S (r+1) fun j=>g (1::tk.map fun x=>-x) j.toNat*g ((gw::rows).getD j.toNat []) c)=g gw c-Ld.S r fun j=>fn tk j*si rows j.toNat c:=by
 rw[Nat.add_comm,vj 1 r];have e0:(Ld.S 1 fun j=>g (1::tk.map fun x=>-x) j.toNat*g ((gw::rows).getD j.toNat []) c)=g gw c:=by
  show 0+g (1::tk.map fun x=>-x) ((0:Nat):Int).toNat*g ((gw::rows).getD ((0:Nat):Int).toNat []) c=_
  rw[ae];show 0+1*g gw c=_
  lia
 rw[e0];have e1:(Ld.S r fun i=>g (1::tk.map fun x=>-x) (((1:Nat):Int)+i).toNat*g ((gw::rows).getD (((1:Nat):Int)+i).toNat []) c)=-1*Ld.S r fun j=>fn tk j*si rows j.toNat c:=by
  rw[<-Ld.kg];refine Ld.jO fun j hj=>?_;rw[show (((1:Nat):Int)+(j:Int)).toNat=j+1 by lia];have a:g (1::tk.map fun x=>-x) (j+1)=-(g tk j):=by
   refine lJ ?_;rw[dJ,af,lL J];rfl
  have b:(gw::rows).getD (j+1) []=rows.getD j []:=by rw[ao,dJ,<-ao]
  rw[a,b];unfold fn si;rw[ae,ae];grind
 rw[e1];lia
structure Ip (steps:List (List Int))(fs:List Fd)(D N:Nat)(v:Int->Int)(tops:List Int)(b:Int):Prop where
 len:tops.length=fs.length
 b1:1<=b
 bD:b∣(D:Int)
 bN:b<2^N
 bd:∀x∈tops,x.natAbs<2^N
 eq:∀i:Nat,i<fs.length->(Ld.S fs.length fun t=>st steps (nm fs t.toNat) (cl fs i)*fn tops t)=b*v (cl fs i)
variable {p:Int}{w:Nat}{steps:List (List Int)}{fs:List Fd}{goal W:List Int}
theorem Hz {l:List Nat}{n:Nat}(nd:l.Nodup)(h:∀x∈l,x<n):l.length<=n:=by
 refine fi fun lt=>?_;obtain⟨i,j,ij,jl,e⟩:=Pg.vK (fun i=>l.getD i 0%(n+1)%(n+1)) (M:=n) (N:=l.length) lt (fun i hi=>by
  rw[ao,aA hi];have:=h _ (cm hi);show (l[i]%(n+1))%(n+1)<n
  rw[iT,g5 J];exact this)
 have il:i<l.length:=J;have a:=h _ (cm il);have b:=h _ (cm jl);rw[ao,aA il,ao,aA jl] at e;have e':l[i]%(n+1)%(n+1)=l[j]%(n+1)%(n+1):=e;rw[iT,iT,g5 J,g5 J] at e';exact cV.mp nd i j il jl ij e'
theorem Hg.sum {w:Nat}{stp:Nat->Int->Int}{k:Nat}{num:Nat->Nat}{a:Nat->Int}{v:Nat->Int->Int}:∀{n:Nat},(∀j,j<n->Hg w stp k num (v j))->Hg w stp k num fun c=>Ld.S n fun j=>a j.toNat*v j.toNat c
 | 0,_=>Hg.zero
 | n+1,h=>by
  have:=Hg.add (Hg.sum (a:=a) (n:=n) fun j hj=>h j (bF hj)) (h n (bJ n)) 1 (a n);have e:(fun c=>Ld.S (n+1) fun j=>a j.toNat*v j.toNat c)=fun c=>1*(Ld.S n fun j=>a j.toNat*v j.toNat c)+a n*v n c:=by
   funext c;show (Ld.S n fun j=>a j.toNat*v j.toNat c)+a (n:Int).toNat*v (n:Int).toNat c=_
   rw[ae,cQ]
  rw[e];exact this
def Iq (steps:List (List Int))(goal W:List Int)(s:Int):Prop:=(∀j,j<steps.length->s∣dot (steps.getD j []) W)/\¬s∣dot goal W
def Jh (w:Nat)(steps:List (List Int))(goal kS:List Int):Prop:=∀c:Nat,c<w->(Ld.S steps.length fun j=>g kS j.toNat*g (steps.getD j.toNat []) c)=g goal c
theorem Es (hp:Pt.mR p)(h:qE p w steps steps.length fs){kS:List Int}(gd:Good p w steps.length (st steps) (fn goal))(hm:Hm p w (st steps) fs.length (nm fs) (fn goal))
 (eq:∀i:Nat,i<fs.length->(Ld.S steps.length fun j=>st steps j.toNat (cl fs i)*g kS j.toNat)=g goal (cl fs i)):Jh w steps goal kS:=by
  obtain⟨g1,g2⟩:=gd _ _ _ h.fr;have hs:=Hg.sum (a:=fun j=>g kS j) (n:=steps.length) g1;have hd:=Hg.add hs (g2 hm) 1 (-1);have z:=Hg.all hp h.cor hd fun t ht=>by
    have e:=eq t ht;have a:(Ld.S steps.length fun j=>g kS j.toNat*st steps j.toNat (cl fs t))=Ld.S steps.length fun j=>st steps j.toNat (cl fs t)*g kS j.toNat:=Ld.jO fun j _=>aB ..;rw[a,e];unfold fn;rw[ae];lia
  intro c hc;have:=z c hc;unfold fn st at this;rw[ae] at this;lia
theorem ER (h:qE p w steps steps.length fs)(lw:∀y∈steps,y.length=w)(lW:W.length=w)(gd:Good p w steps.length (st steps) (fn goal))(z:∀i,i<fs.length->dot (steps.getD (nm fs i) []) W=0)(j:Nat)(hj:j<steps.length):dot (steps.getD j []) W=0:=by
 obtain⟨g1,_⟩:=gd _ _ _ h.fr;have key:∀i,i<steps.length->dot (steps.getD i []) W=Ld.S w fun c=>st steps i c*fn W c:=fun i hi=>by
  rw[n5 (lw _ (lh hi)) lW];rfl
 rw[key j hj];exact Hg.weigh (g1 j hj) fun i hi=>by rw[<-key _ (h.se hi)];exact z i hi
theorem GO (hp:Pt.mR p)(h:qE p w steps steps.length fs)(lw:∀y∈steps,y.length=w)(lg:goal.length=w)(lW:W.length=w)(z:∀i,i<fs.length->dot (steps.getD (nm fs i) []) W=0){c:Nat}(hc:c<w)(nz:g (oN p fs goal) c≠0)(own:∀c',c'<w->c'≠c->(∃t,t<fs.length/\cl fs t=c')\/g W c'=0)(pW:¬p∣g W c):dot goal W≠0:=by
 have p2:=hp.1;have M9:=h.oN J lg;obtain⟨x,hx⟩:=M9.eq;have ok:=sR (show 0<p by lia) lg Z h.rok;intro e
 -- by p: goal Na what is left of it Na
 have d1:p∣(Ld.S w fun c=>fn (oN p fs goal) c*fn W c)-dot goal W:=by
  rw[n5 lg lW];have a:p∣(Ld.S w fun c=>fn (oN p fs goal) c*fn W c)-Ld.S w fun c=>(fn goal c-Ld.S fs.length fun s=>x s*st steps (nm fs s.toNat) c)*fn W c:=m8 fun c hc=>by
   rw[<-cN];exact aE (hx c hc)
  have b:(Ld.S w fun c=>(fn goal c-Ld.S fs.length fun s=>x s*st steps (nm fs s.toNat) c)*fn W c)=Ld.S w fun i=>g goal i.toNat*g W i.toNat:=by
   have b1:(Ld.S w fun c=>(fn goal c-Ld.S fs.length fun s=>x s*st steps (nm fs s.toNat) c)*fn W c)=(Ld.S w fun c=>fn goal c*fn W c) + -1*Ld.S w fun c=>Ld.S fs.length fun s=>x s*(st steps (nm fs s.toNat) c*fn W c):=by
    rw[<-Ld.kg,<-Ld.mj];refine Ld.jO fun c _=>?_;have:(Ld.S fs.length fun s=>x s*(st steps (nm fs s.toNat) c*fn W c))=(Ld.S fs.length fun s=>x s*st steps (nm fs s.toNat) c)*fn W c:=by
     rw[<-Ld.qo];exact Ld.jO fun s _=>by grind
    rw[this];grind
   have b2:(Ld.S w fun c=>Ld.S fs.length fun s=>x s*(st steps (nm fs s.toNat) c*fn W c))=0:=by
    rw[Ld.mP,Ld.jO (G:=fun _=>0) fun s hs=>?_,Ld.mQ];rw[Ld.kg,ae];have:=z s hs;rw[n5 (lw _ (lh (h.se hs))) lW] at this;have e2:(Ld.S w fun c=>st steps (nm fs s) c*fn W c)=0:=this;rw[e2,bu]
   rw[b1,b2];unfold fn;lia
  rwa [b] at a
 rw[e,c5] at d1;have d2:p∣g (oN p fs goal) c*g W c:=by
  have a:p∣(Ld.S w fun c'=>fn (oN p fs goal) c'*fn W c')-Ld.S w fun c'=>fn (oN p fs goal) c'*fn W c'*if c'=(c:Int) then 1 else 0:=m8 fun c' wT=>by
   by_cases q:c'=c
   .rw[aC J,bV,cv];exact bi _
   .rw[ak J,bu,c5];rcases own c' wT q with ⟨t,ht,et⟩ | y
    .have:=M9.zero t ht;rw[et] at this;exact aE this
    .unfold fn;rw[ae,y,bu];exact bi _
  rw[lX (F:=fun c'=>fn (oN p fs goal) c'*fn W c') hc] at a;have:=(nS a).mp d1;unfold fn at this;rwa [ae] at this
 have r:=ok.2.g (show 0<p by lia) c;exact pW (nE hp d2 fun d3=>by
  have:=aT (show 0<g (oN p fs goal) c by lia) d3;lia)
theorem An {p:Int}(hp:Pt.mR p):∀(n:Nat){b:Int},1<=b->b.toNat<=n->∃(j:Nat)(b':Int),b=p^j*b'/\¬p∣b'
 | 0,b,h,l=>by lia
 | n+1,b,h,l=>by
  by_cases c:p∣b
  .obtain⟨b1,hb⟩:=c;have p2:=hp.1;have b10:1<=b1:=by
    rcases Int.lt_or_le 0 b1 with q | q
    .exact q
    .have:=ay q (show 0<=p by lia);lia
   have:2*b1<=p*b1:=aq J J;obtain⟨j,b',e,nb⟩:=An hp n (b:=b1) b10 J;exact⟨j+1,b',by rw[hb,e,bq];grind,nb⟩
  .exact⟨0,b,by rw[eI,cQ],c⟩
theorem En (hp:Pt.mR p)(h:qE p w steps steps.length fs)(ci:CI p fs.length (mt (rowsOf steps fs)))(lw:∀y∈steps,y.length=w){tops:List Int}{am:Int->Int}{b:Int}(lg:goal.length=w)(lW:W.length=w)(z:∀i,i<fs.length->dot (steps.getD (nm fs i) []) W=0){c:Nat}(hc:c<w)(nz:g (oN p fs goal) c≠0)
 (b1:1<=b)(Wc:g W c=b)(Wt:∀t,t<fs.length->cl fs t≠c->g W (cl fs t)=-(g tops t))(own:∀c',c'<w->c'≠c->(∃t,t<fs.length/\cl fs t=c')\/g W c'=0)(sol:∀i:Nat,i<fs.length->(Ld.S fs.length fun t=>st steps (nm fs i) (cl fs t.toNat)*fn tops t)=b*am i):dot goal W≠0:=by
  have p2:=hp.1;obtain⟨j,b',eb,nb⟩:=An hp b.toNat b1 (Nat.le_refl _);have pj:0<p^j:=fL J;have Nc:=ci.pow J j (y:=fn tops) fun i hi=>by
    have e:(Ld.S fs.length fun t=>mt (rowsOf steps fs) i t*fn tops t)=b*am i:=by
      rw[<-sol i hi];exact Ld.jO fun t ht=>by rw[tN hi ht,ae]
    rw[e,eb,aK];exact cY ..
  have div:∀c',c'<w->p^j∣g W c':=fun c' wT=>by
    by_cases q:c'=c
    · rw[q,Wc,eb];exact cY ..
    · rcases own c' wT q with ⟨t,ht,et⟩ | y
      · rw[<-et,Wt t ht (by rw[et];exact q)]
        have:=Nc t ht;unfold fn at this;rw[ae] at this;exact d6.mpr this
      · rw[y];exact bi _
  obtain⟨W',Y4⟩:∃W':List Int,W'=W.map fun x=>x/p^j:=⟨_,Z⟩;have Y5:W'.length=w:=by rw[Y4,aa,lW]
  have gW:∀c',c'<w->g W c'=p^j*g W' c':=fun c' wT=>by
    rw[Y4,qP J,cR (div c' wT)]
  have Qw:∀v:List Int,v.length=w->dot v W=p^j*dot v W':=fun v lv=>by
    rw[n5 lv lW,n5 lv Y5,<-Ld.kg];refine Ld.jO fun i hi=>?_;rw[ae,gW i hi];grind
  have cancel:∀x:Int,p^j*x=0->x=0:=fun x e=>(gE.mp e).resolve_left J;have r:=GO hp h lw lg Y5 (fun i hi=>cancel _ (by rw[<-Qw _ (lw _ (lh (h.se hi)))];exact z i hi)) hc nz (fun c' wT q=>(own c' wT q).imp id fun y=>cancel _ (by rw[<-gW c' wT];exact y)) (fun d=>nb (by
    have e:b'=g W' c:=aS (show p^j≠0 by lia) (by rw[<-eb,<-gW c hc,Wc]);rw[e];exact d))
  rw[Qw goal lg];exact fun e=>r (cancel _ e)
variable {steps:List (List Int)}
theorem IW {v W0:List Int}{w c:Nat}{b:Int}(lv:v.length=w)(lW:W0.length=w)(hc:c<w)(z:g W0 c=0):dot v ((W0.map fun x=>-x).set c b)=b*g v c-dot v W0:=by
 rw[n5 lv (by rw[cf,aa,lW]),n5 lv lW];have e:(Ld.S w fun i=>g v i.toNat*g ((W0.map fun x=>-x).set c b) i.toNat)=(Ld.S w fun i=>b*g v i.toNat*if i=(c:Int) then 1 else 0) + -1*Ld.S w fun i=>g v i.toNat*g W0 i.toNat:=by
  rw[<-Ld.kg,<-Ld.mj];refine Ld.jO fun i hi=>?_;rw[ae,yg zfM]
  by_cases q:i=c
  .rw[aC q,aC J,q,z];grind
  .rw[ak q,ak J,qP J];grind
 rw[e,lX (F:=fun i=>b*g v i.toNat) hc,ae];lia
theorem qE.JH {p:Int}(hp:Pt.mR p){w:Nat}{fs:List Fd}(h:qE p w steps steps.length fs){goal:List Int}(lg:goal.length=w){c:Nat}(nz:g (Rx.oN p fs goal) c≠0):c∉kf fs:=fun hm=>by
 have p2:=hp.1;unfold kf at hm;obtain⟨f,hf,e⟩:=List.mem_map.mp hm;obtain⟨t,ht,et⟩:=List.getElem_of_mem hf;have cz:=(h.oN J lg).zero t ht;have ec:cl fs t=c:=by unfold cl;rw[getD_at (List.getElem?_eq_getElem ht),et,e]
 rw[ec] at cz;unfold fn at cz;rw[ae] at cz;have r:=(sR (show 0<p by lia) lg Z h.rok).2.g (show 0<p by lia) c;have:=aT (show 0<g (Rx.oN p fs goal) c by lia) cz;lia
theorem HD {p:Int}(hp:Pt.mR p){w:Nat}{fs:List Fd}(h:qE p w steps steps.length fs)(ci:CI p fs.length (mt (rowsOf steps fs)))(lw:∀y∈steps,y.length=w){goal tops am:List Int}{b:Int}(lg:goal.length=w)(lt:tops.length=fs.length){c:Nat}(hc:c<w)(nz:g (Rx.oN p fs goal) c≠0)(b1:1<=b)
 (RT:∀i,i<fs.length->g am i=g (steps.getD (nm fs i) []) c)(sol:∀i:Nat,i<fs.length->(Ld.S fs.length fun t=>st steps (nm fs i) (cl fs t.toNat)*fn tops t)=b*g am i)(gd:Good p w steps.length (st steps) (fn goal)) :
    Iq steps goal (((uk w (kf fs) tops).map fun x=>-x).set c b) 0:=by
  have nc:=h.JH hp lg nz;have Y6:=nX w (kf fs) tops;have z0:g (uk w (kf fs) tops) c=0:=uo nc (nQ h);obtain⟨W,hW⟩:∃W:List Int,W=((uk w (kf fs) tops).map fun x=>-x).set c b:=⟨_,Z⟩;rw[<-hW];have lW:W.length=w:=by rw[hW,cf,aa,Y6]
  have zero:∀i,i<fs.length->dot (steps.getD (nm fs i) []) W=0:=fun i hi=>by
    have lv:=lw _ (lh (rows:=steps) (h.se hi));rw[hW,IW lv Y6 hc z0,Ds hp h lv lt,<-RT i hi];have:=sol i hi;have e:(Ld.S fs.length fun t=>fn (steps.getD (nm fs i) []) (cl fs t.toNat)*fn tops t)=b*g am i:=this;rw[e];lia
  have gW:∀c',c'<w->g W c'=if c'=c then b else -(g (uk w (kf fs) tops) c'):=fun c' wT=>by
    rw[hW,yg zfM]
    by_cases q:c'=c
    · rw[aC q,aC q]
    · rw[ak q,ak q,qP J]
  refine⟨fun j hj=>?_,fun d=>?_⟩
  · rw[ER h lw lW gd zero j hj];exact cT _
  · refine En hp h ci lw lg lW zero hc nz b1 (by rw[gW c hc,aC Z]) (tops:=tops) (am:=fun i=>g am i.toNat) (fun t ht q=>?_) (fun c' wT q=>?_) (fun i hi=>by rw[ae];exact sol i hi) (ga.mp d)
    · rw[gW _ (h.cor.colw t ht),ak q,Fz (h.DS hp) (nQ h) (zw ht) (lL J)]
    · by_cases m:c'∈kf fs
      · unfold kf at m
        obtain⟨f,hf,e⟩:=List.mem_map.mp m;obtain⟨t,ht,et⟩:=List.getElem_of_mem hf;exact .inl ⟨t,ht,by unfold cl;rw[getD_at (List.getElem?_eq_getElem ht),et,e]⟩
      · right
        rw[gW c' wT,ak q,uo m (nQ h)];rfl
variable {ps:List (Int×Int)}
theorem D8 {n:Int}(h:Pt.Parts n ps)(hp:Pt.mR n):ps=[(n,n)]:=by
 have p2:=hp.1;have all:∀x∈ps,x.1=n:=fun x hx=>by
  have a:=(Pt.n9 h x).mp hx;rcases Int.lt_or_le x.1 n with c | c
  .exact absurd a.2.1 (hp.2 x.1 a.1.1 c)
  .have:=aT J a.2.1;lia
 cases ps with
 | nil =>
  have e:=h.prd;have e':(1:Int)=n:=e;lia
 | cons x l =>
  cases l with
  | nil =>
   have e:=h.prd;have e':x.2*1=n:=e;have a:=all x av;have b:x.2=n:=J;have:x=(n,n):=Prod.ext a b;rw[this]
  | cons y l =>
   exfalso;have s:=h.srt;rw[fF] at s;have lt:=s.1 y av;have a:=all x av;have b:=all y (ar _ av);lia
theorem Eg {n:Int}(h:Pt.Parts n ps)(e:ps=[(n,n)]):Pt.mR n:=by
 have:=h.row (n,n) (by rw[e];exact av);exact this.pr
def gD (k C:Nat):Nat:=(2*(k*C)+1)^k
def gG (k C Cg:Nat):Nat:=gD k C+C+Cg
def gB (k C Cg:Nat):Nat:=k*(gD k C*(Sg.t7 k C*gG k C Cg))+gD k C+1
def Rw (k C Cg:Nat):Bool:=Nat.ble (128*(gB k C Cg*gB k C Cg)*(128*(gB k C Cg*gB k C Cg))*2^480) (2^9000) && Nat.blt (gG k C Cg) (2^9000) && Nat.blt (gD k C*((k+1)*(Sg.t7 k Cg*Cg))) (Pq.pd Pq.S)
end Rx
namespace Rg
variable {n st:Nat}
def rv (n:Int)(t:Int×Int×Int)(x:Int):Int:=if (x-t.2.1)%(n/t.1)=0 then t.2.2 else 0
def BI (n:Int)(rows:List (Int×Int×Int))(x:Int):Int:=(rows.map fun t=>rv n t x).sum
theorem Ay (n:Int)(rows:List (Int×Int×Int))(t:Int×Int×Int)(x:Int):BI n (rows++[t]) x=BI n rows x+rv n t x:=by
 unfold BI;rw[List.map_append,List.sum_append];simp
theorem lay0 (hn:0<n)(t5:0<st)(hole many:Int)(a:List Int):∀x:Int,Ld.at' a x=Ld.at' a x+(if (x-hole)%st=0/\(x%n)/st<((0:Nat):Int) then many else 0):=fun x=>by
 rw[ak,df];rintro⟨_,z⟩;have:=cG (aD x (show (n:Int)≠0 by lia)) (show (0:Int)<=st by lia);lia
theorem Us {p i:Nat}(t5:0<st)(CK:n=p*st)(hi:i<p){hole many:Int}{a b:List Int}(hb:b.length=n)
 (h:∀x:Int,Ld.at' b x=Ld.at' a x+(if (x-hole)%st=0/\(x%n)/st<(i:Int) then many else 0)) :
    0<=hole%st+i*st/\hole%st+i*st<(n:Int)/\∀x:Int,Ld.at' (b.set (hole%st+i*st).toNat (Ld.at' b (hole%st+i*st)+many)) x=Ld.at' a x+(if (x-hole)%st=0/\(x%n)/st<((i+1:Nat):Int) then many else 0):=by
  have l0:=aD hole (show (st:Int)≠0 by lia);have l1:=az hole (show (0:Int)<st by lia);have hn:0<n:=by rw[CK];exact fK J t5
  have Y7:(0:Int)<=(i:Int)*st:=bx J J;have Xs:((i:Int)+1)*st<=n:=by
    rw[CK,aO];exact aq J J
  rw[eD,cQ] at Xs;have y0:0<=hole%st+i*st:=J;have y1:hole%st+i*st<(n:Int):=J;have ym:(hole%st+i*st)%n=hole%st+i*st:=aU y0 y1;have sn:(st:Int)∣n:=⟨p,by rw[CK,aO,aB]⟩;have ys:(hole%st+i*st)/st=i:=by rw[iN _ _ J,gy l0 l1,dD]
  refine⟨y0,y1,fun x=>?_⟩;have e:=Ld.yJ hb hn (hole%st+i*st) (Ld.at' b (hole%st+i*st)+many) x;rw[ym] at e;rw[e]
  by_cases c:x%n=hole%st+i*st
  · have c1:(x-hole)%st=0:=by
      have:x%st=hole%st:=by
        rw[<-aW x sn,c,eU,aW _ (cT _)]
      rw[eJ,this];simp
    rw[aC c,aC ⟨c1,by rw[c,ys];lia⟩];have ex:Ld.at' b (hole%st+i*st)=Ld.at' b x:=Ld.oB hb _ _ (by rw[ym,c]);rw[ex,h,ak]
    · lia
    · rintro⟨_,z⟩
      rw[c,ys] at z;lia
  · rw[ak c,h]
    by_cases d:(x-hole)%st=0/\(x%n)/st<(i:Int)
    · rw[aC d,aC ⟨d.1,by have:=d.2;lia⟩]
    · rw[ak d,ak]
      rintro⟨z1,z2⟩;have zi:(x%n)/st=i:=by
        rcases Int.lt_or_le ((x%n)/st) i with w | w
        · exact absurd ⟨z1,w⟩ d
        · lia
      have zm:(x%n)%st=hole%st:=by
        rw[aW x sn];have:=aL.mpr z1;exact this
      have:=bK (x%n) st;rw[zi,zm,aB] at this;exact c this.symm
theorem VY {p:Nat}(t5:0<st)(hp:0<p)(CK:n=p*st){hole many:Int}{a b:List Int}
 (h:∀x:Int,Ld.at' b x=Ld.at' a x+(if (x-hole)%st=0/\(x%n)/st<(p:Int) then many else 0)):∀x:Int,Ld.at' b x=Ld.at' a x+(if (x-hole)%st=0 then many else 0):=fun x=>by
  rw[h];have hn:0<n:=by rw[CK];exact fK hp t5
  have lt:(x%n)/st<(p:Int):=by
    refine gF J ?_;have:=az x (show (0:Int)<n by lia);rw[CK,aO] at this ⊢;exact this
  by_cases c:(x-hole)%st=0
  · rw[aC ⟨c,lt⟩,aC c]
  · rw[ak (fun z=>c z.1),ak c]
theorem FE {p:Nat}(t5:0<st)(hp:0<p)(CK:n=p*st)(hole:Int):hole%st<(n:Int)/\(((n:Int)-hole%st-1)/st+1).toNat=p:=by
 have l0:=aD hole (show (st:Int)≠0 by lia);have l1:=az hole (show (0:Int)<st by lia);have e:(n:Int)=p*st:=by rw[CK,aO]
 have s1:(st:Int)<=n:=by rw[e];have:=aq (show (1:Int)<=p by lia) (show (0:Int)<=st by lia);lia
 refine⟨J,?_⟩;have q:((n:Int)-hole%st-1)/st=p-1:=by
  have r:(n:Int)-hole%st-1=(st-1-hole%st)+(p-1)*st:=by rw[cN,cQ,e];lia
  rw[r,iN _ _ J,gy J J,dD]
 rw[q];lia
theorem yD {p:Int}(hn:1<=n)(hp:2<=p)(d:p∣n):∃st:Nat,(n:Int)/p=st/\0<st/\n=p.toNat*st/\p.toNat<=n:=by
 obtain⟨e,he⟩:=d;have e1:1<=e:=by
  rcases Int.lt_or_le e 1 with z | z
  .have:=ay (show e<=0 by lia) (show 0<=p by lia);lia
  .exact z
 have q:(n:Int)/p=e:=by rw[he];exact aG _ J
 have f:n=p.toNat*e.toNat:=by
  have:((p.toNat*e.toNat:Nat):Int)=p*e:=by rw[aO,bU J,bU J]
  lia
 exact⟨e.toNat,by rw[q,bU J],J,f,by rw[f];exact Nat.le_mul_of_pos_right _ J⟩
theorem VO {n st:Nat}(hn:0<n)(t5:0<st)(hole many:Int)(a:List Int):∀x:Int,Ld.at' a x=Ld.at' a x+(if (x-hole)%st=0/\((x-hole)%n)/st<((0:Nat):Int) then many else 0):=fun x=>by
 rw[ak,df];rintro⟨_,z⟩;have:=cG (aD (x-hole) (show (n:Int)≠0 by lia)) (show (0:Int)<=st by lia);lia
theorem TM {n st p i:Nat}(t5:0<st)(CK:n=p*st)(hi:i<p){hole many:Int}{a b:List Int}(hb:b.length=n)
  (h:∀x:Int,Ld.at' b x=Ld.at' a x+(if (x-hole)%st=0/\((x-hole)%n)/st<(i:Int) then many else 0)) :
  ∀x:Int,Ld.at' (b.set ((hole+i*st)%n).toNat (Ld.at' b (hole+i*st)+many)) x=Ld.at' a x+(if (x-hole)%st=0/\((x-hole)%n)/st<((i+1:Nat):Int) then many else 0):=fun x=>by
 have hn:0<n:=by rw[CK];exact fK J t5
 have Y7:(0:Int)<=(i:Int)*st:=bx J J;have Xs:((i:Int)+1)*st<=n:=by
  rw[CK,aO];exact aq J J
 rw[eD,cQ] at Xs;have ism:((i:Int)*st)%n=i*st:=aU Y7 J;have sn:(st:Int)∣n:=⟨p,by rw[CK,aO,aB]⟩;rw[Ld.yJ hb hn]
 by_cases c:x%n=(hole+i*st)%n
 .have d:(x-hole)%n=i*st:=by rw[eJ,c,<-eJ,show hole+(i:Int)*st-hole=i*st by lia,ism]
  have d1:(x-hole)%st=0:=by rw[<-aW _ sn,d,Int.mul_emod_left]
  have d2:((x-hole)%n)/st=i:=by rw[d,gP _ J]
  rw[aC c,aC ⟨d1,by rw[d2];lia⟩,<-Ld.oB hb x _ c,h,ak]
  .lia
  .rintro⟨_,z⟩;rw[d2] at z;lia
 .rw[ak c,h]
  by_cases d:(x-hole)%st=0/\((x-hole)%n)/st<(i:Int)
  .rw[aC d,aC ⟨d.1,by have:=d.2;lia⟩]
  .rw[ak d,ak];rintro⟨z1,z2⟩;have zi:((x-hole)%n)/st=i:=by
    rcases Int.lt_or_le (((x-hole)%n)/st) i with w | w
    .exact absurd ⟨z1,w⟩ d
    .lia
   have zm:((x-hole)%n)%st=0:=by rw[aW _ sn];exact z1
   have e:=bK ((x-hole)%n) st;rw[zi,zm,dD,aB] at e;refine c ?_;have:((x-hole)%n+hole)%n=(i*st+hole)%n:=by rw[e]
   rw[ja,show x-hole+hole=x by lia,Int.add_comm ((i:Int)*st)] at this;exact this
theorem VV {n st p:Nat}(t5:0<st)(hp:0<p)(CK:n=p*st){hole many:Int}{a b:List Int}
  (h:∀x:Int,Ld.at' b x=Ld.at' a x+(if (x-hole)%st=0/\((x-hole)%n)/st<(p:Int) then many else 0)):∀x:Int,Ld.at' b x=Ld.at' a x+(if (x-hole)%st=0 then many else 0):=fun x=>by
 rw[h];have hn:0<n:=by rw[CK];exact fK hp t5
 have lt:((x-hole)%n)/st<(p:Int):=by
  refine gF J ?_;have:=az (x-hole) (show (0:Int)<n by lia);rw[CK,aO] at this ⊢;exact this
 by_cases c:(x-hole)%st=0
 .rw[aC ⟨c,lt⟩,aC c]
 .rw[ak (fun z=>c z.1),ak c]
end Rg
namespace Rt
variable {x:Int×Int}
open Pt (Parts)
structure Pc (n:Nat)(p q u:Int):Prop where
 n1:1<=n
 p2:2<=p
 q2:1<=q
 pq:p∣q
 qn:q∣(n:Int)
 le:((n:Int)/q*u-1)%q=0
theorem Pc.mk' {n:Nat}{ps:List (Int×Int)}(hn:1<=n)(hp:Parts n ps)(hx:x∈ps){u:Int}(hu:((n:Int)/x.2*u-1)%x.2=0):Pc n x.1 x.2 u:=by
 obtain⟨m,e,e',_,q2,d,_⟩:=Rs.mE hp hx;exact⟨hn,(hp.row x hx).pr.1,J,d,⟨m,e⟩,hu⟩
section
variable {f:Int->Int}
variable {n:Nat}{p q u:Int}
def top (p q u k:Int):Int:=(k*u%q)/(q/p)
theorem Pc.m (h:Pc n p q u):∃m,q=p*m/\q/p=m/\1<=m:=by
 obtain⟨m,e⟩:=h.pq;have hp:=h.p2;have hq:=h.q2;refine⟨m,e,by rw[e];exact aG _ J,?_⟩;rcases Int.lt_or_le m 1 with z | z
 .have:=ay (show m<=0 by lia) (show 0<=p by lia);lia
 .exact z
theorem Pc.YE (h:Pc n p q u):∃c,(n:Int)=q*c/\(n:Int)/q=c/\(n:Int)/p=c*(q/p):=by
 obtain⟨c,e⟩:=h.qn;obtain⟨m,em,EW,m1⟩:=h.m;have hp:=h.p2;have hq:=h.q2;refine⟨c,e,by rw[e];exact aG _ J,?_⟩;rw[EW,e,em,aK,aG _ J,aB]
theorem Pc.step (h:Pc n p q u)(k t:Int):((k+t*((n:Int)/p))*u)%q=(k*u+t*(q/p))%q:=by
 obtain⟨c,e,e1,e2⟩:=h.YE;have d:q∣c*u-1:=by have:=bO h.le;rwa [e1] at this
 refine aL.mpr (bP ?_);rw[e2];have:(k+t*(c*(q/p)))*u-(k*u+t*(q/p))=t*(q/p)*(c*u-1):=by
  rw[eD,cM,bV];have:t*(c*(q/p))*u=t*(q/p)*(c*u):=by
   rw[aK,aK t (q/p),aB c (q/p),aK]
  lia
 rw[this];exact ax d
theorem Pc.top_lt (h:Pc n p q u)(k:Int):0<=top p q u k/\top p q u k<p:=by
 obtain⟨m,em,EW,m1⟩:=h.m;have hq:=h.q2;unfold top;rw[EW];have a:=aD (k*u) (show q≠0 by lia);have b:=az (k*u) (show 0<q by lia);refine⟨cG a J,gF J ?_⟩;rw[<-em];exact b
theorem Pc.Ar (h:Pc n p q u)(k t:Int):top p q u (k+t*((n:Int)/p))=(top p q u k+t)%p:=by
 obtain⟨m,em,EW,m1⟩:=h.m;have hq:=h.q2;have hp:=h.p2;unfold top;rw[h.step,EW];have r0:=aD (k*u) (show q≠0 by lia);have e1:(k*u+t*m)%q=(k*u%q+t*m)%q:=by rw[ja]
 rw[e1];generalize k*u%q=r;have rd:=bK r m;have s0:=aD r (show m≠0 by lia);have s1:=az r (show 0<m by lia);generalize hs:r%m=s at rd s0 s1;generalize hT:r/m=T at rd;have er:r+t*m=s+m*(T+t):=by rw[<-rd,eZ,aB t m];lia
 rw[er];have td:=bK (T+t) p;have v0:=aD (T+t) (show p≠0 by lia);have v1:=az (T+t) (show 0<p by lia);generalize (T+t)%p=v at td v0 v1;generalize (T+t)/p=w at td;have e2:s+m*(T+t)=(s+m*v)+q*w:=by
  rw[<-td,eZ,em,<-aK m p w,aB m p];lia
 rw[e2,de];have mv0:0<=m*v:=bx J v0;have mv1:m*v+m<=q:=by
  have:=ay (show v+1<=p by lia) (show 0<=m by lia);rw[eZ,bV,aB m p,<-em] at this;exact this
 rw[aU J J,iO _ _ J,gy s0 s1,dD]
def dl (n:Nat)(p q u k:Int):Int:=k+(p-1-top p q u k)*((n:Int)/p)
theorem Pc.y4 (h:Pc n p q u)(k:Int):top p q u (dl n p q u k)=p-1:=by
 have t:=h.top_lt k;unfold dl;rw[h.Ar,show top p q u k+(p-1-top p q u k)=p-1 by lia,aU J J]
theorem BX {k:Int}(h:top p q u k=p-1):dl n p q u k=k:=by
 unfold dl;rw[h];simp
theorem Pc.CS (h:Pc n p q u)(k t:Int):(dl n p q u (k+t*((n:Int)/p)))%n=(dl n p q u k)%n:=by
 unfold dl;rw[h.Ar];have hp:=h.p2;have td:=bK (top p q u k+t) p;generalize (top p q u k+t)%p=v at td;generalize (top p q u k+t)/p=w at td;have np:p*((n:Int)/p)=n:=cR (bB h.pq h.qn);have e:k+t*((n:Int)/p)+(p-1-v)*((n:Int)/p)=k+(p-1-top p q u k)*((n:Int)/p)+n*w:=by
  have f:t+(p-1-v)=(p-1-top p q u k)+p*w:=J;rw[Int.add_assoc,<-eD,f,eD,aB p w,aK,np,aB w];lia
 rw[e,de]
def E (n:Nat)(p q u:Int)(f:Int->Int):Int->Int:=fun k=>f k-f (dl n p q u k)
theorem Pc.KC (h:Pc n p q u)(hf:Ld.uC n f):Ld.uC n (E n p q u f):=fun x y e=>by
 unfold E;rw[hf x y e];congr 1;refine hf _ _ ?_;have et:top p q u x=top p q u y:=by
  unfold top;have:(x*u)%q=(y*u)%q:=by
   have d:q∣x*u-y*u:=by
    rw[<-cN];exact aE (bB h.qn (bO (aL.mp e)))
   exact aL.mpr (bP d)
  rw[this]
 unfold dl;rw[et];exact Ld.uR _ e
theorem O2 (f g:Int->Int)(k:Int):E n p q u (fun x=>f x+g x) k=E n p q u f k+E n p q u g k:=by unfold E;dsimp only;lia
theorem Mb (h:∀k,f k=0)(k:Int):E n p q u f k=0:=by unfold E;rw[h,h];rfl
theorem Pc.LO (h:Pc n p q u)(f:Int->Int){k:Int}(t:top p q u k=p-1):E n p q u f k=0:=by unfold E;rw[BX t];lia
def Inv (n:Nat)(p:Int)(f:Int->Int):Prop:=∀k t:Int,f (k+t*((n:Int)/p))=f k
theorem Pc.PQ (h:Pc n p q u)(hf:Inv n p f)(k:Int):E n p q u f k=0:=by
 unfold E dl;rw[hf];lia
end
section
variable {n:Nat}{p q u p' q' u':Int}
theorem rZ (d:q∣(n:Int)/p')(k t:Int):top p q u (k+t*((n:Int)/p'))=top p q u k:=by
 unfold top;congr 1;refine aL.mpr (bP ?_);rw[eD,show k*u+t*((n:Int)/p')*u-k*u=t*((n:Int)/p')*u by lia];exact aE (ax d)
theorem AZ (d:q∣(n:Int)/p'){f:Int->Int}(hf:Inv n p' f):Inv n p' (E n p q u f):=fun k t=>by
 unfold E dl;rw[rZ d,hf];congr 1;have:k+t*((n:Int)/p')+(p-1-top p q u k)*((n:Int)/p)=k+(p-1-top p q u k)*((n:Int)/p)+t*((n:Int)/p'):=J;rw[this,hf]
theorem zM (d:q'∣(n:Int)/p){f:Int->Int}(hf:∀k,top p' q' u' k=p'-1->f k=0)(k:Int)(t:top p' q' u' k=p'-1):E n p q u f k=0:=by
 unfold E dl;rw[hf k t,hf _ (by rw[rZ d];exact t)];rfl
end
def R (n:Nat):List ((Int×Int)×Int)->(Int->Int)->Int->Int
 | [],f=>f
 | z::l,f=>R n l (E n z.1.1 z.1.2 z.2 f)
structure oF (n:Nat)(ps:List (Int×Int))(l:List ((Int×Int)×Int)):Prop where
 n1:1<=n
 hp:Parts n ps
 map:l.map Prod.fst=ps
 le:∀z∈l,((n:Int)/z.1.2*z.2-1)%z.1.2=0
theorem oF.pc {n:Nat}{ps:List (Int×Int)}{l:List ((Int×Int)×Int)}(h:oF n ps l){z:(Int×Int)×Int}(hz:z∈l):Pc n z.1.1 z.1.2 z.2 :=
 Pc.mk' h.n1 h.hp (by rw[<-h.map];exact dF.mpr ⟨z,hz,Z⟩) (h.le z hz)
theorem BR {n:Nat}{ps:List (Int×Int)}(hp:Parts n ps){y:Int×Int}(hx:x∈ps)(hy:y∈ps)(ne:x.1≠y.1):x.2∣(n:Int)/y.1:=by
 have c:=Rs.Ag hp hx hy ne;obtain⟨m,e,e',_,q2,⟨t,d⟩,_⟩:=Rs.mE hp hy;have p2:=(hp.row y hy).pr.1;have:(n:Int)/y.1=(n:Int)/y.2*t:=by
  rw[e',e,d,aK,aG _ J,aB]
 rw[this];exact aE c
theorem xQ (n:Nat):∀(l:List ((Int×Int)×Int))(f g:Int->Int)(k:Int),R n l (fun x=>f x+g x) k=R n l f k+R n l g k
 | [],f,g,k=>rfl
 | z::l,f,g,k=>by
  simp only[R];have:E n z.1.1 z.1.2 z.2 (fun x=>f x+g x)=fun x=>E n z.1.1 z.1.2 z.2 f x+E n z.1.1 z.1.2 z.2 g x:=funext fun x=>O2 f g x;rw[this,xQ n l]
theorem wn (n:Nat):∀(l:List ((Int×Int)×Int)){f:Int->Int},(∀k,f k=0)->∀k,R n l f k=0
 | [],f,h,k=>h k
 | z::l,f,h,k=>wn n l (fun k=>Mb h k) k
theorem KM {n:Nat}{ps:List (Int×Int)}:∀{l:List ((Int×Int)×Int)}{x:Int×Int},(∀z∈l,Pc n z.1.1 z.1.2 z.2)->(∀z∈l,z.1=x\/z.1.2∣(n:Int)/x.1)->(∃z∈l,z.1=x)->∀{f:Int->Int},Inv n x.1 f->∀k,R n l f k=0
 | [],x,_,_,⟨z,hz,_⟩,f,hf,k=>by cases hz
 | z::l,x,hpc,hc,hex,f,hf,k=>by
  simp only[R]
  by_cases e:z.1=x
  .refine wn n l (fun k=>(hpc z av).PQ ?_ k) k;rw[e];exact hf
  .have d:z.1.2∣(n:Int)/x.1:=(hc z av).resolve_left e;refine KM (ps:=ps) (fun y hy=>hpc y (ar _ hy)) (fun y hy=>hc y (ar _ hy)) ?_ (AZ d hf) k;obtain⟨y,hy,ey⟩:=hex;rcases List.mem_cons.mp hy with w | w
   .exact absurd (w▸ey) e
   .exact⟨y,w,ey⟩
theorem oF.kill {n:Nat}{ps:List (Int×Int)}{l:List ((Int×Int)×Int)}(h:oF n ps l)(hx:x∈ps){f:Int->Int}(hf:Inv n x.1 f)(k:Int):R n l f k=0:=by
 have mem:∀z∈l,z.1∈ps:=fun z hz=>by rw[<-h.map];exact dF.mpr ⟨z,hz,Z⟩
 refine KM (ps:=ps) (x:=x) (fun z hz=>h.pc hz) (fun z hz=>?_) ?_ hf k
 .by_cases e:z.1=x
  .exact .inl e
  .refine .inr (BR h.hp (mem z hz) hx fun w=>e ?_)
   -- two parts of one prime are the same
   rcases List.mem_iff_getElem.mp (mem z hz) with ⟨i,hi,ei⟩;rcases List.mem_iff_getElem.mp hx with ⟨j,hj,ej⟩;have pw:=cV.mp h.hp.srt;rcases Nat.lt_trichotomy i j with g | g | g
   .have:=pw i j hi hj g;rw[ei,ej] at this;lia
   .subst g;rw[<-ei,ej]
   .have:=pw j i hj hi g;rw[ei,ej] at this;lia
 .rw[<-h.map] at hx;obtain⟨z,hz,e⟩:=List.mem_map.mp hx;exact⟨z,hz,e⟩
theorem Lz (n:Nat)(t:Int×Int×Int)(hp:t.1∣(n:Int)):Inv n t.1 (Rg.rv n t):=fun k s=>by
 unfold Rg.rv;have:(k+s*((n:Int)/t.1)-t.2.1)%((n:Int)/t.1)=(k-t.2.1)%((n:Int)/t.1):=by
  rw[show k+s*((n:Int)/t.1)-t.2.1=k-t.2.1+s*((n:Int)/t.1) by lia,eU]
 rw[this]
theorem oF.yl {n:Nat}{ps:List (Int×Int)}{l:List ((Int×Int)×Int)}(h:oF n ps l):∀{rows:List (Int×Int×Int)},(∀t∈rows,t.1∈ps.map Prod.fst)->∀k,R n l (Rg.BI n rows) k=0
 | [],_,k=>wn n l (fun _=>Z) k
 | t::r,hm,k=>by
  have e:Rg.BI n (t::r)=fun x=>Rg.rv n t x+Rg.BI n r x:=funext fun x=>by unfold Rg.BI;rw[List.map_cons,List.sum_cons]
  rw[e,xQ,h.yl (rows:=r) fun y hy=>hm y (ar _ hy)];obtain⟨x,hx,ex⟩:=List.mem_map.mp (hm t List.mem_cons_self);have dv:t.1∣(n:Int):=by rw[<-ex];exact((Pt.n9 h.hp x).mp hx).2.1
  rw[h.kill hx (by rw[ex];exact Lz n t dv)];rfl
variable {Q:Int->Int->Prop}
theorem Dk:∀(l:List (Int×Int)),(∀x∈l,Pt.Row x)->(2:Int)^l.length<=Pt.rj l
 | [],_=>by simp[Pt.rj]
 | x::r,h=>by
  have a:=Dk r fun y hy=>h y (ar _ hy);have b:=Pt.sK (h x av);have c:=Pt.qI r fun y hy=>h y (ar _ hy);simp only[Pt.rj,List.length_cons];rw[bq,aB];exact cH J a (Int.pow_nonneg J) J
theorem xS {n:Nat}{ps:List (Int×Int)}(hp:Parts n ps)(hn:n<=420):ps.length<=8:=by
 rcases Nat.lt_or_ge 8 ps.length with z | z
 .have a:=Dk ps hp.row;rw[hp.prd] at a;have b:(2:Int)^9<=2^ps.length:=Pt.AT (p:=2) O z;have c:(2:Int)^9=512:=O;lia
 .exact z
section
variable {k:Int}
variable {n:Nat}{p q u:Int}
theorem Pc.zA (h:Pc n p q u)(k:Int):(k*u%q >= q-q/p)↔top p q u k=p-1:=by
 obtain⟨m,em,EW,m1⟩:=h.m;have hq:=h.q2;have hp:=h.p2;have t:=h.top_lt k;unfold top at t ⊢;rw[EW] at t ⊢;have r1:=az (k*u) (show 0<q by lia);have rd:=bK (k*u%q) m;have s0:=aD (k*u%q) (show m≠0 by lia);have s1:=az (k*u%q) (show 0<m by lia);generalize k*u%q=r at *;generalize r/m=T at *;constructor
 .intro g;rcases Int.lt_or_le T (p-1) with z | z
  .have:=ay (show T+1<=p-1 by lia) (show 0<=m by lia);rw[eZ,bV,cM,bV,aB m p,<-em] at this;lia
  .lia
 .intro g;rw[g,cM,bV,aB m p,<-em] at rd;lia
theorem Pc.CQ (h:Pc n p q u){x y:Int}(e:x%n=y%n):top p q u x=top p q u y:=by
 unfold top;have:(x*u)%q=(y*u)%q:=by
  have d:q∣x*u-y*u:=by
   rw[<-cN];exact aE (bB h.qn (bO (aL.mp e)))
  exact aL.mpr (bP d)
 rw[this]
def wP (p q u:Int):Nat->List Int
 | 0=>[]
 | i+1=>wP p q u i++(if top p q u i=p-1 then [(i:Int)] else [])
theorem qy {p q u:Int}:∀{i:Nat}{k:Int},k∈wP p q u i↔0<=k/\k<i/\top p q u k=p-1
 | 0,k=>⟨fun h=>(nomatch h),fun h=>by lia⟩
 | i+1,k=>by
  unfold wP;rw[gz,qy];constructor
  .rintro (⟨a,b,c⟩ | h)
   .exact⟨a,J,c⟩
   .split at h
    .rename_i e;rw[b3.mp h];exact⟨J,J,e⟩
    .cases h
  .rintro⟨a,b,c⟩
   by_cases z:k=i
   .subst z;exact .inr (by rw[aC c];simp)
   .exact .inl ⟨a,J,c⟩
theorem vB {p q u:Int}:∀i:Nat,(wP p q u i).Pairwise (· < ·)
 | 0=>List.Pairwise.nil
 | i+1=>by
  unfold wP;rw[eY];refine⟨vB i,by split<;>simp,fun x hx y hy=>?_⟩;have:=(qy.mp hx).2.1;split at hy
  .rw[b3] at hy;lia
  .cases hy
theorem yW {p q u:Int}:∀i:Nat,(wP p q u i).length<=i
 | 0=>aH _
 | i+1=>by
  unfold wP;rw[aJ];have:=yW (p:=p) (q:=q) (u:=u) i;split<;>simp<;>lia
def D (n:Nat)(p q u k:Int):Int:=dl n p q u k%n
theorem Pc.PM (h:Pc n p q u)(k:Int):D n p q u k∈wP p q u n:=by
 have n1:=h.n1;refine qy.mpr ⟨aD _ J,az _ J,?_⟩;unfold D;rw[h.CQ (aW _ (cT _)),h.y4]
theorem Pc.Kr (h:Pc n p q u){x:Int}(hk:k∈wP p q u n):(x-k)%((n:Int)/p)=0↔D n p q u x=k:=by
 obtain⟨k0,k1,kt⟩:=qy.mp hk;have np:p*((n:Int)/p)=n:=cR (bB h.pq h.qn);have dn:((n:Int)/p)∣n:=⟨p,by rw[aB];exact np.symm⟩;constructor
 .intro e;obtain⟨t,ht⟩:=Int.dvd_of_emod_eq_zero e;have ex:x=k+t*((n:Int)/p):=by rw[aB];lia
  unfold D;rw[ex,h.CS,BX kt,aU k0 k1]
 .intro e;unfold D at e;have e2:(dl n p q u x)%((n:Int)/p)=k%((n:Int)/p):=by rw[<-e,aW _ dn]
  unfold dl at e2;rw[eU] at e2;exact aL.mp e2
theorem L4 (n p h m x:Int):Rg.rv n (p,h,-m) x=- Rg.rv n (p,h,m) x:=by
 unfold Rg.rv;dsimp only;split<;>simp
structure PI (n:Nat)(p q u:Int)(f:Int->Int)(j:Nat)(b:List Int):Prop where
 len:b.length=n
 at_:∀x,Ld.at' b x=f x-(if D n p q u x∈(wP p q u n).take j then f (dl n p q u x) else 0)
theorem pi0 {f:Int->Int}{b:List Int}(hb:b.length=n)(h:∀x,Ld.at' b x=f x):PI n p q u f 0 b:=⟨hb,fun x=>by rw[jA,ak jB,Int.sub_zero];exact h x⟩
theorem vD {l:List Int}(h:l.Pairwise (· < ·)){j:Nat}(e:l[j]?=some k):¬k∈l.take j:=fun m=>by
 obtain⟨i,hi,ei⟩:=List.mem_iff_getElem.mp m;obtain⟨hj,ej⟩:=List.getElem?_eq_some_iff.mp e;rw[cJ] at hi;have pw:=cV.mp h i j J hj J;rw[gY] at ei;rw[ei,ej] at pw;lia
theorem Pc.LN (h:Pc n p q u){f:Int->Int}{b:List Int}{j:Nat}(pi:PI n p q u f j b)(e:(wP p q u n)[j]?=some k):Ld.at' b k=f k:=by
 have hk:=ah e;obtain⟨k0,k1,kt⟩:=qy.mp hk;have dk:D n p q u k=k:=by unfold D;rw[BX kt,Int.emod_eq_of_lt k0 k1]
 rw[pi.at_,dk,ak (vD (vB n) e),c5]
theorem rV {l:List Int}{j:Nat}{x:Int}(e:l[j]?=some k):x∈l.take (j+1)↔x∈l.take j\/x=k:=by
 rw[Pt.take_snoc e,gz,b3]
theorem Pc.Yu (h:Pc n p q u){f:Int->Int}(hf:Ld.uC n f){b b':List Int}{j:Nat}(pi:PI n p q u f j b)(e:(wP p q u n)[j]?=some k)(lb:b'.length=n)
 (hb:∀x,Ld.at' b' x=Ld.at' b x+Rg.rv n (p,k,-(f k)) x):PI n p q u f (j+1) b':=⟨lb,fun x=>by
  have hk:=ah e;obtain⟨k0,k1,kt⟩:=qy.mp hk;rw[hb,pi.at_];unfold Rg.rv;dsimp only
  by_cases c:D n p q u x=k
  · rw[aC ((h.Kr hk).mpr c),ak (by rw[c];exact vD (vB n) e),aC (by rw[rV e];exact .inr c)]
    have:f (dl n p q u x)=f k:=hf _ _ (by show D n p q u x=_;rw[c,aU k0 k1]);rw[this];lia
  · rw[ak fun z=>c ((h.Kr hk).mp z)]
    by_cases d:D n p q u x∈(wP p q u n).take j
    · rw[aC d,aC (by rw[rV e];exact .inl d)];lia
    · rw[ak d,ak (by rw[rV e];exact fun z=>z.elim d c)];lia⟩
theorem Pc.Uf (h:Pc n p q u){f:Int->Int}(hf:Ld.uC n f){b:List Int}{j:Nat}(pi:PI n p q u f j b)(e:(wP p q u n)[j]?=some k)(z:f k=0):PI n p q u f (j+1) b:=by
 refine h.Yu hf pi e pi.len fun x=>?_;unfold Rg.rv;rw[z];split<;>simp
theorem Pc.LC (h:Pc n p q u){f:Int->Int}{b:List Int}(pi:PI n p q u f (wP p q u n).length b)(x:Int):Ld.at' b x=E n p q u f x:=by
 rw[pi.at_,bT,aC (h.PM x)];rfl
end
theorem Cw (n:Nat):∀(l:List ((Int×Int)×Int))(z:(Int×Int)×Int)(f:Int->Int),R n (l++[z]) f=E n z.1.1 z.1.2 z.2 (R n l f)
 | [],z,f=>rfl
 | y::l,z,f=>by simp only[List.cons_append,R];exact Cw n l z _
theorem KR {n:Nat}:∀{l:List ((Int×Int)×Int)},(∀z∈l,Pc n z.1.1 z.1.2 z.2)->∀{f:Int->Int},Ld.uC n f->Ld.uC n (R n l f)
 | [],_,f,hf=>hf
 | z::l,h,f,hf=>KR (l:=l) (fun y hy=>h y (ar _ hy)) ((h z av).KC hf)
structure pM (n:Nat)(P:Int->Int->Prop)(a b:List Int)(rows:List (Int×Int×Int)):Prop where
 ok:∀t∈rows,P t.1 t.2.1/\0<=t.2.1/\t.2.1<n/\¬t.2.2=0
 nd:(rows.map fun t=>(t.1,t.2.1)).Nodup
 eq:∀x,Ld.at' a x=Ld.at' b x+Rg.BI n rows x
theorem pM.weak {n:Nat}{P:Int->Int->Prop}{a b:List Int}{rows:List (Int×Int×Int)}(h:pM n P a b rows)(w:∀x y,P x y->Q x y):pM n Q a b rows :=
 ⟨fun t ht=>let ⟨a,b⟩:=h.ok t ht;⟨w _ _ a,b⟩,h.nd,h.eq⟩
theorem rows0 {n:Nat}{P:Int->Int->Prop}(a:List Int):pM n P a a []:=⟨fun t h=>(nomatch h),List.nodup_nil,fun x=>by unfold Rg.BI;simp⟩
theorem pM.snoc {n:Nat}{P:Int->Int->Prop}{a b b':List Int}{rows:List (Int×Int×Int)}{p k m:Int}(h:pM n P a b rows)(w:∀x y,P x y->Q x y)(q:Q p k)(no:∀x y,P x y->¬(x=p/\y=k))(k0:0<=k)(k1:k<n)(mz:¬m=0)
 (hb:∀x,Ld.at' b' x=Ld.at' b x+Rg.rv n (p,k,-m) x):pM n Q a b' (rows++[(p,k,m)]):=by
  refine⟨fun t ht=>?_,?_,fun x=>?_⟩
  · rcases List.mem_append.mp ht with z | z
    · obtain⟨a,b⟩:=h.ok t z;exact⟨w _ _ a,b⟩
    · rw[b3.mp z];exact⟨q,k0,k1,mz⟩
  · rw[aQ,gZ]
    refine⟨h.nd,jB,fun x hx y hy e=>?_⟩;obtain⟨t,ht,et⟩:=List.mem_map.mp hx;have ey:y=(p,k):=by simpa using hy
    refine no _ _ (h.ok t ht).1 ?_;rw[e,ey] at et;exact⟨cU Prod.fst et,cU Prod.snd et⟩
  · rw[Rg.Ay,hb,h.eq,L4];lia
variable {ps:List (Int×Int)}{l:List ((Int×Int)×Int)}
theorem tS {n:Nat}{p' q' u':Int}:∀{l:List ((Int×Int)×Int)},(∀z∈l,q'∣(n:Int)/z.1.1)->∀{f:Int->Int},(∀k,top p' q' u' k=p'-1->f k=0)->∀k,top p' q' u' k=p'-1->R n l f k=0
 | [],_,f,hf,k,t=>hf k t
 | z::l,h,f,hf,k,t=>tS (l:=l) (fun y hy=>h y (ar _ hy)) (fun k t=>zM (h z av) hf k t) k t
theorem GT {n:Nat}{ps:List (Int×Int)}(hp:Parts n ps):∀{l:List ((Int×Int)×Int)},(∀z∈l,Pc n z.1.1 z.1.2 z.2)->(∀z∈l,z.1∈ps)->l.Pairwise (fun y z=>y.1.1≠z.1.1)->∀{z:(Int×Int)×Int},z∈l->∀(f:Int->Int)(k:Int),top z.1.1 z.1.2 z.2 k=z.1.1-1->R n l f k=0
 | [],_,_,_,z,hz,f,k,t=>by cases hz
 | y::l,hpc,hm,nd,z,hz,f,k,t=>by
  have ⟨n1,n2⟩:=fF.mp nd;simp only[R];rcases List.mem_cons.mp hz with w | w
  .subst w;refine tS (fun x hx=>?_) (fun k t=>(hpc z av).LO f t) k t;exact BR hp (hm z av) (hm x (ar _ hx)) (n1 x hx)
  .exact GT hp (l:=l) (fun x hx=>hpc x (ar _ hx)) (fun x hx=>hm x (ar _ hx)) n2 w _ k t
theorem oF.nd {n:Nat}(h:oF n ps l):l.Pairwise (fun y z=>y.1.1≠z.1.1):=by
 have s:=h.hp.srt;rw[<-h.map,List.pairwise_map] at s;exact s.imp fun w=>by lia
theorem oF.drop {n:Nat}(h:oF n ps l){z:(Int×Int)×Int}(hz:z∈l)(f:Int->Int)(k:Int)(t:top z.1.1 z.1.2 z.2 k=z.1.1-1):R n l f k=0 :=
 GT h.hp (fun z hz=>h.pc hz) (fun z hz=>by rw[<-h.map];exact dF.mpr ⟨z,hz,Z⟩) h.nd hz f k t
theorem Ff {n N:Nat}{l':List ((Int×Int)×Int)}{P:Int->Prop} (Φ:(Int->Int)->Int->Int)(add:∀f g,Φ (fun x=>f x+g x)=fun x=>Φ f x+Φ g x)(zero:∀x,Φ (fun _=>0) x=0)(kill:∀(f:Int->Int)(p:Int),Ld.uC n f->P p->Inv n p f->∀k,R N l' (Φ f) k=0) :
  ∀{l:List ((Int×Int)×Int)},(∀z∈l,Pc n z.1.1 z.1.2 z.2)->(∀z∈l,P z.1.1)->∀{f:Int->Int},Ld.uC n f->∀k,R N l' (Φ fun x=>f x-R n l f x) k=0
 | [],_,_,f,_,k=>by
  have:(fun x=>f x-R n [] f x)=fun _=>0:=funext fun x=>by simp[R]
  rw[this];exact wn N l' zero k
 | z::l,h,hP,f,hf,k=>by
  have pc:=h z av;have e:(fun x=>f x-R n (z::l) f x)=fun x=>f (dl n z.1.1 z.1.2 z.2 x)+(E n z.1.1 z.1.2 z.2 f x-R n l (E n z.1.1 z.1.2 z.2 f) x):=funext fun x=>by
   simp only[R];show f x-_=f (dl n z.1.1 z.1.2 z.2 x)+((f x-f (dl n z.1.1 z.1.2 z.2 x))-_)
   lia
  rw[e,add,xQ,Ff Φ add zero kill (l:=l) (fun y hy=>h y (ar _ hy)) (fun y hy=>hP y (ar _ hy)) (pc.KC hf) k];have Iy:Ld.uC n fun x=>f (dl n z.1.1 z.1.2 z.2 x):=fun x y w=>by
   refine hf _ _ ?_;unfold dl;rw[pc.CQ w];exact Ld.uR _ w
  rw[kill _ z.1.1 Iy (hP z av) fun k t=>hf _ _ (pc.CS k t)];rfl
variable {n:Nat}{ps:List (Int×Int)}{l:List ((Int×Int)×Int)}
theorem GU (hp:Parts n ps){x:Int×Int}(hx:x∈ps){u u':Int}(hu:((n:Int)/x.2*u-1)%x.2=0)(Xd:((n:Int)/x.2*u'-1)%x.2=0)(k:Int):top x.1 x.2 u k=top x.1 x.2 u' k:=by
 obtain⟨_,_,_,_,q2,_⟩:=Rs.mE hp hx;have a:=Rs.wj (n:=(n:Int)) (q:=x.2) (hole:=k) (u:=u) J hu;have b:=Rs.wj (n:=(n:Int)) (q:=x.2) (hole:=k) (u:=u') J Xd;unfold top;rw[Rs.y7 (Rs.tQ hp hx) a b zfQ]
theorem GX {n:Nat}{ps:List (Int×Int)}(hp:Parts n ps):∀{l l':List ((Int×Int)×Int)},l.map Prod.fst=l'.map Prod.fst->(∀z∈l,z.1∈ps)->(∀z∈l,((n:Int)/z.1.2*z.2-1)%z.1.2=0)->(∀z∈l',((n:Int)/z.1.2*z.2-1)%z.1.2=0)->∀f,R n l f=R n l' f
 | [],[],_,_,_,_,f=>rfl
 | [],_::_,e,_,_,_,f=>by simp at e
 | _::_,[],e,_,_,_,f=>by simp at e
 | z::l,z'::l',e,hm,h,h',f=>by
  rw[cZ,cZ,List.cons.injEq] at e;obtain⟨e1,e2⟩:=e;simp only[R];have ee:E n z.1.1 z.1.2 z.2 f=E n z'.1.1 z'.1.2 z'.2 f:=funext fun k=>by
   have a:=h z av;have b:=h' z' av;rw[<-e1] at b ⊢;unfold E dl;rw[GU hp (hm z av) a b]
  rw[ee];exact GX hp e2 (fun y hy=>hm y (ar _ hy)) (fun y hy=>h y (ar _ hy)) (fun y hy=>h' y (ar _ hy)) _
theorem oF.one {Xu:List (Int×Int)}{l':List ((Int×Int)×Int)}(h:oF n ps l)(h':oF n Xu l')(f:Int->Int):R n l f=R n l' f:=by
 have e:=Pt.oE h'.hp h.hp;subst e;exact GX h.hp (h.map.trans h'.map.symm) (fun z hz=>by rw[<-h.map];exact dF.mpr ⟨z,hz,Z⟩) h.le h'.le f
theorem oF.Ud (h:oF n ps l) (Φ:(Int->Int)->Int->Int)(add:∀f g,Φ (fun x=>f x+g x)=fun x=>Φ f x+Φ g x)(zero:∀x,Φ (fun _=>0) x=0)(inv:∀(f:Int->Int)(p:Int),p∣(n:Int)->Ld.uC n f->Inv n p f->Inv n p (Φ f)){f:Int->Int}(hf:Ld.uC n f) :
  R n l (Φ f)=R n l (Φ (R n l f)):=funext fun k=>by
 have gone:=Ff (n:=n) (N:=n) (l':=l) (P:=fun p=>p∈ps.map Prod.fst) Φ add zero (fun g p hg hP hi k=>by
  obtain⟨x,hx,ex⟩:=List.mem_map.mp hP;have pd:p∣(n:Int):=by rw[<-ex];exact((Pt.n9 h.hp x).mp hx).2.1
  refine h.kill hx ?_ k;rw[ex];exact inv g p pd hg hi) (l:=l) (fun z hz=>h.pc hz) (fun z hz=>by rw[<-h.map];exact dF.mpr ⟨z.1,dF.mpr ⟨z,hz,Z⟩,Z⟩) hf k
 have e:Φ f=fun x=>Φ (fun y=>f y-R n l f y) x+Φ (R n l f) x:=by
  rw[<-add];congr 1;funext y;lia
 rw[e,xQ,gone,dD]
theorem oF.turn (h:oF n ps l){f:Int->Int}(hf:Ld.uC n f)(yo:Int):R n l (fun x=>f (x-yo))=R n l (fun x=>R n l f (x-yo)) :=
 h.Ud (fun g x=>g (x-yo)) (fun _ _=>Z) (fun _=>Z) (fun g p _ _ hi k t=>by
  show g (k+t*((n:Int)/p)-yo)=g (k-yo)
  rw[show k+t*((n:Int)/p)-yo=k-yo+t*((n:Int)/p) by lia,hi]) hf
theorem OI {n:Nat}:∀{l:List ((Int×Int)×Int)}{B:Nat}{f:Int->Int},(∀k,(f k).natAbs<=B)->∀k,(R n l f k).natAbs<=2^l.length*B
 | [],B,f,h,k=>by simp only[R,List.length_nil,Nat.pow_zero,Nat.one_mul];exact h k
 | z::l,B,f,h,k=>by
  simp only[R,List.length_cons];have:=OI (n:=n) (l:=l) (B:=2*B) (f:=E n z.1.1 z.1.2 z.2 f) (fun k=>by
   unfold E;have a:=h k;have b:=h (dl n z.1.1 z.1.2 z.2 k);omega) k
  rw[dE,gn];exact this
theorem Jg {n:Nat}{ps:List (Int×Int)}(hp:Parts n ps){x:Int×Int}(hx:x∈ps):∃v:Int,1<=v/\v<x.2/\v*((n:Int)/x.2)%x.2=1:=by
 obtain⟨_,_,_,_,q2,_⟩:=Rs.mE hp hx;have g:=Rs.zf hp hx;have eq:((x.2.toNat:Nat):Int)=x.2:=bU J;obtain⟨v,hv⟩:=Ld.LQ (st:=(n:Int)/x.2) (n:=x.2.toNat) J (by rw[eq];exact g);rw[eq] at hv;have one:(1:Int)%x.2=1:=aU O J;rw[one] at hv;have h0:=aD v (show x.2≠0 by lia);have h1:=az v (show 0<x.2 by lia);have e:(v%x.2)*((n:Int)/x.2)%x.2=1:=by
  rw[<-hv,aB ((n:Int)/x.2) v,gu,aW _ (cT _),<-gu]
 refine⟨v%x.2,?_,h1,e⟩;rcases Int.lt_or_le (v%x.2) 1 with z | z
 .have:v%x.2=0:=J;rw[this,aY,d8] at e;lia
 .exact z
theorem JT {n q u:Int}(hq:2<=q)(h:u*(n/q)%q=1):(n/q*u-1)%q=0:=by
 have one:(1:Int)%q=1:=aU O J;exact aL.mp (by rw[aB,h,one])
variable {ps:List (Int×Int)}{l:List ((Int×Int)×Int)}{f:Int->Int}
def low (p q u k:Int):Int:=(k*u%q)%(q/p)
def fw (p q u j k:Int):Int:=if low p q u j=low p q u k then (if top p q u k=top p q u j then 1 else if top p q u k=p-1 then -1 else 0) else 0
def V:List ((Int×Int)×Int)->Int->Int->Int
 | [],_,_=>1
 | z::l,j,k=>fw z.1.1 z.1.2 z.2 j k*V l j k
theorem BE:∀(l:List ((Int×Int)×Int))(z:(Int×Int)×Int)(j k:Int),V (l++[z]) j k=V l j k*fw z.1.1 z.1.2 z.2 j k
 | [],z,j,k=>by simp[V]
 | y::l,z,j,k=>by
  show fw y.1.1 y.1.2 y.2 j k*V (l++[z]) j k=fw y.1.1 y.1.2 y.2 j k*V l j k*fw z.1.1 z.1.2 z.2 j k
  rw[BE l z,aK]
theorem F0 (p q u j k:Int):fw p q u j k=0\/fw p q u j k=1\/fw p q u j k=-1:=by
 unfold fw;split
 .split
  .exact .inr (.inl Z)
  .split
   .exact .inr (.inr Z)
   .exact .inl Z
 .exact .inl Z
theorem vz:∀(l:List ((Int×Int)×Int))(j k:Int),V l j k=0\/V l j k=1\/V l j k=-1
 | [],_,_=>.inr (.inl Z)
 | z::l,j,k=>by
  have a:=F0 z.1.1 z.1.2 z.2 j k;have b:=vz l j k;show fw z.1.1 z.1.2 z.2 j k*V l j k=0\/fw z.1.1 z.1.2 z.2 j k*V l j k=1\/fw z.1.1 z.1.2 z.2 j k*V l j k=-1
  rcases a with a | a | a<;>rcases b with b | b | b<;>rw[a,b]<;>decide
section
variable {n:Nat}{p q u:Int}
theorem Pc.sr (h:Pc n p q u)(k:Int):k*u%q=low p q u k+(q/p)*top p q u k:=by
 unfold low top;exact(Int.emod_add_mul_ediv _ _).symm
theorem Pc.Fj (h:Pc n p q u)(k t:Int):low p q u (k+t*((n:Int)/p))=low p q u k:=by
 obtain⟨m,em,EW,m1⟩:=h.m;unfold low;rw[h.step,EW];have d:m∣q:=⟨p,by rw[em,aB]⟩;rw[aW _ d,aW _ d,eU]
theorem Pc.GL (h:Pc n p q u)(k:Int):low p q u (dl n p q u k)=low p q u k:=h.Fj k _
theorem Pc.C8 (h:Pc n p q u)(j k:Int):(j*u%q=k*u%q)↔(low p q u j=low p q u k/\top p q u j=top p q u k):=by
 constructor
 .intro e;unfold low top;rw[e];exact⟨rfl,rfl⟩
 .rintro⟨a,b⟩;rw[h.sr,h.sr,a,b]
theorem Pc.yA (h:Pc n p q u)(j k:Int):(j*u%q=k*u%q)↔q∣k-j:=by
 obtain⟨c,e,e1,e2⟩:=h.YE;have d:q∣c*u-1:=by have:=bO h.le;rwa [e1] at this
 constructor
 .intro z;have z1:q∣k*u-j*u:=bO (aL.mp z.symm);have z2:q∣(k-j)*(c*u):=by
   rw[show (k-j)*(c*u)=(k*u-j*u)*c by rw[<-cN,aK,aB c u]];exact aE z1
  have z3:q∣(k-j)*(c*u-1):=ax d;have:k-j=(k-j)*(c*u)-(k-j)*(c*u-1):=by rw[cM,bV];lia
  rw[this];exact aZ z2 z3
 .intro z;refine(aL.mpr (bP ?_)).symm;rw[<-cN];exact aE z
theorem Pc.KJ (h:Pc n p q u){j:Int}(t:¬top p q u j=p-1)(k:Int):fw p q u j k=(if q∣k-j then 1 else 0)-(if q∣k-dl n p q u j then 1 else 0):=by
 have a:(q∣k-j)↔(low p q u j=low p q u k/\top p q u j=top p q u k):=(h.yA j k).symm.trans (h.C8 j k);have b:(q∣k-dl n p q u j)↔(low p q u j=low p q u k/\p-1=top p q u k):=by
  have:=(h.yA (dl n p q u j) k).symm.trans (h.C8 (dl n p q u j) k);rwa [h.GL,h.y4] at this
 unfold fw
 by_cases l:low p q u j=low p q u k
 .rw[aC l]
  by_cases e:top p q u k=top p q u j
  .rw[aC e,aC (a.mpr ⟨l,e.symm⟩),ak (fun z=>t (by rw[<-e];exact(b.mp z).2.symm))];rfl
  .rw[ak e,ak (fun z=>e (a.mp z).2.symm)]
   by_cases g:top p q u k=p-1
   .rw[aC g,aC (b.mpr ⟨l,g.symm⟩)];rfl
   .rw[ak g,ak (fun z=>g (b.mp z).2.symm)];rfl
 .rw[ak l,ak (fun z=>l (a.mp z).1),ak (fun z=>l (b.mp z).1)];rfl
theorem Gi {p':Int}(d:q∣(n:Int)/p')(k t:Int):(k+t*((n:Int)/p'))*u%q=k*u%q:=by
 obtain⟨c,e⟩:=d;rw[e,eD,show t*(q*c)*u=q*(t*c*u) by rw[<-aK t q c,aB t q,aK,aK,aK],de]
theorem EI {p':Int}(d:q∣(n:Int)/p')(k t:Int):low p q u (k+t*((n:Int)/p'))=low p q u k:=by unfold low;rw[Gi d]
theorem Hc {p':Int}(d:q∣(n:Int)/p')(j t k:Int):fw p q u (j+t*((n:Int)/p')) k=fw p q u j k:=by unfold fw;rw[EI d,rZ d]
end
theorem C9 {n:Nat}{p':Int}:∀{l:List ((Int×Int)×Int)},(∀z∈l,z.1.2∣(n:Int)/p')->∀j t k:Int,V l (j+t*((n:Int)/p')) k=V l j k
 | [],_,_,_,_=>rfl
 | z::l,h,j,t,k=>by
  show fw z.1.1 z.1.2 z.2 (j+t*((n:Int)/p')) k*V l (j+t*((n:Int)/p')) k=fw z.1.1 z.1.2 z.2 j k*V l j k
  rw[Hc (h z av),C9 (fun y hy=>h y (ar _ hy))]
def X:List ((Int×Int)×Int)->Int->Int->Int
 | [],_,_=>1
 | z::l,j,k=>(if z.1.2∣k-j then 1 else 0)*X l j k
theorem KP:∀(l:List ((Int×Int)×Int))(j k:Int),X l j k=if (∀z∈l,z.1.2∣k-j) then 1 else 0
 | [],j,k=>by simp[X]
 | z::l,j,k=>by
  show (if z.1.2∣k-j then 1 else 0)*X l j k=_
  rw[KP l]
  by_cases a:z.1.2∣k-j
  .by_cases b:∀z∈l,z.1.2∣k-j
   .rw[aC a,aC b,aC (fun y hy=>by rcases List.mem_cons.mp hy with e | e;rw[e];exact a;exact b y e)];rfl
   .rw[aC a,ak b,ak (fun y=>b fun x hx=>y x (ar _ hx))];rfl
  .rw[ak a,aY,ak (show ¬∀y∈z::l,y.1.2∣k-j from fun y=>a (y z av))]
theorem Dr {n:Nat}{p':Int}:∀{l:List ((Int×Int)×Int)},(∀z∈l,z.1.2∣(n:Int)/p')->∀j t k:Int,X l (j+t*((n:Int)/p')) k=X l j k
 | [],_,_,_,_=>rfl
 | z::l,h,j,t,k=>by
  show (if z.1.2∣k-(j+t*((n:Int)/p')) then 1 else 0)*X l (j+t*((n:Int)/p')) k=(if z.1.2∣k-j then 1 else 0)*X l j k
  rw[Dr (fun y hy=>h y (ar _ hy))];congr 1;have d:z.1.2∣t*((n:Int)/p'):=ax (h z av)
  by_cases c:z.1.2∣k-j
  .rw[aC c,aC (by rw[show k-(j+t*((n:Int)/p'))=(k-j)-t*((n:Int)/p') by lia];exact aZ c d)]
  .rw[ak c,ak (fun z=>c (by rw[show k-j=(k-(j+t*((n:Int)/p')))+t*((n:Int)/p') by lia];exact bQ z d))]
theorem oF.dv {n:Nat}(h:oF n ps l){j k:Int}(d:∀z∈l,z.1.2∣k-j):(n:Int)∣k-j:=by
 have:=Rs.CY (t:=k-j) h.hp.row h.hp.srt (fun x hx=>by
  rw[<-h.map] at hx;obtain⟨z,hz,e⟩:=List.mem_map.mp hx;rw[<-e];exact d z hz)
 rwa [h.hp.prd] at this
theorem oF.Xn {n:Nat}(h:oF n ps l)(j k:Int):X l j k=if (n:Int)∣k-j then 1 else 0:=by
 rw[KP]
 by_cases c:(n:Int)∣k-j
 .rw[aC c,aC (fun z hz=>bB (h.pc hz).qn c)]
 .rw[ak c,ak (fun d=>c (h.dv d))]
theorem Vd {n:Nat}(hn:1<=n)(hf:Ld.uC n f)(j:Int):Ld.S n (fun k=>f k*(if (n:Int)∣k-j then 1 else 0))=f j:=by
 have j0:=aD j (show (n:Int)≠0 by lia);have j1:=az j (show 0<(n:Int) by lia);have e:Ld.S n (fun k=>f k*(if (n:Int)∣k-j then 1 else 0))=Ld.S n (fun k=>if k=j%n then f k else 0):=Ld.jO fun k hk=>by
  by_cases c:((k:Nat):Int)=j%n
  .rw[aC c,aC (by rw[c];exact bO (by rw[eJ,aW _ (cT _),cv];rfl)),bV]
  .rw[ak c,ak,bu];intro z;refine c ?_;have:=aL.mpr (bP z);rwa [aU J J] at this
 rw[e,Ld.AK j0,aC j1,hf.md]
theorem oF.RC {n:Nat}(h:oF n ps l){i j:Nat}{y z:(Int×Int)×Int}(ne:i≠j)(ei:l[i]?=some y)(ej:l[j]?=some z):y.1.2∣(n:Int)/z.1.1:=by
 have pw:=cV.mp h.nd;obtain⟨hi,Y8⟩:=List.getElem?_eq_some_iff.mp ei;obtain⟨hj,Y9⟩:=List.getElem?_eq_some_iff.mp ej;have my:y.1∈ps:=by rw[<-h.map];exact dF.mpr ⟨y,ah ei,Z⟩
 have mz:z.1∈ps:=by rw[<-h.map];exact dF.mpr ⟨z,ah ej,Z⟩
 refine BR h.hp my mz ?_;rcases Nat.lt_or_ge i j with g | g
 .have:=pw i j hi hj g;rwa [Y8,Y9] at this
 .have:=pw j i hj hi J;rw[Y8,Y9] at this;exact fun e=>this e.symm
theorem oF.OG {n:Nat}(h:oF n ps l)(hf:Ld.uC n f):∀i:Nat,i<=l.length->∀j:Int,(∀z∈l.take i,¬top z.1.1 z.1.2 z.2 j=z.1.1-1)->R n (l.take i) f j=Ld.S n (fun k=>f k*(V (l.take i) j k*X (l.drop i) j k)):=by
 intro i
 induction i with
 | zero =>
  intro _ j _;rw[jA,List.drop_zero];show f j=_
  rw[<-Vd h.n1 hf j];refine Ld.jO fun k _=>?_;show _=f k*(1*X l j k)
  rw[h.Xn,cQ]
 | succ i ih =>
  intro il j hj;have ei:l[i]?=some l[i]:=aA J;have et:l.take (i+1)=l.take i++[l[i]]:=Pt.take_snoc ei;have ed:l.drop i=l[i]::l.drop (i+1):=ig J;have pc:=h.pc (cm (by lia:i<l.length));have tz:¬top l[i].1.1 l[i].1.2 l[i].2 j=l[i].1.1-1:=hj _ (by rw[et];exact bp _ jB);have ca:∀y∈l.take i,y.1.2∣(n:Int)/l[i].1.1:=fun y hy=>by
   obtain⟨a,ha,ea⟩:=List.mem_iff_getElem.mp hy;rw[cJ] at ha;rw[gY] at ea;exact h.RC (i:=a) (j:=i) J (by rw[<-ea];exact aA J) ei
  have cb:∀y∈l.drop (i+1),y.1.2∣(n:Int)/l[i].1.1:=fun y hy=>by
   obtain⟨a,ha,ea⟩:=List.mem_iff_getElem.mp hy;rw[cC] at ha;rw[List.getElem_drop] at ea;exact h.RC (i:=i+1+a) (j:=i) J (by rw[<-ea];exact aA J) ei
  have RU:∀z∈l.take i,¬top z.1.1 z.1.2 z.2 j=z.1.1-1:=fun z hz=>hj z (by rw[et];exact cD _ hz);generalize l[i]=z at *;have e1:=ih J j RU;have e2:=ih J (dl n z.1.1 z.1.2 z.2 j) fun y hy=>by unfold dl;rw[rZ (ca y hy)];exact RU y hy
  rw[et,Cw];show R n (l.take i) f j-R n (l.take i) f (dl n z.1.1 z.1.2 z.2 j)=_
  rw[e1,e2,ed];have key:∀k:Int,f k*(V (l.take i) j k*X (z::l.drop (i+1)) j k)=f k*(V (l.take i++[z]) j k*X (l.drop (i+1)) j k)+f k*(V (l.take i) (dl n z.1.1 z.1.2 z.2 j) k*X (z::l.drop (i+1)) (dl n z.1.1 z.1.2 z.2 j) k):=fun k=>by
   rw[BE,pc.KJ tz];show f k*(V (l.take i) j k*((if z.1.2∣k-j then 1 else 0)*X (l.drop (i+1)) j k))=_+f k*(V (l.take i) (dl n z.1.1 z.1.2 z.2 j) k*((if z.1.2∣k-dl n z.1.1 z.1.2 z.2 j then 1 else 0)*X (l.drop (i+1)) (dl n z.1.1 z.1.2 z.2 j) k))
   have x1:X (l.drop (i+1)) (dl n z.1.1 z.1.2 z.2 j) k=X (l.drop (i+1)) j k:=by unfold dl;exact Dr cb _ _ _
   have x2:V (l.take i) (dl n z.1.1 z.1.2 z.2 j) k=V (l.take i) j k:=by unfold dl;exact C9 ca _ _ _
   rw[x1,x2,<-eZ];congr 1;rw[aK,<-eZ,<-eD];congr 2;lia
  have s:=Ld.jO (n:=n) (F:=fun k=>f k*(V (l.take i) j k*X (z::l.drop (i+1)) j k)) (G:=fun k=>f k*(V (l.take i++[z]) j k*X (l.drop (i+1)) j k)+f k*(V (l.take i) (dl n z.1.1 z.1.2 z.2 j) k*X (z::l.drop (i+1)) (dl n z.1.1 z.1.2 z.2 j) k)) (fun k _=>key k);rw[Ld.mj] at s;lia
theorem oF.wsum {n:Nat}(h:oF n ps l)(hf:Ld.uC n f){j:Int}(hj:∀z∈l,¬top z.1.1 z.1.2 z.2 j=z.1.1-1):R n l f j=Ld.S n (fun k=>f k*V l j k):=by
 have:=h.OG hf l.length (aH _) j (by rw[bT];exact hj);rw[bT,jp] at this;rw[this];exact Ld.jO fun k _=>by show f k*(V l j k*1)=_;rw[bV]
variable {ps:List (Int×Int)}
section
variable {n:Nat}{p q u:Int}
theorem Pc.ON (h:Pc n p q u)(k:Int):0<=k*u%q/\k*u%q<q:=⟨aD _ (by have:=h.q2;lia),az _ (by have:=h.q2;lia)⟩
theorem Pc.Jy (h:Pc n p q u)(j:Int):q-q/p+(j*u%q)%(q/p)=dl n p q u j*u%q:=by
 obtain⟨m,em,EW,m1⟩:=h.m;rw[h.sr (dl n p q u j),h.GL,h.y4];show q-q/p+low p q u j=low p q u j+q/p*(p-1)
 rw[EW,cM,bV];have:m*p=q:=by rw[em,aB]
 lia
theorem Pc.MP (h:Pc n p q u){j:Int}(t:¬top p q u j=p-1)(k:Int):(if k*u%q=q-q/p+(j*u%q)%(q/p) then (-1:Int) else if k*u%q=j*u%q then 1 else 0)=fw p q u j k:=by
 rw[h.Jy,h.KJ t];have a:=h.yA j k;have b:=h.yA (dl n p q u j) k;have ab:¬(q∣k-j/\q∣k-dl n p q u j):=fun z=>t (by
  have e1:=((h.C8 j k).mp (a.mpr z.1)).2;have e2:=((h.C8 (dl n p q u j) k).mp (b.mpr z.2)).2;rw[h.y4] at e2;rw[e1,e2])
 by_cases c:q∣k-dl n p q u j
 .rw[aC (b.mpr c).symm,aC c,ak (fun z=>ab ⟨z,c⟩)];rfl
 .rw[ak (fun z=>c (b.mp z.symm)),ak c]
  by_cases d:q∣k-j
  .rw[aC (a.mpr d).symm,aC d];rfl
  .rw[ak (fun z=>d (a.mp z.symm)),ak d];rfl
end
theorem oF.ex {n:Nat}(hn:1<=n)(hp:Parts n ps):∃l,oF n ps l:=by
 have key:∀qs:List (Int×Int),(∀x∈qs,x∈ps)->∃l:List ((Int×Int)×Int),l.map Prod.fst=qs/\∀z∈l,((n:Int)/z.1.2*z.2-1)%z.1.2=0:=by
  intro qs
  induction qs with
  | nil=>intro _;exact⟨[],Z,jB⟩
  | cons x r ih =>
   intro h;obtain⟨l,e,hl⟩:=ih fun y hy=>h y (List.mem_cons_of_mem _ hy);have hx:=h x av;obtain⟨v,v1,v2,hv⟩:=Jg hp hx;obtain⟨_,_,_,_,q2,_⟩:=Rs.mE hp hx;refine⟨(x,v)::l,by rw[cZ,e],fun z hz=>?_⟩;rcases List.mem_cons.mp hz with w | w
   .rw[w];exact JT q2 hv
   .exact hl z w
 obtain⟨l,e,hl⟩:=key ps fun _ h=>h;exact⟨l,hn,hp,e,hl⟩
def Kp (l:List ((Int×Int)×Int))(k:Int):Prop:=∀z∈l,¬top z.1.1 z.1.2 z.2 k=z.1.1-1
instance (l:List ((Int×Int)×Int))(k:Int):Decidable (Kp l k):=by unfold Kp;infer_instance
def hs (n:Nat):List Int:=(List.range n).map fun (i:Nat)=>(i:Int)
theorem MS (n:Nat):(hs n).length=n:=by simp[hs]
theorem LS {n:Nat}{k:Int}:k∈hs n↔0<=k/\k<n:=by
 unfold hs;constructor
 .intro h;obtain⟨i,hi,e⟩:=List.mem_map.mp h;have:=dX.mp hi;lia
 .intro h;exact dF.mpr ⟨k.toNat,dX.mpr J,J⟩
def om (n:Nat)(l:List ((Int×Int)×Int)):List Int:=(hs n).filter fun k=>decide (Kp l k)
theorem vt {n:Nat}{l:List ((Int×Int)×Int)}{k:Int}:k∈om n l↔(0<=k/\k<n)/\Kp l k:=by
 unfold om;rw[hE,LS,fG]
theorem tW (n:Nat)(l:List ((Int×Int)×Int)):(om n l).length<=n:=bR (List.length_filter_le _ _) (iz (MS n))
theorem IZ {n:Nat}(hp:Parts n ps){x:Int×Int}(hx:x∈ps){u v:Int}(hu:((n:Int)/x.2*u-1)%x.2=0)(hv:((n:Int)/x.2*v-1)%x.2=0)(k:Int):k*u%x.2=k*v%x.2:=by
 obtain⟨_,_,_,_,q2,_⟩:=Rs.mE hp hx;exact Rs.y7 (Rs.tQ hp hx) (Rs.wj J hu) (Rs.wj J hv) zfQ
theorem Kt (F:Int->Int)(a:Nat):∀b:Nat,Ld.S (a+b) F=Ld.S a F+Ld.S b (fun i=>F (a+i))
 | 0=>by show Ld.S a F=Ld.S a F+0;lia
 | b+1=>by
  show Ld.S (a+b) F+F ((a+b:Nat):Int)=Ld.S a F+(Ld.S b (fun i=>F (a+i))+F (a+b))
  rw[Kt F a b,hZ];lia
theorem HF {st:Nat}(t5:0<st){s:Int}(s0:0<=s)(s1:s<st)(G:Int->Int):∀p:Nat,Ld.S (p*st) (fun k=>if (k-s)%st=0 then G k else 0)=Ld.S p (fun t=>G (s+t*st))
 | 0=>by rw[Nat.zero_mul];rfl
 | p+1=>by
  rw[f9,Kt,HF t5 s0 s1 G p];show _=Ld.S p (fun t=>G (s+t*st))+G (s+p*st)
  congr 1;have e:Ld.S st (fun i=>if (((p*st:Nat):Int)+i-s)%st=0 then G (((p*st:Nat):Int)+i) else 0)=Ld.S st (fun i=>if i=s then G (((p*st:Nat):Int)+i) else 0):=Ld.jO fun i hi=>by
   have em:(((p*st:Nat):Int)+(i:Int)-s)%st=((i:Int)-s)%st:=by
    rw[aO,show (p:Int)*st+i-s=(i-s)+st*p by rw[aB];lia,de]
   rw[em]
   by_cases c:(i:Int)=s
   .rw[aC c,aC (by rw[c,cv];rfl)]
   .rw[ak c,ak];intro z;obtain⟨d,hd⟩:=Int.dvd_of_emod_eq_zero z;have d0:d=0:=by
     rcases Int.lt_trichotomy d 0 with g | g | g
     .have:=ay (show d<=-1 by lia) (show 0<=(st:Int) by lia);lia
     .exact g
     .have:=ay (show 1<=d by lia) (show 0<=(st:Int) by lia);lia
    rw[d0,bu] at hd;lia
  rw[e,Ld.AK (G:=fun i=>G (((p*st:Nat):Int)+i)) s0,aC s1,aO,Int.add_comm]
theorem oF.OU {n:Nat}{ps:List (Int×Int)}{l:List ((Int×Int)×Int)}(h:oF n ps l){j:Int}(hj:Kp l j){p st:Nat}(hp:((p:Nat):Int)∈ps.map Prod.fst)(t5:0<st)(e:n=p*st){s:Int}(s0:0<=s)(s1:s<st):Ld.S p (fun t=>V l j (s+t*st))=0:=by
 rw[<-HF t5 s0 s1 (V l j) p,<-e];have n1:=h.n1;have p0:0<p:=by rcases Nat.eq_zero_or_pos p with z | z;(rw[z,Nat.zero_mul] at e;lia);exact z
 have Bi:(n:Int)/p=st:=by rw[e,aO];exact aG _ J
 have Iy:Ld.uC n (Rg.rv n ((p:Int),s,1)):=fun x y exy=>by
  unfold Rg.rv;show (if (x-s)%((n:Int)/p)=0 then (1:Int) else 0)=if (y-s)%((n:Int)/p)=0 then 1 else 0
  rw[Bi];have d:(st:Int)∣n:=⟨p,by rw[e,aO,aB]⟩;have:x%st=y%st:=by rw[<-aW x d,exy,aW y d]
  rw[eJ,this,<-eJ]
 have k:=h.yl (rows:=[((p:Int),s,1)]) (fun t ht=>by rw[b3.mp ht];exact hp) j;have er:Rg.BI n [((p:Int),s,1)]=Rg.rv n ((p:Int),s,1):=funext fun x=>by unfold Rg.BI;simp
 rw[er,h.wsum Iy hj] at k;refine Eq.trans (Ld.jO (G:=fun k=>Rg.rv n ((p:Int),s,1) k*V l j k) fun i _=>?_) k;unfold Rg.rv;show _=(if ((i:Int)-s)%((n:Int)/p)=0 then (1:Int) else 0)*V l j i
 rw[Bi]
 by_cases c:((i:Int)-s)%st=0
 .rw[aC c,aC c,cQ]
 .rw[ak c,ak c,aY]
theorem Op (n:Nat)(p q u:Int)(f:Int->Int)(m k:Int):E n p q u (fun x=>f x*m) k=E n p q u f k*m:=by unfold E;dsimp only;rw[Int.sub_mul]
theorem KG (n:Nat)(m:Int):∀(l:List ((Int×Int)×Int))(f:Int->Int)(k:Int),R n l (fun x=>f x*m) k=R n l f k*m
 | [],f,k=>rfl
 | z::l,f,k=>by
  simp only[R];have:E n z.1.1 z.1.2 z.2 (fun x=>f x*m)=fun x=>E n z.1.1 z.1.2 z.2 f x*m:=funext fun x=>Op n _ _ _ f m x;rw[this,KG n m l]
def Zn (n:Nat)(l:List ((Int×Int)×Int))(f:Int->Int):Prop:=∀x,R n l f x=0
end Rt
namespace Rx
open Lt
open Mx
theorem PZ {s a b W:Int}(h1:s∣a*W)(h2:s∣b*W):s∣Eh.G a b*W:=by
 have h:=ju h1 h2;rw[Int.gcd_mul_right,aO] at h;unfold Eh.G;rcases Int.natAbs_eq W with e | e
 .rw[e];exact h
 .rw[e,fJ];exact(d6).mpr h
structure Gc (steps:List (List Int))(i:Nat)(c:Int):Prop where
 nn:0<=c
 dv:∀j,j<i->c∣g (steps.getD j []) 0
 of:∀s W:Int,(∀j,j<i->s∣g (steps.getD j []) 0*W)->s∣c*W
theorem Gc.start (steps:List (List Int)):Gc steps 0 0:=⟨dW 0,fun j hj=>by lia,fun s W _=>by rw[aY];exact bi s⟩
theorem Gc.step {steps:List (List Int)}{i:Nat}{c:Int}(h:Gc steps i c):Gc steps (i+1) (Eh.G c (g (steps.getD i []) 0)):=by
 refine⟨Eh.FG ..,fun j hj=>?_,fun s W hs=>?_⟩
 .rcases Nat.lt_succ_iff_lt_or_eq.mp hj with z | z
  .exact bB (Int.gcd_dvd_left ..) (h.dv j z)
  .rw[z];exact Int.gcd_dvd_right ..
 .exact PZ (h.of s W fun j hj=>hs j J) (hs i J)
end Rx
namespace Rs
theorem Lk {a b d:Int}(h:Eh.G a b=1)(d1:1<=d)(da:d∣a)(db:d∣b):d=1:=by
 have e:=ju da db;unfold Eh.G at h;rw[h] at e;have:=aT O e;lia
end Rs
namespace Ct
variable {n:Nat}{l:List ((Int×Int)×Int)}{a W:List Int}{bs:List (List Int)}{ps:List (Int×Int)}
open Rt
open Lt
def kr (n:Nat)(l:List ((Int×Int)×Int))(a:List Int):List Int:=(om n l).map fun h=>R n l (Ld.at' a) h
theorem sJ:(kr n l a).length=(om n l).length:=aa ..
theorem Li {c:Nat}(hc:c<(om n l).length):g (kr n l a) c=R n l (Ld.at' a) (g (om n l) c) :=
 Rx.lJ (by unfold kr;rw[List.getElem?_map,Rx.lL hc];rfl)
theorem P4 {c:Nat}(hc:c<(om n l).length):(0<=g (om n l) c/\g (om n l) c<n)/\Kp l (g (om n l) c):=vt.mp (Rx.nV hc)
def KD (a:List Int)(bs:List (List Int))(cs:List Int)(i:Nat):Int->Int:=fun x=>Ld.at' a x+Ld.S i fun j=>g cs j.toNat*Ld.at' (bs.getD j.toNat []) x
theorem Yw (n:Nat)(l:List ((Int×Int)×Int))(F:Int->Int->Int)(x:Int):∀m:Nat,R n l (fun y=>Ld.S m fun j=>F j y) x=Ld.S m fun j=>R n l (F j) x
 | 0=>wn n l (fun _=>Z) x
 | m+1=>by
  have e:(fun y=>Ld.S (m+1) fun j=>F j y)=fun y=>(Ld.S m fun j=>F j y)+F m y:=funext fun y=>Z;rw[e,xQ,Yw n l F x m];rfl
theorem PJ {cs:List Int}{i:Nat}(x:Int):R n l (KD a bs cs i) x=R n l (Ld.at' a) x+Ld.S i fun j=>g cs j.toNat*R n l (Ld.at' (bs.getD j.toNat [])) x:=by
 unfold KD;rw[xQ,Yw n l (fun j y=>g cs j.toNat*Ld.at' (bs.getD j.toNat []) y)];congr 1;refine Ld.jO fun j _=>?_;have e:(fun y=>g cs (j:Int).toNat*Ld.at' (bs.getD (j:Int).toNat []) y)=fun y=>Ld.at' (bs.getD (j:Int).toNat []) y*g cs (j:Int).toNat:=funext fun y=>aB ..;rw[e,KG,aB]
theorem IJ (h:oF n ps l)(n1:1<=n){f:Int->Int}(hf:Ld.uC n f)(z:∀c,c<(om n l).length->R n l f (g (om n l) c)=0):Zn n l f:=fun x=>by
 have Iy:Ld.uC n (R n l f):=KR (fun z hz=>h.pc hz) hf;rw[<-Iy.md];have x0:=aD x (show (n:Int)≠0 by lia);have x1:=az x (show 0<(n:Int) by lia)
 by_cases k:Kp l (x%n)
 .obtain⟨c,hc,e⟩:=List.getElem_of_mem (vt.mpr ⟨⟨x0,x1⟩,k⟩);have:=z c hc;rwa [Rx.lJ (aA hc),e] at this
 .have ⟨z',hz,tz⟩:∃z∈l,top z.1.1 z.1.2 z.2 (x%n)=z.1.1-1:=aV fun no=>k fun z hz tz=>no ⟨z,hz,tz⟩;exact h.drop hz f _ tz
theorem way (h:oF n ps l)(n1:1<=n)(la:a.length=n)(lb:∀b∈bs,b.length=n){cs:List Int}
 (hw:Rx.Jh (om n l).length (bs.map (kr n l)) (Ld.scaled (kr n l a) (-1)) cs):Zn n l (KD a bs cs bs.length):=by
  refine IJ h n1 ?_ fun c hc=>?_
  · intro x y e
    unfold KD;rw[Ld.oB la x y e];congr 1;refine Ld.jO fun j hj=>?_;rw[Ld.oB (lb _ (by rw[ae];exact Rx.lh hj)) x y e]
  · rw[PJ]
    have e:=hw c hc;rw[aa] at e;have e2:g (Ld.scaled (kr n l a) (-1)) c=-R n l (Ld.at' a) (g (om n l) c):=Rx.lJ (by
      unfold Ld.scaled;rw[af,Rx.lL (by rw[sJ];exact hc),Li hc];exact cU some (jv _))
    rw[e2] at e;have e3:(Ld.S bs.length fun j=>g cs j.toNat*g ((bs.map (kr n l)).getD j.toNat []) c)=Ld.S bs.length fun j=>g cs j.toNat*R n l (Ld.at' (bs.getD j.toNat [])) (g (om n l) c):=Ld.jO fun j hj=>by
      rw[ae,ao,af,Rx.ma hj,jw,jq,Li hc]
    rw[<-e3,e];lia
def aw (n:Nat)(l:List ((Int×Int)×Int))(W:List Int)(i:Nat):Int->Int:=fun k=>Ld.S i fun c=>V l (g (om n l) c.toNat) k*g W c.toNat
theorem HG (h:oF n ps l)(la:a.length=n)(lW:W.length=(om n l).length):(Ld.S n fun k=>Ld.at' a k*aw n l W (om n l).length k)=Rx.dot (kr n l a) W:=by
 rw[Rx.n5 sJ lW];have e:(Ld.S n fun k=>Ld.at' a k*aw n l W (om n l).length k)=Ld.S n fun k=>Ld.S (om n l).length fun c=>Ld.at' a k*V l (g (om n l) c.toNat) k*g W c.toNat:=Ld.jO fun k _=>by
  unfold aw;rw[<-Ld.kg];exact Ld.jO fun c _=>(aK ..).symm
 rw[e,Ld.mP];refine Ld.jO fun c hc=>?_;rw[ae,Ld.qo,Li hc,h.wsum (Ld.oB la) (P4 hc).2]
theorem IK (h:oF n ps l){p st:Nat}(hp:((p:Nat):Int)∈ps.map Prod.fst)(t5:0<st)(e:n=p*st){s:Int}(s0:0<=s)(s1:s<st):Ld.S p (fun t=>aw n l W (om n l).length (s+t*st))=0:=by
 unfold aw;rw[Ld.mP];have z:(Ld.S (om n l).length fun c=>Ld.S p fun t=>V l (g (om n l) c.toNat) (s+t*st)*g W c.toNat)=Ld.S (om n l).length fun _=>0:=Ld.jO fun c hc=>by
  rw[ae,Ld.qo,h.OU (P4 hc).2 hp t5 e s0 s1,aY]
 rw[z,Ld.mQ]
theorem Jj {v:List Int}{w:Nat}(lv:v.length=w)(lW:W.length=w):Rx.dot (Ld.scaled v (-1)) W=-Rx.dot v W:=by
 have e:(fun i:Int=>-1*(g v i.toNat*g W i.toNat))=fun i:Int=>-1*(g v i.toNat*g W i.toNat):=Z;rw[Rx.n5 (by unfold Ld.scaled;rw[List.length_map];exact lv) lW,Rx.n5 lv lW,show (-Ld.S w fun i=>g v i.toNat*g W i.toNat)=-1*Ld.S w fun i=>g v i.toNat*g W i.toNat by lia,<-Ld.kg];refine Ld.jO fun i hi=>?_;rw[ae,Rx.lJ (l:=Ld.scaled v (-1)) (v:=g v i * -1) (by unfold Ld.scaled;rw[List.getElem?_map,Rx.lL J];rfl),Int.mul_comm (g v i),Int.mul_assoc]
theorem bar (h:oF n ps l)(la:a.length=n)(lb:∀b∈bs,b.length=n){s:Int}(lW:W.length=(om n l).length)
 (hb:Rx.Iq (bs.map (kr n l)) (Ld.scaled (kr n l a) (-1)) W s){AW:List Int}(lA:AW.length=n)(ha:∀k:Nat,k<n->Ld.at' AW k=aw n l W (om n l).length k):(∀b∈bs,s∣Rx.dot b AW)/\¬s∣Rx.dot a AW:=by
  have key:∀{b:List Int},b.length=n->Rx.dot b AW=Rx.dot (kr n l b) W:=fun {b} l'=>by
    rw[<-HG h l' lW,Rx.n5 l' lA];refine Ld.jO fun k hk=>?_;rw[ae,<-ha k hk,<-Ld.pK (Rx.lL (show k<b.length by lia)),<-Ld.pK (Rx.lL (show k<AW.length by lia))]
  refine⟨fun b hm=>?_,fun d=>hb.2 ?_⟩
  · obtain⟨j,hj,e⟩:=List.getElem_of_mem hm
    have z:=hb.1 j (by rw[aa];exact hj);rw[ao,af,aA hj,jw,jq,e] at z;rw[key (lb b hm)];exact z
  · rw[Jj sJ lW,<-key la]
    exact d6.mpr d
theorem VT:(List.range 10).all (fun k=>Rx.Rw k (2^34) (2^216))=true:=by decide +kernel
theorem OT {n:Nat}{l:List ((Int×Int)×Int)}{W:List Int}{i M:Nat}(h:i<=60)(hb:∀c,c<i->(g W c).natAbs<2^M)(k:Int):(aw n l W i k).natAbs<2^(M+6):=by
 unfold aw;have b:=Mx.xA (k:=i) (F:=fun c=>V l (g (om n l) c.toNat) k*g W c.toNat) (B:=((2^M:Nat):Int)) fun c hc=>by
  rw[ae,aM];have:=hb c hc;have v:(V l (g (om n l) c) k).natAbs<=1:=by rcases vz l (g (om n l) c) k with z | z | z<;>rw[z]<;>decide
  have:=cI v (d5 this);rw[Nat.one_mul] at this;exact Int.ofNat_le.mpr this
 rw[<-aO] at b;have b':=Int.ofNat_le.mp b;have p:0<2^M:=Nat.two_pow_pos M;have e:2^(M+6)=2^M*64:=by rw[gK]
 have:=cS (2^M) h;rw[e];omega
theorem Kg {n:Nat}{ps:List (Int×Int)}{l:List ((Int×Int)×Int)}(h:oF n ps l)(n2:n<=420){a:List Int}{B:Nat}(ha:∀x∈a,x.natAbs<=B):∀z∈kr n l a,z.natAbs<=2^8*B:=fun z hz=>by
 unfold kr at hz;obtain⟨k,_,rfl⟩:=List.mem_map.mp hz;refine bR (OI (fun k=>Ld.PP (B:=B) ha k) k) (cS _ (bS O ?_));have:=xS h.hp n2;rw[<-h.map,aa] at this;exact this
end Ct
namespace L2
open PySem PySem.Spec PyProof.Rows PySem.W
def Oi (qual:Str)(a:Addr):HO:=.ext fun h=>h.CodeRec (.ref a) qual
def xm (P:Addr)(pos:Pos)(qual:Str)(H:Hp):Prop :=
 H P=some (.tbl #[])\/∃c:Addr,H P=some (.tbl #[rawInt pos.line,rawInt pos.col,.ref c])/\H c=some (Oi qual c)
def zU (P:Addr)(H H':Hp):Prop:=∀b o,b≠P->H b=some o->H' b=some o
theorem zU.of {P:Addr}{H H':Hp}(h:jM H H'):zU P H H':=fun b o _ e=>h b o e
theorem zU.trans {P:Addr}{H H1 H2:Hp}(a:zU P H H1)(b:zU P H1 H2):zU P H H2:=fun c o n e=>b c o n (a c o n e)
theorem xm.same {P:Addr}{pos:Pos}{qual:Str}{H H':Hp}(l:xm P pos qual H)(h:jM H H'):xm P pos qual H':=by
 rcases l with l | ⟨c,l1,l2⟩
 .exact .inl (h _ _ l)
 .exact .inr ⟨c,h _ _ l1,h _ _ l2⟩
theorem xm.ne {P a:Addr}{pos:Pos}{qual:Str}{H:Hp}{xs:List V}(l:xm P pos qual H)(h:H a=some (.lst xs)):a≠P:=fun e=>by
 subst e;rcases l with l | ⟨c,l,_⟩<;>· rw[h] at l;cases l
structure UC (mg:Str->Option Value)(base:Heap)(c P:Addr):Prop where
 code:CodeHd base c P
 blt:base.BuiltinsAt mg P
 ng:mainGlobals≠P
section
variable {H:Hp}{l a P:Addr}{qual:Str}{pos:Pos}{e:Expr}
theorem xm.tab {P:Addr}{pos:Pos}{qual:Str}{H:Hp}(l:xm P pos qual H):∃ps,H P=some (.tbl ps):=by
 rcases l with l | ⟨_,l,_⟩
 .exact⟨_,l⟩
 .exact⟨_,l⟩
theorem zU.seq {K:PySem.W.Frag}{P a:Addr}{H H':Hp}{xs:List V}(e:zU P H H')(l:∃ps,H P=some (.tbl ps))(h:jV K H a xs):jV K H' a xs:=by
 obtain⟨ps,l⟩:=l;have ne:∀o,H a=some o->o≠.tbl ps->a≠P:=fun o e1 n z=>by
  subst z;rw[e1] at l;exact n (bI l)
 rcases h with (h | ⟨o,h⟩) | h
 .exact .inl (.inl (e _ _ (ne _ h (fun z=>nomatch z)) h))
 .exact .inl (.inr ⟨o,e _ _ (ne _ h (fun z=>nomatch z)) h⟩)
 .exact .inr h
end
theorem HE {K:PySem.W.Frag}{a:Addr}{xs:List V}{g:TG}{tc:TT}{te:TE}{kW:St}{H:Hp}{Q:VK}(Pv:Nat->List V->Hp->Prop)(h0:Pv 0 [] H)(hl:∀i ys H,i<=xs.length->Pv i ys H->kJ K H a xs)(hz:∀i ys H,i<xs.length->Pv i ys H->ys.length<sizeLine)
  (hs:∀i x ys H,xs[i]?=some x->Pv i ys H->g x kW H fun mK H2=>tc mK H2 fun b H3=>if b=true then te mK H3 fun y H4=>Pv (i+1) (ys++[y]) H4 else Pv (i+1) ys H3)(hd:∀ys H,Pv xs.length ys H->∀D,H D=none->Q (.ref D) (upd H D (.lst ys))) :
  mS (Ul K a) g tc te kW Q H:=by
 refine⟨fun i m ys H=>m=xs.length-i/\i<=xs.length/\Pv i ys H,⟨xs.length,jB,Nat.zero_le _,h0⟩,?_⟩;rintro i m ys H ⟨rfl,hi,p⟩;have q:=hl i ys H hi p
 by_cases pB:i<xs.length
 .refine .inr ⟨⟨xs,xs[i],q,by simp[pB]⟩,hz i ys H pB p,Pv (i+1),fun M5 H' p'=>⟨xs.length-(i+1),jD,Z,pB,p'⟩,fun x H' y=>?_⟩;obtain⟨e,y⟩:=y;subst e;exact hs i x ys _ (y xs q) p
 .have e:i=xs.length:=jD;subst e;exact .inl ⟨⟨xs,q,aH _⟩,hd ys H p⟩
structure Lb (K:PySem.W.Frag)(mg:Str->Option Value)(base:Heap)(x:Str)(cc tT:Addr):Prop where
 kb:K.In base
 nb:base.Ns mainGlobals mg
 tb:tabIn K x=some (cc,tT)
 lb:UC mg base cc tT
theorem zU.free {T:Addr}{H H':Hp}(e:zU T H H')(t:∃ps,H' T=some (.tbl ps)){l:Addr}(h:H' l=none):H l=none:=by
 cases q:H l with
 | none=>rfl
 | some o =>
  have ne:l≠T:=fun z=>by obtain⟨ps,t⟩:=t;rw[<-z,h] at t;cases t
  rw[e l o ne q] at h;cases h
theorem zU.lst {T:Addr}{H H':Hp}{r:Addr}{xs:List V}(e:zU T H H')(t:∃ps,H T=some (.tbl ps))(h:H r=some (.lst xs)):H' r=some (.lst xs):=by
 obtain⟨ps,t⟩:=t;exact e _ _ (fun z=>by rw[z,t] at h;cases h) h
theorem zU.same {T:Addr}{H H1 H2:Hp}(a:zU T H H1)(b:jM H1 H2):zU T H H2:=a.trans (.of b)
theorem zU.upd {T:Addr}{H H':Hp}{r:Addr}{o:HO}(e:zU T H H')(h:H r=none):zU T H (upd H' r o):=fun b u n q=>by rw[jW (jX q h)];exact e b u n q
theorem xm.upd {T r:Addr}{pos:Pos}{qual:Str}{H:Hp}{xs ys:List V}(l:xm T pos qual H)(h:H r=some (.lst xs)):xm T pos qual (upd H r (.lst ys)):=by
 rcases l with l | ⟨c,l1,l2⟩
 .exact .inl (by rw[jW (fun z=>by rw[<-z,l] at h;cases h)];exact l)
 .refine .inr ⟨c,by rw[jW (fun z=>by rw[<-z,l1] at h;cases h)];exact l1,?_⟩;rw[jW (fun z=>by rw[<-z,l2] at h;cases h)];exact l2
end L2
namespace K38
variable {l:PySem.W.OpenLaw}
open PySem L2
def top (i:Nat):Stmt:=PySem.Challenge.pw_evenhub_k38_blocks_or_a_bar.main.body.getD i (.Pass ⟨0,0,0,0⟩)
abbrev ua:Stmt:=top 8
theorem BS:jS ["one","other","great","small","left"] ["one","other"] (jP ua):=⟨Z,Z,Z,L,Z,L,L⟩
abbrev zv:Stmt:=top 9
theorem G4:jS ["one","other"] ["one","other"] (jP zv):=⟨Z,Z,Z,L,Z,L,L⟩
abbrev vH:Stmt:=top 10
theorem Ek:jS ["one","other","bits","rests","counts","turn"] ["one","other","bits"] (jP vH):=⟨Z,Z,Z,L,Z,L,L⟩
abbrev rz:Stmt:=top 11
theorem zt:jS ["pair","turn"] ["pair","turn"] (jP rz):=⟨Z,Z,Z,L,Z,L,L⟩
abbrev rL:Stmt:=top 12
theorem zd:jS ["rests","bits","length","behind","turn"] ["rests","bits"] (jP rL):=⟨Z,Z,Z,L,Z,L,L⟩
abbrev rS:Stmt:=top 13
theorem zq:jS ["rest","later_rest","turn","many","new_rest","further","doubt"] ["rest","later_rest"] (jP rS):=⟨Z,Z,Z,L,Z,L,L⟩
abbrev Cn:Stmt:=top 15
theorem Ju:jS ["n","hole","weight","outcome"] ["n","hole","weight"] (jP Cn):=⟨Z,Z,Z,L,Z,L,L⟩
abbrev Cb:Stmt:=top 16
theorem IX:jS ["one","other"] ["one","other"] (jP Cb):=⟨Z,Z,Z,L,Z,L,L⟩
abbrev rF:Stmt:=top 17
theorem yw:jS ["one","other"] ["one","other"] (jP rF):=⟨Z,Z,Z,L,Z,L,L⟩
abbrev vJ:Stmt:=top 18
theorem Ec:jS ["load","many"] ["load","many"] (jP vJ):=⟨Z,Z,Z,L,Z,L,L⟩
abbrev yQ:Stmt:=top 20
theorem G8:jS ["n","found","left","p","q"] ["n"] (jP yQ):=⟨Z,Z,Z,L,Z,L,L⟩
abbrev pQ:Stmt:=top 21
theorem vE:jS ["n","p","q"] ["n","p"] (jP pQ):=⟨Z,Z,Z,L,Z,L,L⟩
abbrev Cj:Stmt:=top 22
theorem Jv:jS ["step","n","told"] ["step","n"] (jP Cj):=⟨Z,Z,Z,L,Z,L,L⟩
abbrev sV:Stmt:=top 24
theorem A1:jS ["load","p","hole","many","place"] ["load","p","hole","many"] (jP sV):=⟨Z,Z,Z,L,Z,L,L⟩
abbrev qA:Stmt:=top 25
theorem xi:jS ["n","p","hole","step"] ["n","p","hole"] (jP qA):=⟨Z,Z,Z,L,Z,L,L⟩
abbrev zc:Stmt:=top 27
theorem Fw:jS ["n","q","hole"] ["n","q","hole"] (jP zc):=⟨Z,Z,Z,L,Z,L,L⟩
abbrev uB:Stmt:=top 28
theorem BW:jS ["n","hole"] ["n","hole"] (jP uB):=⟨Z,Z,Z,L,Z,L,L⟩
abbrev oi:Stmt:=top 29
theorem ut:jS ["p","q"] ["p","q"] (jP oi):=⟨Z,Z,Z,L,Z,L,L⟩
abbrev BD:Stmt:=top 30
theorem IG:jS ["n"] ["n"] (jP BD):=⟨Z,Z,Z,L,Z,L,L⟩
abbrev Cd:Stmt:=top 31
theorem IS:jS ["load","n","left","rows","p","q","hole","many"] ["load"] (jP Cd):=⟨Z,Z,Z,L,Z,L,L⟩
abbrev uM:Stmt:=top 32
theorem Cf:jS ["n","p","q","lead"] ["n","p","q"] (jP uM):=⟨Z,Z,Z,L,Z,L,L⟩
abbrev ur:Stmt:=top 34
theorem BJ:jS ["load","weights"] ["load","weights"] (jP ur):=⟨Z,Z,Z,L,Z,L,L⟩
abbrev sH:Stmt:=top 35
theorem Ba:jS ["n","hole","outcome","p","q","factors","lead"] ["n","hole"] (jP sH):=⟨Z,Z,Z,L,Z,L,L⟩
abbrev oe:Stmt:=top 36
theorem uu:jS ["p","q","kept_share","step","factors"] ["p","q","kept_share"] (jP oe):=⟨Z,Z,Z,L,Z,L,L⟩
abbrev zE:Stmt:=top 37
theorem GF:jS ["load","told","hole","weight"] ["load"] (jP zE):=⟨Z,Z,Z,L,Z,L,L⟩
abbrev wN:Stmt:=top 40
theorem Ef:jS ["things","places"] ["things","places"] (jP wN):=⟨Z,Z,Z,L,Z,L,L⟩
abbrev vT:Stmt:=top 41
theorem EH:jS ["size","places","numbers","outcome","place","number"] ["size","places","numbers"] (jP vT):=⟨Z,Z,Z,L,Z,L,L⟩
abbrev uL:Stmt:=top 42
theorem Cz:jS ["rows"] ["rows"] (jP uL):=⟨Z,Z,Z,L,Z,L,L⟩
abbrev rJ:Stmt:=top 43
theorem yN:jS ["rows","column"] ["rows","column"] (jP rJ):=⟨Z,Z,Z,L,Z,L,L⟩
abbrev uh:Stmt:=top 44
theorem BF:jS ["steps","prime","found","number","step","left","column"] ["steps","prime"] (jP uh):=⟨Z,Z,Z,L,Z,L,L⟩
abbrev uE:Stmt:=top 45
theorem Cp:jS ["step","found","prime","left","number","column","row"] ["step","found","prime"] (jP uE):=⟨Z,Z,Z,L,Z,L,L⟩
abbrev o6:Stmt:=top 46
theorem u7:jS ["row","column","number"] ["row"] (jP o6):=⟨Z,Z,Z,L,Z,L,L⟩
abbrev sS:Stmt:=top 47
theorem AV:jS ["row","many","other","modulus"] ["row","many","other","modulus"] (jP sS):=⟨Z,Z,Z,L,Z,L,L⟩
abbrev pU:Stmt:=top 48
theorem vY:jS ["row","many","modulus"] ["row","many","modulus"] (jP pU):=⟨Z,Z,Z,L,Z,L,L⟩
abbrev pP:Stmt:=top 49
theorem wq:jS ["rows","modulus","size","left","column","lead"] ["rows","modulus"] (jP pP):=⟨Z,Z,Z,L,Z,L,L⟩
abbrev vW:Stmt:=top 50
theorem EO:jS ["rows","undoing","modulus","goal","rests","told","left","scale","many","count","more"] ["rows","undoing","modulus","goal"] (jP vW):=⟨Z,Z,Z,L,Z,L,L⟩
abbrev p4:Stmt:=top 51
theorem vP:jS ["rows","goal","told"] ["rows","goal","told"] (jP p4):=⟨Z,Z,Z,L,Z,L,L⟩
abbrev rO:Stmt:=top 52
theorem zD:jS ["rests","scale","bits","bottom","number"] ["rests","scale"] (jP rO):=⟨Z,Z,Z,L,Z,L,L⟩
abbrev oV:Stmt:=top 53
theorem u6:jS ["number","scale","bits"] ["number","scale","bits"] (jP oV):=⟨Z,Z,Z,L,Z,L,L⟩
abbrev uv:Stmt:=top 54
theorem BO:jS ["number","scale","rest"] ["number","scale"] (jP uv):=⟨Z,Z,Z,L,Z,L,L⟩
abbrev yI:Stmt:=top 57
theorem Hq:jS ["steps","goal","prime","told"] ["steps","goal"] (jP yI):=⟨Z,Z,Z,L,Z,L,L⟩
abbrev qF:Stmt:=top 58
theorem xu:jS ["number","found"] ["number"] (jP qF):=⟨Z,Z,Z,L,Z,L,L⟩
abbrev sy:Stmt:=top 59
theorem Bb:jS ["steps","goal","told"] ["steps","goal","told"] (jP sy):=⟨Z,Z,Z,L,Z,L,L⟩
abbrev vX:Stmt:=top 60
theorem Ew:jS ["steps","counts","size","outcome","step","many"] ["steps","counts","size"] (jP vX):=⟨Z,Z,Z,L,Z,L,L⟩
abbrev nW:Stmt:=top 61
theorem tR:jS ["steps","bar","number","step"] ["steps","bar"] (jP nW):=⟨Z,Z,Z,L,Z,L,L⟩
abbrev uc:Stmt:=top 62
theorem Ch:jS ["modulus","number"] ["modulus","number"] (jP uc):=⟨Z,Z,Z,L,Z,L,L⟩
abbrev vF:Stmt:=top 63
theorem EQ:jS ["steps","goal","prime","frame","column","told","weights"] ["steps","goal","prime"] (jP vF):=⟨Z,Z,Z,L,Z,L,L⟩
abbrev og:Stmt:=top 64
theorem t6:jS ["steps","frame","goal_made","others","told","number"] ["steps","frame","goal_made"] (jP og):=⟨Z,Z,Z,L,Z,L,L⟩
abbrev pY:Stmt:=top 65
theorem vL:jS ["others","steps","frame","goal_made","modulus","number","made","rows","goal","leads","left","column","lead","taken","spared","counts"] ["others","steps","frame","goal_made"] (jP pY):=⟨Z,Z,Z,L,Z,L,L⟩
abbrev oX:Stmt:=top 66
theorem u8:jS ["made","modulus"] ["made","modulus"] (jP oX):=⟨Z,Z,Z,L,Z,L,L⟩
abbrev sA:Stmt:=top 67
theorem AN:jS ["rows","size","modulus","leads","number","row"] ["rows","size","modulus"] (jP sA):=⟨Z,Z,Z,L,Z,L,L⟩
abbrev uN:Stmt:=top 68
theorem B5:jS ["leads","row","modulus","outcome","left","column","lead","told","many"] ["leads","row","modulus"] (jP uN):=⟨Z,Z,Z,L,Z,L,L⟩
abbrev yM:Stmt:=top 69
theorem Gy:jS ["one","many","other","more","modulus"] ["one","many","other","more","modulus"] (jP yM):=⟨Z,Z,Z,L,Z,L,L⟩
abbrev ud:Stmt:=top 70
theorem B2:jS ["leads","column","modulus","amounts","place","lead","later"] ["leads","column","modulus"] (jP ud):=⟨Z,Z,Z,L,Z,L,L⟩
abbrev rA:Stmt:=top 71
theorem zy:jS ["frame","amounts","told"] ["frame","amounts"] (jP rA):=⟨Z,Z,Z,L,Z,L,L⟩
abbrev uf:Stmt:=top 74
theorem Co:jS ["load","blocks","block","n","holes","told"] ["load","blocks"] (jP uf):=⟨Z,Z,Z,L,Z,L,L⟩
abbrev rM:Stmt:=top 75
theorem zh:jS ["load","holes","left"] ["load","holes"] (jP rM):=⟨Z,Z,Z,L,Z,L,L⟩
abbrev oj:Stmt:=top 76
theorem uH:jS ["n","holes","weights","outcome","hole","many"] ["n","holes","weights"] (jP oj):=⟨Z,Z,Z,L,Z,L,L⟩
abbrev pR:Stmt:=top 78
theorem vQ:jS ["script","k"] ["script","k"] (jP pR):=⟨Z,Z,Z,L,Z,L,L⟩
abbrev rK:Stmt:=top 79
theorem yH:jS ["found"] ["found"] (jP rK):=⟨Z,Z,Z,L,Z,L,L⟩
abbrev pV:Stmt:=top 80
theorem wy:jS ["found","many"] ["found","many"] (jP pV):=⟨Z,Z,Z,L,Z,L,L⟩
abbrev ue:Stmt:=top 81
theorem B4:jS ["row","weights","total","one","many"] ["row","weights"] (jP ue):=⟨Z,Z,Z,L,Z,L,L⟩
abbrev ww:Stmt:=top 82
theorem D5:jS ["number","modulus"] ["number","modulus"] (jP ww):=⟨Z,Z,Z,L,Z,L,L⟩
abbrev qG:Stmt:=top 83
theorem xl:jS ["n","found","p"] ["n"] (jP qG):=⟨Z,Z,Z,L,Z,L,L⟩
abbrev sG:Stmt:=top 84
theorem Ak:jS ["n","rows","load","p","hole","many","k","at"] ["n","rows"] (jP sG):=⟨Z,Z,Z,L,Z,L,L⟩
abbrev pX:Stmt:=top 85
theorem wK:jS ["found","n","row"] ["found","n"] (jP pX):=⟨Z,Z,Z,L,Z,L,L⟩
abbrev sC:Stmt:=top 86
theorem As:jS ["load","told"] ["load"] (jP sC):=⟨Z,Z,Z,L,Z,L,L⟩
abbrev uA:Stmt:=top 87
theorem BP:jS ["found","load","blocks","total","block","many"] ["found","load","blocks"] (jP uA):=⟨Z,Z,Z,L,Z,L,L⟩
abbrev uI:Stmt:=top 88
theorem BQ:jS ["found","load","blocks","n","p","hole","block"] ["found","load","blocks"] (jP uI):=⟨Z,Z,Z,L,Z,L,L⟩
abbrev rT:Stmt:=top 89
theorem yL:jS ["n","cell","most","block","k","number","at"] ["n","cell","most"] (jP rT):=⟨Z,Z,Z,L,Z,L,L⟩
abbrev Fk:Stmt:=top 90
theorem FY:jS ["script","n","many","most","blocks","share_v","great","load","k","at","handed","aim","found"] ["script"] (jP Fk):=⟨Z,Z,Z,L,Z,L,L⟩
abbrev qx:Stmt:=inClass (top 39) 0
theorem sj:jS ["self","steps","size","prime"] ["self","steps","size","prime"] (jP qx):=⟨Z,Z,Z,L,Z,L,L⟩
abbrev oI:Stmt:=inClass (top 39) 1
theorem qS:jS ["self","goal"] ["self","goal"] (jP oI):=⟨Z,Z,Z,L,Z,L,L⟩
abbrev oM:Stmt:=inClass (top 39) 2
theorem qV:jS ["self","goal"] ["self","goal"] (jP oM):=⟨Z,Z,Z,L,Z,L,L⟩
abbrev ol:Stmt:=inClass (top 39) 3
theorem p7:jS ["self","amounts","told"] ["self","amounts"] (jP ol):=⟨Z,Z,Z,L,Z,L,L⟩
structure Txt (K:PySem.W.Frag)(mg:Str->Option Value)(CF:Addr)(tL:Tok)(tF:Tok)(tM:Tok):Prop where
 g_LEAD_BITS:mg "LEAD_BITS"=some (.int 128 tL)
 g_FIRST_PRIME:mg "FIRST_PRIME"=some (.int 1000000007 tF)
 g_MOST_HOLES_COUNTERED:mg "MOST_HOLES_COUNTERED"=some (.int 60 tM)
 c_Frame:mg "Frame"=some (.ref CF)
 d_divisor:Dn K mg "divisor" ua ["one","other"]
 d_joint:Dn K mg "joint" zv ["one","other"]
 d_euclid:Dn K mg "euclid" vH ["one","other","bits"]
 d_turned_on:Dn K mg "turned_on" rz ["pair","turn"]
 d_next_turn:Dn K mg "next_turn" rL ["rests","bits"]
 d_sure_turn:Dn K mg "sure_turn" rS ["rest","later_rest"]
 d_hung:Dn K mg "hung" Cn ["n","hole","weight"]
 d_plus:Dn K mg "plus" Cb ["one","other"]
 d_check_fit:Dn K mg "check_fit" rF ["one","other"]
 d_scaled:Dn K mg "scaled" vJ ["load","many"]
 d_parts:Dn K mg "parts" yQ ["n"]
 d_prime_power:Dn K mg "prime_power" pQ ["n","p"]
 d_back:Dn K mg "back" Cj ["step","n"]
 d_lay_ring:Dn K mg "lay_ring" sV ["load","p","hole","many"]
 d_ring_holes:Dn K mg "ring_holes" qA ["n","p","hole"]
 d_share:Dn K mg "share" zc ["n","q","hole"]
 d_is_kept:Dn K mg "is_kept" uB ["n","hole"]
 d_first_dropped:Dn K mg "first_dropped" oi ["p","q"]
 d_kept:Dn K mg "kept" BD ["n"]
 d_rest:Dn K mg "rest" Cd ["load"]
 d_dropped:Dn K mg "dropped" uM ["n","p","q"]
 d_weighed:Dn K mg "weighed" ur ["load","weights"]
 d_weighing:Dn K mg "weighing" sH ["n","hole"]
 d_part_weighing:Dn K mg "part_weighing" oe ["p","q","kept_share"]
 d_paper:Dn K mg "paper" zE ["load"]
 d_picked:Dn K mg "picked" wN ["things","places"]
 d_spread:Dn K mg "spread" vT ["size","places","numbers"]
 d_flipped:Dn K mg "flipped" uL ["rows"]
 d_column_of:Dn K mg "column_of" rJ ["rows","column"]
 d_corners:Dn K mg "corners" uh ["steps","prime"]
 d_cleared:Dn K mg "cleared" uE ["step","found","prime"]
 d_first_filled:Dn K mg "first_filled" o6 ["row"]
 d_lessened:Dn K mg "lessened" sS ["row","many","other","modulus"]
 d_taken_times:Dn K mg "taken_times" pU ["row","many","modulus"]
 d_undone_rows:Dn K mg "undone_rows" pP ["rows","modulus"]
 d_solved:Dn K mg "solved" vW ["rows","undoing","modulus","goal"]
 d_is_solution:Dn K mg "is_solution" p4 ["rows","goal","told"]
 d_fractions:Dn K mg "fractions" rO ["rests","scale"]
 d_least_bottom:Dn K mg "least_bottom" oV ["number","scale","bits"]
 d_centred:Dn K mg "centred" uv ["number","scale"]
 d_reach:Dn K mg "reach" yI ["steps","goal"]
 d_next_prime:Dn K mg "next_prime" qF ["number"]
 d_is_shown:Dn K mg "is_shown" sy ["steps","goal","told"]
 d_summed:Dn K mg "summed" vX ["steps","counts","size"]
 d_first_unbarred:Dn K mg "first_unbarred" nW ["steps","bar"]
 d_divides:Dn K mg "divides" uc ["modulus","number"]
 d_sought:Dn K mg "sought" vF ["steps","goal","prime"]
 d_sought_within:Dn K mg "sought_within" og ["steps","frame","goal_made"]
 d_sought_with:Dn K mg "sought_with" pY ["others","steps","frame","goal_made"]
 d_whole_counts:Dn K mg "whole_counts" oX ["made","modulus"]
 d_leads_of:Dn K mg "leads_of" sA ["rows","size","modulus"]
 d_entered:Dn K mg "entered" uN ["leads","row","modulus"]
 d_mixed:Dn K mg "mixed" yM ["one","many","other","more","modulus"]
 d_barring:Dn K mg "barring" ud ["leads","column","modulus"]
 d_inner_bar:Dn K mg "inner_bar" rA ["frame","amounts"]
 d_counter:Dn K mg "counter" uf ["load","blocks"]
 d_kept_rest:Dn K mg "kept_rest" rM ["load","holes"]
 d_all_weighings:Dn K mg "all_weighings" oj ["n","holes","weights"]
 d_law_cell_at:Dn K mg "_law_cell_at" pR ["script","k"]
 d_law_whole:Dn K mg "_law_whole" rK ["found"]
 d_law_numbers:Dn K mg "_law_numbers" pV ["found","many"]
 d_law_sum:Dn K mg "_law_sum" ue ["row","weights"]
 d_law_by:Dn K mg "_law_by" ww ["number","modulus"]
 d_law_primes:Dn K mg "_law_primes" qG ["n"]
 d_law_laid:Dn K mg "_law_laid" sG ["n","rows"]
 d_law_rows_of:Dn K mg "_law_rows_of" pX ["found","n"]
 d_law_even:Dn K mg "_law_even" sC ["load"]
 d_law_way:Dn K mg "_law_way" uA ["found","load","blocks"]
 d_law_bar:Dn K mg "_law_bar" uI ["found","load","blocks"]
 d_law_block:Dn K mg "_law_block" rT ["n","cell","most"]
 cl_Frame:Ft K CF
 na_size:nM K CF "size"
 na_prime:nM K CF "prime"
 na_found:nM K CF "found"
 na_chosen:nM K CF "chosen"
 na_columns:nM K CF "columns"
 na_rows:nM K CF "rows"
 na_modulus:nM K CF "modulus"
 na_undoing:nM K CF "undoing"
 m_Frame_init:Kn K mg CF "Frame" "Frame.__init__" qx ["self","steps","size","prime"]
 m_Frame_missed:Mn K CF "missed" "Frame.missed" oI ["self","goal"]
 m_Frame_counts:Mn K CF "counts" "Frame.counts" oM ["self","goal"]
 m_Frame_weights:Mn K CF "weights" "Frame.weights" ol ["self","amounts"]
 b_len:mg "len"=none
 b_isinstance:mg "isinstance"=none
 b_int:mg "int"=none
 b_bool:mg "bool"=none
 b_list:mg "list"=none
 b_tuple:mg "tuple"=none
 b_range:mg "range"=none
 b_min:mg "min"=none
 b_max:mg "max"=none
 b_abs:mg "abs"=none
 b_zip:mg "zip"=none
 b_all:mg "all"=none
 b_enumerate:mg "enumerate"=none
 b_sum:mg "sum"=none
section
variable {r:Addr}{as:List Addr}{l:List Int}{m:Int}{rows:List (List Int)}
variable {CF:Addr}{tL tF tM:Tok}{P:Program}{w:World}{K:PySem.W.Frag}{mg:Str->Option Value}{base:Heap}
inductive DK (K:PySem.W.Frag)(vs:List V)(H:Hp)(Q:VK)(E_:XK):Prop
 | mk (a:Addr)(ns:List Int)(_:vs=[.ref a])(_:jV K H a (ns.map V.int))(_:ns.length<=63)(_:∀H',Q (.bl true) H')
inductive L9 (vs:List V)(H:Hp)(Q:VK)(E_:XK):Prop
 | mk (m:Nat)(h w:Int)(_:vs=[.int m,.int h,.int w])(_:1<=m)(_:m<=420)(_:∀r H',jM H H'->H r=none->H' r=some (.lst ((Ld.LG m h w).map V.int))->Q (.ref r) H')
theorem vw (T:Txt K mg CF tL tF tM):Df P w K mg base 1 "hung" ["n","hole","weight"] L9:=by
 refine kN T.d_hung Ju fun f cdv A outer s H vs Q E hr nd h=>?_;obtain⟨m,x,v,rfl,m1,m2,q⟩:=h;refine⟨_,(jE (j8 3 nd (jR oS (lD (kD jH)) (pv 0))) (jE (oY (pv 2) (oR (pv 3) (jR ky (pv 1) (pv 0)) set_list)) (jJ (jT (pv 3))))),?_⟩;refine⟨jL,fun l hl=>⟨_,Z,l,_,_,Z,Z,jG,jD,jD,(by show 1*_<=_;exact mW jD),fun p hp=>?_⟩⟩;have lp:l≠p:=jX jG hp;have Xv:H p=none:=by rwa [jW (c7 lp)] at hp
 rw[rep0];refine⟨_,Z,_,Z,_,Z,_,Z,_,_,Z,Z,jD,p,_,_,_,Z,Z,jG,zC (wo jB) jD x,?_⟩;refine⟨_,Z,q p _ (ku (ku (ku (jM.refl H) hl) Xv) Xv) Xv ?_⟩;rw[jG,set_int];rfl
inductive Ow (K:PySem.W.Frag)(vs:List V)(H:Hp)(Q:VK)(E_:XK):Prop
 | mk (a b:Addr)(xs ys:List V)(_:vs=[.ref a,.ref b])(_:jV K H a xs)(_:jV K H b ys)(_:xs.length=ys.length)(_:Q .non H)
theorem qB (T:Txt K mg CF tL tF tM):Df P w K mg base 1 "check_fit" ["one","other"] (Ow K):=by
 refine kN T.d_check_fit yw fun f cdv A outer s H vs Q E hr nd h=>?_;obtain⟨a,b,xs,ys,rfl,ha,hb,e,q⟩:=h;refine⟨_,(jJ (kP (k7 n8 (nI T.b_len (pv 0)) (nI T.b_len (pv 1))) (jJ wb) kh)),?_⟩;refine⟨_,Z,a,_,Z,.inl ha,_,Z,b,_,Z,.inl hb,Z,_,Z,?_⟩;refine mM (fun c=>?_) (fun c=>q);exact MA c (by rw[e])
inductive JS (vs:List V)(H:Hp)(Q:VK)(E_:XK):Prop
 | mk (r1 r2:Addr)(x y a b c d:Int)(N:Nat)(_:vs=[.ref r1,.ref r2])(_:H r1=some (.tup [.int x,.int y]))(_:H r2=some (.tup [.int a,.int b,.int c,.int d]))(_:N<=9000)(_:x.natAbs<2^N/\y.natAbs<2^N/\a.natAbs<2^N/\b.natAbs<2^N/\c.natAbs<2^N/\d.natAbs<2^N)(_:∀t,H t=none->Q (.ref t) (upd H t (.tup [.int (a*x+b*y),.int (c*x+d*y)])))
theorem tK (T:Txt K mg CF tL tF tM):Df P w K mg base 1 "turned_on" ["pair","turn"] JS:=by
 refine kN T.d_turned_on zt fun f cdv A outer s H vs Q E hr nd h=>?_;obtain⟨r1,r2,x,y,a,b,c,d,N,rfl,h1,h2,hN,⟨fx,fy,fa,fb,fc,fd'⟩,q⟩:=h;have p0:lY [V.int x,V.int y] 0=some (.int x):=Z;have p1:lY [V.int x,V.int y] 1=some (.int y):=Z;have t0:lY [V.int a,V.int b,V.int c,V.int d] 0=some (.int a):=Z;have t1:lY [V.int a,V.int b,V.int c,V.int d] 1=some (.int b):=Z;have t2:lY [V.int a,V.int b,V.int c,V.int d] 2=some (.int c):=Z;have t3:lY [V.int a,V.int b,V.int c,V.int d] 3=some (.int d):=Z;refine⟨_,(jJ (jT (lI (ke (jR kG (jR ko (j9 jZ (pv 1) jH) (j9 jZ (pv 0) jH)) (jR ko (j9 jZ (pv 1) jH) (j9 jZ (pv 0) jH))) (jR kG (jR ko (j9 jZ (pv 1) jH) (j9 jZ (pv 0) jH)) (jR ko (j9 jZ (pv 1) jH) (j9 jZ (pv 0) jH))))))),?_⟩;refine⟨_,Z,r2,_,_,_,Z,Z,kJ.of h2,t0,_,Z,r1,_,_,_,Z,Z,kJ.of h1,p0,_,_,Z,Z,rR fa fx J,_,Z,r2,_,_,_,Z,Z,kJ.of h2,t1,_,Z,r1,_,_,_,Z,Z,kJ.of h1,p1,_,_,Z,Z,rR fb fy J,_,_,Z,Z,?_⟩;exact⟨_,Z,r2,_,_,_,Z,Z,kJ.of h2,t2,_,Z,r1,_,_,_,Z,Z,kJ.of h1,p0,_,_,Z,Z,rR fc fx J,_,Z,r2,_,_,_,Z,Z,kJ.of h2,t3,_,Z,r1,_,_,_,Z,Z,kJ.of h1,p1,_,_,Z,Z,rR fd' fy J,_,_,Z,Z,jI,q⟩
theorem sW {i j:Int}{N:Nat}(h0:0<j)(h:j.natAbs<2^N)(hN:N<=9000):Gm i j:=by
 refine⟨h0,?_⟩;have:=(g6 (show j.natAbs≠0 by lia)).mpr h;lia
theorem GE {u v d:Int}(h:d=if (if v<0 then -v else v) > (if u<0 then -u else u) then (if v<0 then -v else v) else (if u<0 then -u else u)):(u.natAbs:Int)<=d/\(v.natAbs:Int)<=d:=by
 have hv:(if v<0 then -v else v)=v.natAbs:=by split<;>lia
 have hu:(if u<0 then -u else u)=u.natAbs:=by split<;>lia
 rw[hv,hu] at h;split at h<;>lia
inductive LK (vs:List V)(H:Hp)(Q:VK)(E_:XK):Prop
 | mk (A B:Int)(h N:Nat)(_:vs=[.int (A/2^h),.int (B/2^h)])(_:0<=A)(_:0<B)(_:1<=N)(_:N<=9000)(_:A<2^N)(_:B<2^N)(_:∀t H' (x y z w:Int),jM H H'->H' t=some (.tup [.int x,.int y,.int z,.int w])->Eb.Tn A B x y z w->((x=1/\y=0/\z=0/\w=1)\/2^h<=z*A+w*B)->(x.natAbs<2^N/\y.natAbs<2^N/\z.natAbs<2^N/\w.natAbs<2^N)->Q (.ref t) H')
theorem zJ (T:Txt K mg CF tL tF tM):Df P w K mg base 1 "sure_turn" ["rest","later_rest"] LK:=by
 refine kN T.d_sure_turn zq fun f cdv A outer s H vs Q E hr nd h=>?_;obtain⟨A0,B0,hh,N,rfl,a0,b0,N1,N2,fA,fB,q⟩:=h;obtain⟨HH,RV⟩:∃HH:Int,HH=2^hh:=⟨_,Z⟩;obtain⟨W,hW⟩:∃W:Nat,W=2^N:=⟨_,Z⟩;have H1:1<=HH:=by rw[RV];exact fL O
 have W2:2<=W:=by rw[hW];exact bS (n:=2) O N1
 have fA':A0<W:=by rw[hW];exact_mod_cast fA
 have fB':B0<W:=by rw[hW];exact_mod_cast fB
 rw[<-RV];have eA:A0=A0/HH*HH+A0%HH:=by have:=bK A0 HH;rw[aB] at this;lia
 have eB:B0=B0/HH*HH+B0%HH:=by have:=bK B0 HH;rw[aB] at this;lia
 have mA0:=aD A0 (show HH≠0 by lia);have mA1:=az A0 (show 0<HH by lia);have mB0:=aD B0 (show HH≠0 by lia);have mB1:=az B0 (show 0<HH by lia);have da0:=cG a0 (show 0<=HH by lia);have db0:=cG (show 0<=B0 by lia) (show 0<=HH by lia);have da1:=b8 (a:=A0) HH a0;have db1:=b8 (a:=B0) HH J;generalize A0/HH=a at *;generalize B0/HH=b at *;refine⟨_,(jE (j8 2 nd (lI (jF jH (jF jH (jF jH (jF jH j5)))))) (jE (mF aI (k7 n8 (pv 1) jH) (jE (j8 3 nd (jR kq (pv 0) (pv 1))) (jE (j8 4 nd (jR mU (pv 0) (jR ko (pv 3) (pv 1)))) (jE (j8 5 nd (lI (jF (j9 jZ (pv 2) jH) (jF (j9 jZ (pv 2) jH) (jF (jR mU (j9 jZ (pv 2) jH) (jR ko (pv 3) (j9 jZ (pv 2) jH))) (jF (jR mU (j9 jZ (pv 2) jH) (jR ko (pv 3) (j9 jZ (pv 2) jH))) j5)))))) (jE (j8 6 nd (kE (yd Z) jC T.b_max L2.GD (ke (kE oJ jC T.b_abs L2.sU (kD (j9 jZ (pv 5) jH))) (kE oJ jC T.b_abs L2.sU (kD (j9 jZ (pv 5) jH)))))) (jE (kP (PW.pt (oq (k7 DC (pv 4) (pv 6)) (qK (k7 DC (jR mU (pv 1) (pv 4)) (jR kG (pv 6) (kE (yd Z) jC T.b_max L2.GD (ke (kE oJ jC T.b_abs L2.sU (kD (j9 jZ (pv 2) jH))) (kE oJ jC T.b_abs L2.sU (kD (j9 jZ (pv 2) jH)))))))))) (jJ (jT (pv 2))) kh) (jE (j8 2 nd (pv 5)) (jE (j8 0 nd (pv 1)) (jJ (j8 1 nd (pv 4))))))))))) (jJ (jT (pv 2))))),?_⟩;refine⟨j4,fun t0 J4=>?_⟩;have qM:jM H (upd H t0 (.tup [V.int 1,V.int 0,V.int 0,V.int 1])):=jK (jM.refl _) J4;have h0:upd H t0 (.tup [V.int 1,V.int 0,V.int 0,V.int 1]) t0=some (.tup [V.int 1,V.int 0,V.int 0,V.int 1]):=jG;generalize upd H t0 (.tup [V.int 1,V.int 0,V.int 0,V.int 1])=HA at qM h0 ⊢;refine⟨fun m σ H'=>jM H H'/\∃(ta:Addr)(rest later x y z w:Int)(o1 o2 o3 o4:Option V),σ=[some (.int rest),some (.int later),some (.ref ta),o1,o2,o3,o4]/\H' ta=some (.tup [.int x,.int y,.int z,.int w])/\rest=x*a+y*b/\later=z*a+w*b/\0<=rest/\0<=later/\rest<W/\later<W/\Eb.Tn A0 B0 x y z w/\0<z*A0+w*B0/\((x=1/\y=0/\z=0/\w=1)\/HH<=z*A0+w*B0)/\(x.natAbs<W/\y.natAbs<W/\z.natAbs<W/\w.natAbs<W)/\m=later.toNat,
  ⟨_,qM,t0,a,b,1,0,0,1,none,none,none,none,Z,h0,J,J,da0,db0,J,J,.one,J,.inl ⟨Z,Z,Z,Z⟩,⟨J,J,J,J⟩,Z⟩,?_⟩
 rintro m σ H' ⟨sm,ta,rest,later,x,y,z,w,o1,o2,o3,o4,rfl,hT,e1,e2,r0,l0,r1,l1,tn,L0,big,⟨fx,fy,fz,fw⟩,rfl⟩;have i0:lY [V.int x,V.int y,V.int z,V.int w] 0=some (.int x):=Z;have i1:lY [V.int x,V.int y,V.int z,V.int w] 1=some (.int y):=Z;have i2:lY [V.int x,V.int y,V.int z,V.int w] 2=some (.int z):=Z;have i3:lY [V.int x,V.int y,V.int z,V.int w] 3=some (.int w):=Z;have out:Q (.ref ta) H':=q ta H' x y z w sm hT tn (by rw[<-RV];exact big) (by rw[<-hW];exact⟨fx,fy,fz,fw⟩);refine⟨_,Z,Z,_,Z,mM (fun c=>?_) (fun c=>⟨_,Z,out⟩)⟩;have lp:0<later:=by have:=MA c;lia
 obtain⟨qq,hq⟩:∃qq:Int,qq=rest/later:=⟨_,Z⟩;have q0:0<=qq:=by rw[hq];exact cG r0 J
 have qle:qq<=rest:=by rw[hq];exact b8 _ r0
 have md:=bK rest later;have mn0:=aD rest (show later≠0 by lia);have mn1:=az rest lp;rw[<-hq,aB] at md;have qW:qq.natAbs<2^N:=by rw[<-hW];lia
 have lW:later.natAbs<2^N:=by rw[<-hW];lia
 have zW:z.natAbs<2^N:=by rw[<-hW];exact fz
 have wW:w.natAbs<2^N:=by rw[<-hW];exact fw
 refine⟨_,fun _ _ h=>h,?_⟩;refine⟨_,Z,_,Z,_,_,Z,Z,sW lp lW N2,?_⟩;dsimp only;rw[<-hq]
 try dsimp only[kZ,ox,oA]
 refine⟨_,Z,_,Z,_,Z,_,_,Z,Z,rR qW lW J,_,_,Z,Z,?_⟩;dsimp only;obtain⟨nr,Za⟩:∃nr:Int,nr=rest-qq*later:=⟨_,Z⟩;rw[<-Za];have nr0:0<=nr:=J;have nr1:nr<later:=J
 try dsimp only[kZ,ox,oA]
 refine⟨_,Z,ta,_,_,_,Z,Z,kJ.of hT,i2,_,Z,ta,_,_,_,Z,Z,kJ.of hT,i3,_,Z,ta,_,_,_,Z,Z,kJ.of hT,i0,_,Z,_,Z,ta,_,_,_,Z,Z,kJ.of hT,i2,_,_,Z,Z,rR qW zW J,_,_,Z,Z,?_⟩;refine⟨_,Z,ta,_,_,_,Z,Z,kJ.of hT,i1,_,Z,_,Z,ta,_,_,_,Z,Z,kJ.of hT,i3,_,_,Z,Z,rR qW wW J,_,_,Z,Z,j4,fun fu hfu=>?_⟩;have Iz:jM H' (upd H' fu (.tup [V.int z,V.int w,V.int (x-qq*z),V.int (y-qq*w)])):=jK (jM.refl _) hfu;have hF:upd H' fu (.tup [V.int z,V.int w,V.int (x-qq*z),V.int (y-qq*w)]) fu=some (.tup [V.int z,V.int w,V.int (x-qq*z),V.int (y-qq*w)]):=jG;generalize upd H' fu (.tup [V.int z,V.int w,V.int (x-qq*z),V.int (y-qq*w)])=HB at Iz hF ⊢
 try dsimp only[kZ,ox,oA]
 have Xw:=Iz _ _ hT;have Qx:Q (.ref ta) HB:=q ta HB x y z w (sm.trans Iz) Xw tn (by rw[<-RV];exact big) (by rw[<-hW];exact⟨fx,fy,fz,fw⟩);have en:nr=(x-qq*z)*a+(y-qq*w)*b:=by rw[Za,e1,e2];grind
 obtain⟨x',CH⟩:∃x':Int,x'=x-qq*z:=⟨_,Z⟩;obtain⟨y',CD⟩:∃y':Int,y'=y-qq*w:=⟨_,Z⟩;rw[<-CH,<-CD] at hF en;have j2:lY [V.int z,V.int w,V.int x',V.int y'] 2=some (.int x'):=Z;have j3:lY [V.int z,V.int w,V.int x',V.int y'] 3=some (.int y'):=Z;refine⟨_,Z,fu,_,_,_,Z,Z,kJ.of hF,j2,_,Z,_,Z,fu,_,_,_,Z,Z,kJ.of hF,j3,_,Z,_,_,Z,?_⟩
 try dsimp only[kZ,ox,oA]
 obtain⟨d,hd⟩:∃d:Int,d=(if (if y'<0 then -y' else y') > (if x'<0 then -x' else x') then (if y'<0 then -y' else y') else (if x'<0 then -x' else x')):=⟨_,Z⟩;rw[<-hd];have dd:=GE hd;refine⟨_,Z,_,Z,_,_,Z,Z,_,Z,mM (fun c1=>⟨_,Z,Qx⟩) (fun c1=>?_)⟩;have n1:=xj c1;refine⟨_,Z,_,Z,_,_,Z,Z,_,Z,_,Z,ta,_,_,_,Z,Z,kJ.of Xw,i2,_,Z,_,Z,ta,_,_,_,Z,Z,kJ.of Xw,i3,_,Z,_,_,Z,_,_,Z,Z,_,_,Z,Z,_,Z,mM (fun c2=>⟨_,Z,Qx⟩) (fun c2=>?_)⟩;have n2:=xj c2;obtain⟨d',NG⟩:∃d':Int,d'=(if (if w<0 then -w else w) > (if z<0 then -z else z) then (if w<0 then -w else w) else (if z<0 then -z else z)):=⟨_,Z⟩;rw[<-NG] at n2;have Zb:=GE NG;have su:=Eb.sure H1 eA eB mA0 mA1 mB0 mB1 tn q0 L0 (d:=d) (d':=d') (by rw[<-CH];exact dd.1) (by rw[<-CD];exact dd.2) Zb.1 Zb.2 (by rw[<-CH,<-CD,<-en];lia) (by rw[<-CH,<-CD,<-en,<-e2];lia);rw[<-CH,<-CD] at su;refine⟨_,Z,?_⟩;refine⟨_,Z,?_⟩;refine⟨_,Z,?_⟩;exact⟨nr.toNat,J,sm.trans Iz,fu,later,nr,z,w,x',y',_,_,_,_,Z,hF,e2,en,l0,nr0,l1,J,su.1,J,.inr su.2,⟨fz,fw,J,J⟩,Z⟩
theorem FL {B bits:Int}(b0:0<=B)(h0:0<=bits)(h:tG B > bits):2^bits.toNat<=B:=by
 rcases Int.lt_or_le B (2^bits.toNat) with c | c
 .exfalso;have e:((2^bits.toNat:Nat):Int)=2^bits.toNat:=by rw[dM];rfl
  have:B.natAbs<2^bits.toNat:=J;have:=PyProof.Rows.intBits_le this;unfold tG at h;lia
 .exact c
theorem Jl {A B x y z w:Int}(h:Eb.Tn A B x y z w)(ne:¬(x=1/\y=0/\z=0/\w=1)):z*A+w*B<x*A+y*B:=by
 cases h with
 | one=>exact absurd ⟨Z,Z,Z,Z⟩ ne
 | step q h _ _ lt _=>exact lt
inductive JM (vs:List V)(H:Hp)(Q:VK)(E_:XK):Prop
 | mk (r:Addr)(A B bits:Int)(N:Nat)(_:vs=[.ref r,.int bits])(_:H r=some (.tup [.int A,.int B]))(_:0<=A)(_:0<B)(_:0<=bits)(_:tG B > bits)(_:1<=N)(_:N<=9000)(_:A<2^N)(_:B<2^N)(_:∀t H' (x y z w:Int),jM H H'->H' t=some (.tup [.int x,.int y,.int z,.int w])->Eb.Tn A B x y z w->z*A+w*B<B->2^bits.toNat<=x*A+y*B->(x.natAbs<2^N/\y.natAbs<2^N/\z.natAbs<2^N/\w.natAbs<2^N)->Q (.ref t) H')
theorem y3 (T:Txt K mg CF tL tF tM):Df P w K mg base 2 "next_turn" ["rests","bits"] JM:=by
 refine kN T.d_next_turn zd fun f cdv A outer s H vs Q E hr nd h=>?_;obtain⟨r,A0,B0,bits,N,rfl,hR,a0,b0,bi0,big,N1,N2,fA,fB,q⟩:=h;have i0:lY [V.int A0,V.int B0] 0=some (.int A0):=Z;have i1:lY [V.int A0,V.int B0] 1=some (.int B0):=Z;have bge:=FL J bi0 big;have eN:((2^N:Nat):Int)=2^N:=by rw[dM];rfl
 have N2':2<=2^N:=bS (n:=2) O N1;have single:∀H1:Hp,jM H H1->∀t,H1 t=none->Q (.ref t) (upd H1 t (.tup [V.int 0,V.int 1,V.int 1,V.int (-(A0/B0))])):=fun H1 sm t ht=>by
  have q0:0<=A0/B0:=cG a0 J;have q1:A0/B0<=A0:=b8 _ a0;have md:=bK A0 B0;have m0:=aD A0 (show B0≠0 by lia);have m1:=az A0 b0;have e3:1*A0 + -(A0/B0)*B0=A0%B0:=by rw[iR,aB (A0/B0)];lia
  have tn:Eb.Tn A0 B0 0 1 1 (-(A0/B0)):=by
   have:=Eb.Tn.step (A:=A0) (B:=B0) (A0/B0) .one J (by rw[show (1-A0/B0*0)*A0+(0-A0/B0*1)*B0=1*A0 + -(A0/B0)*B0 by grind,e3];exact m0) (by rw[show (1-A0/B0*0)*A0+(0-A0/B0*1)*B0=1*A0 + -(A0/B0)*B0 by grind,e3];lia) q0;rwa [show 1-A0/B0*0=1 by lia,show 0-A0/B0*1=-(A0/B0) by lia] at this
  exact q t _ 0 1 1 (-(A0/B0)) (jK sm ht) jG tn (by rw[e3];exact m1) J ⟨J,J,J,J⟩
 refine⟨_,(jE (j8 2 nd (kE (yc Z) jC T.b_min L2.FN (ke (wJ eM dS dU tV (j9 jZ (pv 0) jH)) (wJ eM dS dU tV (j9 jZ (pv 0) jH))))) (jE (kP (k7 wu (pv 2) (jR kG (pv 1) (vg (v:=.int 128) jC T.g_LEAD_BITS ⟨_,Z⟩))) (jE (j8 3 nd (jR mU (pv 2) (vg (v:=.int 128) jC T.g_LEAD_BITS ⟨_,Z⟩))) (jE (j8 4 nd (j7 (zJ T) hr (ke (jR Fh (j9 jZ (pv 0) jH) (pv 3)) (jR Fh (j9 jZ (pv 0) jH) (pv 3))))) (jJ (kP (k7 (zg (D4 hr)) (pv 4) (lI (jF jH (jF jH (jF jH (jF jH j5)))))) (jJ (jT (pv 4))) kh)))) kh) (jJ (jT (lI (jF jH (jF jH (jF jH (jF (rq oO (jR kq (j9 jZ (pv 0) jH) (j9 jZ (pv 0) jH))) j5))))))))),?_⟩;refine⟨_,Z,r,_,_,_,Z,Z,kJ.of hR,i0,Z,_,Z,Z,_,Z,r,_,_,_,Z,Z,kJ.of hR,i1,Z,_,Z,Z,_,_,Z,?_⟩;obtain⟨len,hlen⟩:∃len:Int,len=(if tG B0<tG A0 then tG B0 else tG A0):=⟨_,Z⟩;rw[<-hlen];refine⟨_,Z,_,Z,_,_,Z,Z,_,_,Z,Z,_,Z,?_⟩;have last:∀(σ:St)(H1:Hp),σ[0]?=some (some (.ref r))->jM H H1->ia:=fun _ _ _ _=>trivial;refine mM (fun c=>?_) (fun _=>?_)
 .have c':=dec c;refine⟨_,Z,_,_,Z,Z,?_⟩;dsimp only;obtain⟨bh,hbh⟩:∃bh:Int,bh=len-128:=⟨_,Z⟩;rw[<-hbh]
  try dsimp only[kZ,ox,oA]
  refine⟨_,Z,r,_,_,_,Z,Z,kJ.of hR,i0,_,Z,_,_,Z,Z,(show 0<=bh by lia),_,Z,r,_,_,_,Z,Z,kJ.of hR,i1,_,Z,_,_,Z,Z,(show 0<=bh by lia),A0,B0,bh.toNat,N,Z,a0,b0,N1,N2,fA,fB,fun ta H1 x y z w lH h1 tn ab Bh=>?_⟩
  try dsimp only[kZ,ox,oA]
  refine⟨_,Z,j4,fun tb RW=>TD ((jW (jX h1 RW)).trans h1) jG ⟨_,Z,mM (fun c2=>?_) (fun c2=>?_)⟩⟩
  .have ne:¬(x=1/\y=0/\z=0/\w=1):=fun zz=>by rw[b9 zz] at c2;cases c2
   have great:=ab.resolve_left ne;have ds:=Jl tn ne;have pw:(2:Int)^bits.toNat<=2^bh.toNat:=by
    have:=bS (n:=2) O (show bits.toNat<=bh.toNat by lia);have e1:((2^bits.toNat:Nat):Int)=2^bits.toNat:=by rw[dM];rfl
    have e2:((2^bh.toNat:Nat):Int)=2^bh.toNat:=by rw[dM];rfl
    lia
   exact⟨_,Z,q ta _ x y z w (jK lH RW) ((jW (jX h1 RW)).trans h1) tn (tn.lt ne) J Bh⟩
  .have Xx:=jK (o:=.tup [V.int 1,V.int 0,V.int 0,V.int 1]) lH RW;refine⟨_,Z,r,_,_,_,Z,Z,kJ.of (Xx _ _ hR),i0,_,Z,r,_,_,_,Z,Z,kJ.of (Xx _ _ hR),i1,_,_,Z,Z,sW b0 J N2,_,Z,j4,fun t ht=>single _ Xx t ht⟩
 .exact⟨_,Z,r,_,_,_,Z,Z,kJ.of hR,i0,_,Z,r,_,_,_,Z,Z,kJ.of hR,i1,_,_,Z,Z,sW b0 J N2,_,Z,j4,fun t ht=>single _ (jM.refl _) t ht⟩
theorem nT (N:Nat):((2^N:Nat):Int)=2^N:=by rw[dM];rfl
inductive O0 (vs:List V)(H:Hp)(Q:VK)(E_:XK):Prop
 | mk (one other bits:Int)(N:Nat)(_:vs=[.int one,.int other,.int bits])(_:1<=one)(_:0<=other)(_:0<=bits)(_:1<=N)(_:N<=9000)(_:one<2^N)(_:other<2^N)(_:∀t H' (r0 c0 r1 c1:Int),jM H H'->H' t=some (.tup [.int r0,.int c0,.int r1,.int c1])->Eb.St one other r0 r1 c0 c1->1<=r0->tG r1<=bits->(r0=one\/2^bits.toNat<=r0)->(c0.natAbs:Int)<=one->Q (.ref t) H')
theorem uD (T:Txt K mg CF tL tF tM):Df P w K mg base 3 "euclid" ["one","other","bits"] O0:=by
 refine kN T.d_euclid Ek fun f cdv A outer s H vs Q E hr nd h=>?_;obtain⟨one,other,bits,N,rfl,o1,t0,b0,N1,N2,fo,ft,q⟩:=h;have eN:=nT N;refine⟨_,(jE (j8 3 nd (lI (ke (pv 0) (pv 1)))) (jE (j8 4 nd (lI (ke jH jH))) (jE (mF aI (k7 wu (wJ eM dS dU tV (j9 jZ (pv 3) jH)) (pv 2)) (jE (j8 5 nd (j7 (y3 T) hr (ke (pv 3) (pv 2)))) (jE (j8 3 nd (j7 (tK T) hr (ke (pv 3) (pv 5)))) (jJ (j8 4 nd (j7 (tK T) hr (ke (pv 4) (pv 5)))))))) (jJ (jT (lI (jF (j9 jZ (pv 3) jH) (jF (j9 jZ (pv 4) jH) (jF (j9 jZ (pv 3) jH) (jF (j9 jZ (pv 4) jH) j5)))))))))),?_⟩;refine⟨_,Z,_,Z,jI,fun ra hra=>?_⟩;refine⟨jI,fun ca RX=>?_⟩;have qM:jM H (upd (upd H ra (.tup [.int one,.int other])) ca (.tup [.int 0,.int 1])):=jK (jK (jM.refl _) hra) RX;have xD:upd (upd H ra (.tup [.int one,.int other])) ca (.tup [.int 0,.int 1]) ra=some (.tup [.int one,.int other]):=(jW (jX jG RX)).trans jG;have Zc:upd (upd H ra (.tup [.int one,.int other])) ca (.tup [.int 0,.int 1]) ca=some (.tup [.int 0,.int 1]):=jG;generalize upd (upd H ra (.tup [.int one,.int other])) ca (.tup [.int 0,.int 1])=H0 at qM xD Zc ⊢;refine⟨fun m σ H'=>jM H H'/\∃(ra ca:Addr)(r c lr lc:Int)(tv:Option V),σ=[some (.int one),some (.int other),some (.int bits),some (.ref ra),some (.ref ca),tv]/\H' ra=some (.tup [.int r,.int lr])/\H' ca=some (.tup [.int c,.int lc])/\1<=r/\r<2^N/\lr<2^N/\Eb.St one other r lr c lc/\(r=one\/2^bits.toNat<=r)/\(c.natAbs:Int)<=one/\m=lr.toNat,
  ⟨_,qM,ra,ca,one,0,other,1,none,Z,xD,Zc,o1,fo,ft,.start J t0,.inl Z,J,Z⟩,?_⟩
 rintro m σ H' ⟨sm,ra,ca,r,c,lr,lc,tv,rfl,hR,hC,r1,rN,lN,st,big,cb,rfl⟩;have i0:lY [V.int r,V.int lr] 0=some (.int r):=Z;have i1:lY [V.int r,V.int lr] 1=some (.int lr):=Z;have c0:lY [V.int c,V.int lc] 0=some (.int c):=Z;have c1:lY [V.int c,V.int lc] 1=some (.int lc):=Z;have l0:=st.p1;have lcb:=st.c1 J r1;refine⟨_,Z,ra,_,_,_,Z,Z,kJ.of hR,i1,Z,_,Z,Z,_,Z,_,_,Z,Z,_,Z,?_⟩;refine mM (fun c'=>?_) (fun c'=>?_)
 .have gt:=dec c';have ne:=Ja (show tG lr > 0 by lia);refine⟨_,fun _ _ h=>h,?_⟩;refine⟨_,Z,_,Z,ra,r,lr,bits,N,Z,hR,J,J,b0,gt,N1,N2,rN,lN,fun ta H1 x y z w lH h1 tn lt Xy Bh=>?_⟩;have ni:¬(x=1/\y=0/\z=0/\w=1):=fun ⟨a,b,d,e⟩=>by rw[d,e] at lt;lia
  have cc:=tn.c0 st J r1 ni;have KW:=tn.st st;refine⟨_,Z,_,Z,ra,ta,r,lr,x,y,z,w,N,Z,lH _ _ hR,h1,N2,⟨J,J,Bh.1,Bh.2.1,Bh.2.2.1,Bh.2.2.2⟩,fun rb hrb=>?_⟩;have lE:jM H1 (upd H1 rb (.tup [.int (x*r+y*lr),.int (z*r+w*lr)])):=jK (jM.refl _) hrb;have h2:upd H1 rb (.tup [.int (x*r+y*lr),.int (z*r+w*lr)]) rb=some (.tup [.int (x*r+y*lr),.int (z*r+w*lr)]):=jG;generalize upd H1 rb (.tup [.int (x*r+y*lr),.int (z*r+w*lr)])=H2 at lE h2 ⊢;refine⟨_,Z,_,Z,ca,ta,c,lc,x,y,z,w,N,Z,lE _ _ (lH _ _ hC),lE _ _ h1,N2,⟨J,J,Bh.1,Bh.2.1,Bh.2.2.1,Bh.2.2.2⟩,fun cb' Zd=>?_⟩;exact⟨(z*r+w*lr).toNat,by have:=KW.p1;lia,jK ((sm.trans lH).trans lE) Zd,rb,cb',_,_,_,_,_,Z,jK (jM.refl _) Zd _ _ h2,jG,cc.2.1,J,J,KW,.inr Xy,cc.1,Z⟩
 .have le:=xj c';refine⟨_,Z,ra,_,_,_,Z,Z,kJ.of hR,i0,_,Z,ca,_,_,_,Z,Z,kJ.of hC,c0,_,Z,ra,_,_,_,Z,Z,kJ.of hR,i1,_,Z,ca,_,_,_,Z,Z,kJ.of hC,c1,j4,fun t ht=>?_⟩;exact q t _ r c lr lc (jK sm ht) jG st r1 J big cb
inductive JG (vs:List V)(H:Hp)(Q:VK)(E_:XK):Prop
 | mk (st n:Int)(N:Nat)(_:vs=[.int st,.int n])(_:1<=n)(_:1<=N)(_:N<=9000)(_:n<2^N)(_:∀d:Int,1<=d->d∣n->d∣st->d=1)(_:∀(u:Int) H',1<=u->u<=n->n∣st*u-1->jM H H'->Q (.int u) H')
theorem yu (T:Txt K mg CF tL tF tM):Df P w K mg base 4 "back" ["step","n"] JG:=by
 refine kN T.d_back Jv fun f cdv A outer s H vs Q E hr nd h=>?_;obtain⟨st,n,N,rfl,n1,N1,N2,fn,AR,q⟩:=h;have s0:=aD st (show n≠0 by lia);have s1:=az st (show 0<n by lia);refine⟨_,(jE (j8 2 nd (j7 (uD T) hr (jF (pv 1) (jF (jR ky (pv 0) (pv 1)) (jF jH j5))))) (jE (kP (k7 n8 (j9 jZ (pv 2) jH) jH) (jJ wb) kh) (jJ (jT (jR kG (jR ky (jR mU (j9 jZ (pv 2) jH) jH) (pv 1)) jH))))),?_⟩;refine⟨_,Z,_,Z,_,Z,_,_,Z,Z,(show 0<n by lia),n,st%n,0,N,Z,n1,s0,dW 0,N1,N2,fn,J,fun t H1 r0 c0 r1 c1 lH h1 S p0 bz _ _=>?_⟩;have i0:lY [V.int r0,V.int c0,V.int r1,V.int c1] 0=some (.int r0):=Z;have i1:lY [V.int r0,V.int c0,V.int r1,V.int c1] 1=some (.int c0):=Z;have z:r1=0:=Ah J;have dv:=S.dvd z;have eg:r0=1:=AR r0 p0 dv.1 (by
  have a:n∣st%n-st:=Lt.k5 st n;have b:=aZ dv.2 (bB dv.1 a);rwa [show st%n-(st%n-st)=st by lia] at b)
 refine⟨_,Z,t,_,_,_,Z,Z,kJ.of h1,i0,Z,_,Z,xW (cU V.int eg) ?_⟩;rw[eg,z] at S;have o:=S.back n1;refine⟨_,Z,t,_,_,_,Z,Z,kJ.of h1,i1,_,_,Z,Z,_,Z,_,_,Z,Z,(show 0<n by lia),_,_,Z,Z,?_⟩;exact q _ _ o.1 o.2.1 o.2.2 lH
def Bd (N:Nat)(l:List Int):Prop:=∀x∈l,x.natAbs<2^N
theorem rp {a b:Int}{N M:Nat}(ha:a.natAbs<2^N)(hb:b.natAbs<2^M)(h:N<=1000000)(h':M<=1000000):IntMulOk a b:=rR ha hb J
inductive Lp (vs:List V)(H:Hp)(Q:VK)(E_:XK):Prop
 | mk (r s:Addr)(row other:List Int)(many m:Int)(N M:Nat)(_:vs=[.ref r,.int many,.ref s,.int m])(_:H r=some (.lst (row.map V.int)))(_:H s=some (.lst (other.map V.int)))(_:row.length=other.length)(_:row.length<=20000)(_:0<m)(_:many.natAbs<2^N)(_:Bd M other)(_:N<=1000000)(_:M<=1000000)(_:∀t H',jM H H'->H' t=some (.lst ((Rx.sY row many other m).map V.int))->Q (.ref t) H')
theorem rB (T:Txt K mg CF tL tF tM):Df P w K mg base 1 "lessened" ["row","many","other","modulus"] Lp:=by
 refine kN T.d_lessened AV fun f cdv A outer s H vs Q E hr nd h=>?_;obtain⟨r,s',row,other,many,m,N,M,rfl,h1,h2,l,lz,m0,bm,bo,N1,M1,q⟩:=h;refine⟨_,(jE (kP (k7 m7 (pv 1) jH) (jJ (jT (pv 0))) kh) (jJ (jT (m5 [("modulus",3),("many",1)] ["number","less"] (nF jC T.b_zip (ke (pv 0) (pv 2))) (fun C s H fp=>⟨(tH 2 3),kd,(jR ky (jR mU (pv 2) (jR ko (pv 1) (pv 3))) (pv 0))⟩))))),?_⟩;refine⟨_,Z,Z,_,Z,?_⟩;refine mM (fun c=>?_) (fun c=>?_)
 .have z:=uK c;exact⟨_,Z,q r H (jM.refl _) (by unfold Rx.sY;rw[if_pos z];exact h1)⟩
 .have z:=wQ c;refine⟨_,Z,_,Z,r,s',Z,⟨_,jV.of h1⟩,⟨_,jV.of h2⟩,?_⟩;refine oQ (K:=K) (xs:=row.map V.int) (ys:=other.map V.int) (List.zipWith (fun x y=>(x-many*y)%m) row other) (by rw[aa,aa,l]) (by rw[dQ,aa,<-l,fR]) (by rw[aa];exact lz) (jV.of h1) (jV.of h2) ?_ ?_
  .intro i x y H2 p hx hy sm hp R k;obtain⟨u,rfl,hu⟩:=int_at hx;obtain⟨v,rfl,hv⟩:=int_at hy;refine⟨p,_,Z,kJ.of jG,Z,_,_,Z,_,_,Z,Z,?_⟩;refine⟨_,Z,_,Z,_,Z,_,_,Z,Z,rp bm (bo v (ah hv)) N1 M1,_,_,Z,Z,_,Z,_,_,Z,Z,m0,?_⟩;exact k _ _ (jK (jM.refl _) hp) (by rw[bY,hu,hv])
  .intro D H2 sm _ hD;refine q D H2 sm ?_;unfold Rx.sY;rw[ak z];exact hD
inductive Mp (vs:List V)(H:Hp)(Q:VK)(E_:XK):Prop
 | mk (r:Addr)(row:List Int)(many m:Int)(N M:Nat)(_:vs=[.ref r,.int many,.int m])(_:H r=some (.lst (row.map V.int)))(_:row.length<=20000)(_:0<m)(_:many.natAbs<2^N)(_:Bd M row)(_:N<=1000000)(_:M<=1000000)(_:∀t H',jM H H'->H' t=some (.lst ((row.map fun x=>x*many%m).map V.int))->Q (.ref t) H')
theorem rH (T:Txt K mg CF tL tF tM):Df P w K mg base 1 "taken_times" ["row","many","modulus"] Mp:=by
 refine kN T.d_taken_times vY fun f cdv A outer s H vs Q E hr nd h=>?_;obtain⟨r,row,many,m,N,M,rfl,h1,lz,m0,bm,bo,N1,M1,q⟩:=h;refine⟨_,(jJ (jT (m5 [("modulus",2),("many",1)] ["number"] (ki (pv 0)) (fun C s H fp=>⟨(nB 2),kd,(jR ky (jR ko (pv 2) (pv 1)) (pv 0))⟩)))),?_⟩;refine⟨_,Z,r,Z,⟨_,jV.of h1⟩,?_⟩;refine lB (K:=K) (xs:=row.map V.int) (row.map fun x=>x*many%m) zfP (by rw[aa];exact lz) (jV.of h1) ?_ fun D H2 sm _ hD=>q D H2 sm hD;intro i x H2 hx sm R k;obtain⟨u,rfl,hu⟩:=int_at hx;refine⟨_,Z,_,Z,_,_,Z,Z,rp (bo u (ah hu)) bm M1 N1,_,Z,_,_,Z,Z,m0,?_⟩;exact k _ _ (jM.refl _) (by rw[af,hu];rfl)
def Yx (n m:Int):Int:=if 2*(n%m)<=m then n%m else n%m-m
inductive O4 (vs:List V)(H:Hp)(Q:VK)(E_:XK):Prop
 | mk (n m:Int)(_:vs=[.int n,.int m])(_:0<m)(_:Q (.int (Yx n m)) H)
theorem wA (T:Txt K mg CF tL tF tM):Df P w K mg base 1 "centred" ["number","scale"] O4:=by
 refine kN T.d_centred BO fun f cdv A outer s H vs Q E hr nd h=>?_;obtain⟨n,m,rfl,m0,q⟩:=h;refine⟨_,(jE (j8 2 nd (jR ky (pv 0) (pv 1))) (jJ (jT (He (k7 DC (jR ko jH (pv 2)) (pv 1)) (pv 2) (jR mU (pv 2) (pv 1)))))),?_⟩;refine⟨_,Z,_,Z,_,_,Z,Z,m0,?_⟩;refine⟨_,Z,_,_,Z,Z,nq O O,_,Z,_,_,Z,Z,_,Z,?_⟩;unfold Yx at q;refine mM (fun c=>?_) (fun c=>?_)
 .rw[aC (dec c)] at q;exact⟨_,Z,q⟩
 .rw[ak (xj c)] at q;exact⟨_,Z,_,Z,_,_,Z,Z,q⟩
inductive Lo (vs:List V)(H:Hp)(Q:VK)(E_:XK):Prop
 | mk (r:Addr)(row:List Int)(_:vs=[.ref r])(_:H r=some (.lst (row.map V.int)))(_:row.length<=20000)(_:∀(c:Nat) H',jM H H'->c<row.length->Lt.g row c≠0->Q (.int c) H')(_:∀H',jM H H'->(∀c,c<row.length->Lt.g row c=0)->Q .non H')
theorem qX (T:Txt K mg CF tL tF tM):Df P w K mg base 1 "first_filled" ["row"] Lo:=by
 refine kN T.d_first_filled u7 fun f cdv A outer s H vs Q E hr nd h=>?_;obtain⟨r,row,rfl,h1,lz,q1,q2⟩:=h;refine⟨_,(jE (kR aI Z (oy jC T.b_enumerate (kD (pv 0))) (me Z (j6 (lG 1 nd) (j6 (lG 2 nd) lC))) (jJ (kP (k7 n8 (pv 2) jH) (jJ (jT (pv 1))) kh))) (jJ (jT rQ))),?_⟩;refine⟨_,Z,r,Z,⟨_,jV.of h1⟩,oK (K:=K) (xs:=row.map V.int) (fun i σ H2=>jM H H2/\(∃o1 o2:Option V,σ=[some (.ref r),o1,o2])/\∀c,c<i->Lt.g row c=0) ⟨jM.refl _,⟨none,none,Z⟩,fun c hc=>absurd hc (bE _)⟩ (fun i σ H2 _ z=>z.1.seq (jV.of h1)) ?_ ?_⟩
 .rintro i x σ H2 p hx ⟨sm,⟨o1,o2,rfl⟩,z⟩ hp;obtain⟨v,rfl,hv⟩:=int_at hx;have gv:=Rx.lJ hv;have il:i<row.length:=(aF.mp hv).1;refine⟨p,_,Z,kJ.of jG,Z,_,_,Z,_,_,Z,Z,?_⟩;refine⟨_,Z,Z,_,Z,mM (fun c=>?_) (fun c=>?_)⟩
  .exact⟨_,Z,q1 i _ (jK sm hp) il (by rw[gv];exact MA c)⟩
  .exact⟨jK sm hp,⟨_,_,Z⟩,fun c' wT=>by
    rcases Nat.lt_succ_iff_lt_or_eq.mp wT with e | e
    .exact z c' e
    .rw[e,gv];exact FJ c⟩
 .rintro σ H2 ⟨sm,_,z⟩;rw[aa] at z;exact q2 H2 sm z
inductive OK (K:PySem.W.Frag)(vs:List V)(H:Hp)(Q:VK)(E_:XK):Prop
 | mk (r s:Addr)(a b:List Int)(N M:Nat)(_:vs=[.ref r,.ref s])(_:jV K H r (a.map V.int))(_:jV K H s (b.map V.int))(_:a.length=b.length)(_:a.length<=20000)(_:Bd N a)(_:Bd M b)(_:N<=1000000)(_:M<=1000000)(_:∀H',jM H H'->Q (.int (Rx.dot a b)) H')
theorem ph (T:Txt K mg CF tL tF tM):Df P w K mg base 2 "weighed" ["load","weights"] (OK K):=by
 refine kN T.d_weighed BJ fun f cdv A outer s H vs Q E hr nd h=>?_;obtain⟨r,s',a,b,N,M,rfl,ha,hb,l,lz,ba,bb,N1,M1,q⟩:=h;refine⟨_,(jE (mX (j7 (qB T) hr (ke (pv 0) (pv 1)))) (jJ (jT (kE (xM Z) jC T.b_sum L2.Fs (kD (m5 [] ["weight","number"] (nF jC T.b_zip (ke (pv 0) (pv 1))) (fun C s H fp=>⟨(tH 0 1),kd,(jR ko (pv 0) (pv 1))⟩))))))),?_⟩;refine⟨_,Z,_,Z,r,s',_,_,Z,ha,hb,by rw[aa,aa,l],?_⟩;refine⟨_,Z,_,Z,r,s',Z,⟨_,ha⟩,⟨_,hb⟩,?_⟩;refine oQ (K:=K) (xs:=a.map V.int) (ys:=b.map V.int) (List.zipWith (· * ·) a b) (by rw[aa,aa,l]) (by rw[dQ,aa,<-l,fR]) (by rw[aa];exact lz) ha hb ?_ ?_
 .intro i x y H2 p hx hy sm hp R k;obtain⟨u,rfl,hu⟩:=int_at hx;obtain⟨v,rfl,hv⟩:=int_at hy;refine⟨p,_,Z,kJ.of jG,Z,_,_,Z,_,_,Z,Z,?_⟩;refine⟨_,Z,_,Z,_,_,Z,Z,rp (ba u (ah hu)) (bb v (ah hv)) N1 M1,?_⟩;exact k _ _ (jK (jM.refl _) hp) (by rw[bY,hu,hv])
 .intro D H2 sm _ hD;exact⟨D,_,Z,jV.of hD,q H2 sm⟩
abbrev ni (ps:List Nat):List Int:=ps.map fun (p:Nat)=>(p:Int)
theorem G9 {ps:List Nat}{i:Nat}{x:V}(h:((ni ps).map V.int)[i]?=some x):∃p:Nat,x=.int p/\ps[i]?=some p:=by
 obtain⟨v,rfl,hv⟩:=int_at h;rw[af] at hv;cases e:ps[i]? with
 | none=>rw[e] at hv;cases hv
 | some p=>rw[e] at hv;cases hv;exact⟨p,Z,Z⟩
def pk (xs:List V)(ps:List Nat):List V:=ps.map fun p=>xs.getD p .non
inductive Mj (K:PySem.W.Frag)(vs:List V)(H:Hp)(Q:VK)(E_:XK):Prop
 | mk (r s:Addr)(xs:List V)(ps:List Nat)(_:vs=[.ref r,.ref s])(_:jV K H r xs)(_:H s=some (.lst ((ni ps).map V.int)))(_:∀p∈ps,p<xs.length)(_:ps.length<=20000)(_:∀t H',jM H H'->H t=none->H' t=some (.lst (pk xs ps))->Q (.ref t) H')
theorem uF (T:Txt K mg CF tL tF tM):Df P w K mg base 1 "picked" ["things","places"] (Mj K):=by
 refine kN T.d_picked Ef fun f cdv A outer s H vs Q E hr nd h=>?_;obtain⟨r,s',xs,ps,rfl,h1,h2,lt,lz,q⟩:=h;refine⟨_,(jJ (jT (m5 [("things",0)] ["place"] (ki (pv 1)) (fun C s H fp=>⟨(nB 1),kd,(j9 (oU (K:=K) Z) (pv 0) (pv 1))⟩)))),?_⟩;refine⟨_,Z,s',Z,⟨_,jV.of h2⟩,?_⟩;refine FF (K:=K) (xs:=(ni ps).map V.int) (pk xs ps) (by unfold pk;rw[List.length_map,List.length_map,List.length_map]) (by rw[List.length_map,List.length_map];exact lz) (jV.of h2) ?_ fun D H2 sm n hD=>q D H2 sm n hD;intro i x H2 hx sm R k;obtain⟨p,rfl,hp⟩:=G9 hx;have pl:=lt p (ah hp);have e:xs[p]?=some (xs.getD p .non):=by rw[ao,aA pl];rfl
 exact⟨_,Z,_,Z,r,_,_,_,Z,Z,sm.seq h1,lU e,k _ _ (jM.refl _) (by unfold pk;rw[List.getElem?_map,hp];rfl)⟩
theorem GQ (a:List Int)(ps:List Nat)(h:∀p∈ps,p<a.length):pk (a.map V.int) ps=(ps.map fun p=>Lt.g a p).map V.int:=by
 unfold pk;rw[iD];refine List.map_congr_left fun p hp=>?_;rw[ao,af,Rx.lL (h p hp)];rfl
inductive Oc (K:PySem.W.Frag)(vs:List V)(H:Hp)(Q:VK)(E_:XK):Prop
 | mk (r:Addr)(rows:List (List Int))(c:Nat)(_:vs=[.ref r,.int c])(_:k9 H r rows)(_:∀row∈rows,c<row.length)(_:rows.length<=20000)(_:∀t H',jM H H'->H t=none->H' t=some (.lst ((rows.map fun row=>Lt.g row c).map V.int))->Q (.ref t) H')
theorem tX (T:Txt K mg CF tL tF tM):Df P w K mg base 1 "column_of" ["rows","column"] (Oc K):=by
 refine kN T.d_column_of yN fun f cdv A outer s H vs Q E hr nd h=>?_;obtain⟨r,rows,c,rfl,⟨as,h1,pa⟩,lt,lz,q⟩:=h;have la:=jY pa;refine⟨_,(jJ (jT (m5 [("column",1)] ["row"] (ki (pv 0)) (fun C s H fp=>⟨(nB 1),kd,(j9 (oU (K:=K) Z) (pv 1) (pv 0))⟩)))),?_⟩;refine⟨_,Z,r,Z,⟨_,jV.of h1⟩,?_⟩;refine lB (K:=K) (xs:=as.map V.ref) (rows.map fun row=>Lt.g row c) (by rw[aa,aa,la]) (by rw[aa,la];exact lz) (jV.of h1) ?_ fun D H2 sm n hD=>q D H2 sm n hD;intro i x H2 hx sm R k;obtain⟨a,row,rfl,ha,kX,hh⟩:=mv pa hx;have cl:=lt row (ah kX);exact⟨_,Z,_,Z,a,_,_,_,Z,Z,jV.of (sm _ _ hh),lU (by rw[af,Rx.lL cl];rfl),k _ _ (jM.refl _) (by rw[af,kX];rfl)⟩
inductive MF (K:PySem.W.Frag)(vs:List V)(H:Hp)(Q:VK)(E_:XK):Prop
 | mk (r:Addr)(rows:List (List Int))(n:Nat)(_:vs=[.ref r])(_:k9 H r rows)(_:rows.length=n)(_:∀row∈rows,row.length=n)(_:n<=20000)(_:∀t H',jM H H'->H t=none->k9 H' t (Rx.xf n rows)->Q (.ref t) H')
theorem vN (T:Txt K mg CF tL tF tM):Df P w K mg base 2 "flipped" ["rows"] (MF K):=by
 refine kN T.d_flipped Cz fun f cdv A outer s H vs Q E hr nd h=>?_;obtain⟨r,rows,n,rfl,hR,lr,lt,lz,q⟩:=h;obtain⟨as,h1,pa⟩:=id hR;have la:=jY pa;refine⟨_,(jJ (jT (m5 [("rows",0)] ["column"] (mf jC T.b_range (kD (nI T.b_len (pv 0)))) (fun C s H fp=>⟨(nB 1),kd,(j7 (tX T) hr (ke (pv 0) (pv 1)))⟩)))),?_⟩;refine⟨_,Z,r,_,Z,.inl (jV.of h1),n,by rw[aa,la,lr],J,J,?_⟩;refine Av (n:=n) (Rx.xf n rows) (by unfold Rx.xf;rw[List.length_map,List.length_range]) lz ?_ fun D H2 sm n hD=>q D H2 sm n hD;intro i H2 hi sm R k;exact⟨_,Z,_,Z,r,rows,i,Z,hR.same sm,fun row kX=>by rw[lt row kX];exact hi,J,fun t H3 kT _ h3=>k H3 t _ kT (by unfold Rx.xf;rw[List.getElem?_map,List.getElem?_range hi];rfl) h3⟩
inductive Pe (K:PySem.W.Frag)(vs:List V)(H:Hp)(Q:VK)(E_:XK):Prop
 | mk (n:Nat)(r s:Addr)(ps:List Nat)(xs:List Int)(_:vs=[.int n,.ref r,.ref s])(_:H r=some (.lst ((ni ps).map V.int)))(_:H s=some (.lst (xs.map V.int)))(_:ps.length=xs.length)(_:∀p∈ps,p<n)(_:n<=20000)(_:∀t H',jM H H'->H t=none->H' t=some (.lst ((Rx.uk n ps xs).map V.int))->Q (.ref t) H')
theorem xY (T:Txt K mg CF tL tF tM):Df P w K mg base 1 "spread" ["size","places","numbers"] (Pe K):=by
 refine kN T.d_spread EH fun f cdv A outer s H vs Q E hr nd h=>?_;obtain⟨n,r,s',ps,xs,rfl,h1,h2,l,lt,lz,q⟩:=h;refine⟨_,(jE (j8 3 nd (jR oS (lD (kD jH)) (pv 0))) (jE (kR aI Z (nF jC T.b_zip (ke (pv 1) (pv 2))) (me Z (j6 (lG 4 nd) (j6 (lG 5 nd) lC))) (jJ (oY (pv 5) (oR (pv 3) (pv 4) set_list)))) (jJ (jT (pv 3))))),?_⟩;refine⟨jL,fun lo wX=>⟨_,Z,lo,_,_,Z,Z,jG,J,J,zfO,fun p hp=>?_⟩⟩;rw[rep0];have E4:jM H (upd (upd H lo (.lst [V.int 0])) p (.lst ((List.replicate n (0:Int)).map V.int))):=jK (jK (jM.refl _) wX) hp;have pn:H p=none:=(jK (jM.refl _) wX).free hp;have hP:upd (upd H lo (.lst [V.int 0])) p (.lst ((List.replicate n (0:Int)).map V.int)) p=some (.lst ((List.replicate n (0:Int)).map V.int)):=jG;generalize upd (upd H lo (.lst [V.int 0])) p (.lst ((List.replicate n (0:Int)).map V.int))=H0 at E4 hP ⊢;refine⟨_,Z,_,Z,r,s',Z,⟨_,jV.of (E4 _ _ h1)⟩,⟨_,jV.of (E4 _ _ h2)⟩,tD (K:=K) (xs:=(ni ps).map V.int) (ys:=xs.map V.int) (by rw[aa,aa,aa,l]) (fun i σ H2=>jM H H2/\(∃o1 o2:Option V,σ=[some (.int n),some (.ref r),some (.ref s'),some (.ref p),o1,o2])/\H2 p=some (.lst ((Rx.uk n (ps.take i) (xs.take i)).map V.int))) ⟨E4,⟨none,none,Z⟩,by rw[hP];rfl⟩ (fun i σ H2 _ z=>⟨z.1.seq (jV.of h1),z.1.seq (jV.of h2)⟩) ?_ ?_⟩
 .rintro i x y σ H2 pa hx hy ⟨sm,⟨o1,o2,rfl⟩,HY⟩ Ze;obtain⟨c,rfl,hc⟩:=G9 hx;obtain⟨v,rfl,hv⟩:=int_at hy;have cl:=lt c (ah hc);have pne:p≠pa:=jX HY Ze;refine⟨pa,_,Z,kJ.of jG,Z,_,_,Z,_,_,Z,Z,?_⟩;refine⟨_,Z,_,Z,_,Z,p,_,_,_,Z,Z,(jW pne).trans HY,pZ J zfR,?_⟩;refine⟨ku (jK sm Ze) pn,⟨_,_,Z⟩,?_⟩;rw[jG,ae,set_int];have e1:ps.take (i+1)=ps.take i++[c]:=by rw[cX,hc];rfl
  have e2:xs.take (i+1)=xs.take i++[v]:=by rw[cX,hv];rfl
  rw[e1,e2];unfold Rx.uk;rw[Rx.xE _ _ _ _ _ (by rw[cJ,cJ,l])]
 .rintro σ H2 ⟨sm,⟨o1,o2,rfl⟩,HY⟩;rw[aa,aa,bT,l,bT] at HY;exact⟨_,Z,q p H2 sm pn HY⟩
def Kl (H:Hp)(a:Addr)(x:Rx.Fd):Prop:=∃b,H a=some (.tup [.int x.1,.int x.2.1,.ref b])/\H b=some (.lst (x.2.2.map V.int))
def rh (H:Hp)(r:Addr)(fs:List Rx.Fd):Prop:=∃as:List Addr,H r=some (.lst (as.map V.ref))/\Paired (Kl H) as fs
theorem mY {α β:Type}{F G:α->β->Prop}:∀{a:List α}{b:List β},Paired F a b->(∀x y,F x y->G x y)->Paired G a b
 | _,_,.nil,_=>.nil
 | _,_,.cons h t,i=>.cons (i _ _ h) (mY t i)
theorem rh.same {H H':Hp}(sm:jM H H'){fs:List Rx.Fd}(h:rh H r fs):rh H' r fs :=
 let ⟨as,h1,h2⟩:=h;⟨as,sm _ _ h1,mY h2 fun _ _ ⟨b,u,v⟩=>⟨b,sm _ _ u,sm _ _ v⟩⟩
theorem rh.push {H:Hp}{F t b:Addr}{fs:List Rx.Fd}{f:Rx.Fd}(hF:H F=some (.lst (as.map V.ref)))(pa:Paired (Kl H) as fs)(ht:H t=some (.tup [.int f.1,.int f.2.1,.ref b]))(hb:H b=some (.lst (f.2.2.map V.int)))(nb:b≠F):rh (upd H F (.lst (as.map V.ref++[.ref t]))) F (fs++[f]):=by
 have old:Paired (Kl (upd H F (.lst (as.map V.ref++[.ref t])))) as fs:=by
  have ne:∀(a:Addr)(x:Rx.Fd),a∈as->Kl H a x->Kl (upd H F (.lst (as.map V.ref++[.ref t]))) a x:=fun a x ha ⟨c,u,v⟩=>by
   refine⟨c,(jW (nK u hF (by intro z;cases z))).trans u,(jW (nK v hF fun z=>?_)).trans v⟩;injection z with z;cases as with
   | nil=>cases ha
   | cons a0 RN=>cases e:x.2.2 with
    | nil=>rw[e] at z;cases z
    | cons y ys=>rw[e] at z;injection z with z1;cases z1
  have go:∀{tZ:List Addr}{CJ:List Rx.Fd},(∀a∈tZ,a∈as)->Paired (Kl H) tZ CJ->Paired (Kl (upd H F (.lst (as.map V.ref++[.ref t])))) tZ CJ:=fun {tZ CJ} sub p=>by
   induction p with
   | nil=>exact .nil
   | cons h _ ih=>exact .cons (ne _ _ (sub _ av) h) (ih fun a ha=>sub a (ar _ ha))
  exact go (fun a h=>h) pa
 refine⟨as++[t],by rw[jG,aQ];rfl,L2.Paired.BV old (.cons ⟨b,(jW (nK ht hF (by intro z;cases z))).trans ht,(jW nb).trans hb⟩ .nil)⟩
theorem wG {p:Int}{N:Nat}(pN:p<2^N)(h:Rx.In p l):Bd N l:=fun x hx=>by
 have:=h x hx;have e:=nT N;lia
inductive Ps (vs:List V)(H:Hp)(Q:VK)(E_:XK):Prop
 | mk (r s:Addr)(step:List Int)(fs:List Rx.Fd)(p:Int)(w N:Nat)(_:vs=[.ref r,.ref s,.int p])(_:H r=some (.lst (step.map V.int)))(_:rh H s fs)(_:Rx.OO p w fs)(_:step.length=w)(_:w<=20000)(_:0<p)(_:p<2^N)(_:N<=1000000)(_:∀t H',jM H H'->H' t=some (.lst ((Rx.oN p fs step).map V.int))->Q (.ref t) H')
theorem wC (T:Txt K mg CF tL tF tM):Df P w K mg base 2 "cleared" ["step","found","prime"] Ps:=by
 refine kN T.d_cleared Cp fun f cdv A outer s H vs Q E hr nd h=>?_;obtain⟨r,s',step,fs,p,w',N,rfl,h1,hF,rk,l,lz,p0,pN,N1,q⟩:=h;obtain⟨as,h2,pa⟩:=id hF;have la:=jY pa;refine⟨_,(jE (sM 3 [("prime",2)] ["weight"] nd (ki (pv 0)) (fun C s H fp=>⟨(nB 1),kd,(jR ky (pv 1) (pv 0))⟩)) (jE (kR aI Z (ki (pv 1)) (me Z (j6 (lG 4 nd) (j6 (lG 5 nd) (j6 (lG 6 nd) lC)))) (jJ (j8 3 nd (j7 (rB T) hr (jF (pv 3) (jF (j9 kC (pv 3) (pv 5)) (jF (pv 6) (jF (pv 2) j5)))))))) (jJ (jT (pv 3))))),?_⟩;refine⟨_,Z,r,Z,⟨_,jV.of h1⟩,?_⟩;refine lB (K:=K) (xs:=step.map V.int) (step.map fun x=>x%p) zfP zfM (jV.of h1) ?_ ?_
 .intro i x H2 hx sm R k;obtain⟨u,rfl,hu⟩:=int_at hx;exact⟨_,Z,_,Z,_,_,Z,Z,p0,k _ _ (jM.refl _) (by rw[af,hu];rfl)⟩
 .intro D H0 qM _ hD;refine⟨_,Z,s',Z,⟨_,jV.of (qM _ _ h2)⟩,mB (K:=K) (xs:=as.map V.ref) (fun i σ H2=>jM H H2/\∃(tl:Addr)(o1 o2 o3:Option V),σ=[some (.ref r),some (.ref s'),some (.int p),some (.ref tl),o1,o2,o3]/\H2 tl=some (.lst ((Rx.oN p (fs.take i) step).map V.int))) ⟨qM,D,none,none,none,Z,hD⟩ (fun i σ H2 _ z=>z.1.seq (jV.of h2)) ?_ ?_⟩
  .rintro i x σ H2 hx ⟨sm,tl,o1,o2,o3,rfl,hl⟩;obtain⟨a,rfl,ha⟩:=oh hx;obtain⟨f,hf,b,ht,hb⟩:=kQ pa ha;have rf:=rk f (ah hf);have ok:=Rx.sR p0 l (fs:=fs.take i) Z fun f hf=>rk f (fX hf);refine⟨a,_,Z,kJ.of (sm _ _ ht),Z,_,_,Z,_,_,Z,_,_,Z,Z,?_⟩;have cg:lY ((Rx.oN p (fs.take i) step).map V.int) (f.2.1:Int)=some (.int (Lt.g (Rx.oN p (fs.take i) step) f.2.1)):=lU zfN;have big:=ok.2.g p0 f.2.1;have e:=nT N;refine⟨_,Z,_,Z,_,Z,tl,_,_,_,Z,Z,jV.of hl,cg,_,Z,_,Z,tl,b,_,f.2.2,_,p,N,N,Z,hl,sm _ _ hb,by rw[ok.1,rf.1],J,p0,J,wG pN rf.2.1,N1,N1,fun t H3 kT h3=>?_⟩;refine⟨sm.trans kT,t,_,_,_,Z,?_⟩;have e1:fs.take (i+1)=fs.take i++[f]:=by rw[cX,hf];rfl
   rw[e1,Rx.wc];exact h3
  .rintro σ H2 ⟨sm,tl,o1,o2,o3,rfl,hl⟩;rw[aa,la,bT] at hl;exact⟨_,Z,q tl H2 sm hl⟩
inductive LL (vs:List V)(H:Hp)(Q:VK)(E_:XK):Prop
 | mk (r:Addr)(steps:List (List Int))(p:Int)(w N:Nat)(_:vs=[.ref r,.int p])(_:k9 H r steps)(_:∀x∈steps,x.length=w)(_:w<=20000)(_:steps.length<=20000)(_:Pt.mR p)(_:p<2^N)(_:1<=N)(_:N<=9000)(_:∀t H' fs,jM H H'->H t=none->rh H' t fs->Rx.qE p w steps steps.length fs->Q (.ref t) H')
theorem Cq (T:Txt K mg CF tL tF tM):Df P w K mg base 5 "corners" ["steps","prime"] LL:=by
 refine kN T.d_corners BF fun f cdv A outer s H vs Q E hr nd h=>?_;obtain⟨r,steps,p,w',N,rfl,⟨as,h1,pa⟩,lw,lz,ls,hp,pN,N1,N2,q⟩:=h;have la:=jY pa;have p2:=hp.1;refine⟨_,(jE (j8 2 nd (lD j5)) (jE (kR aI Z (oy jC T.b_enumerate (kD (pv 0))) (me Z (j6 (lG 3 nd) (j6 (lG 4 nd) lC))) (jE (j8 5 nd (j7 (wC T) hr (jF (pv 4) (jF (pv 2) (jF (pv 1) j5))))) (jE (j8 6 nd (j7 (qX T) hr (kD (pv 5)))) (jJ (kP (k7 Jd (pv 6) rQ) (jJ (mX (uV cO cK cL nw (pv 2) (kD (lI (jF (pv 3) (jF (pv 6) (jF (j7 (rH T) hr (jF (pv 5) (jF (j7 (yu T) hr (ke (j9 kC (pv 5) (pv 6)) (pv 1))) (jF (pv 1) j5)))) j5)))))))) kh))))) (jJ (jT (pv 2))))),?_⟩;refine⟨mW O,fun F hF=>?_⟩;have Iz:jM H (upd H F (.lst [])):=jK (jM.refl _) hF;refine⟨_,Z,r,Z,⟨_,jV.of (Iz _ _ h1)⟩,oK (K:=K) (xs:=as.map V.ref) (fun i σ H2=>jM H H2/\∃(fs:List Rx.Fd)(o1 o2 o3 o4:Option V),σ=[some (.ref r),some (.int p),some (.ref F),o1,o2,o3,o4]/\rh H2 F fs/\fs.length<=i/\Rx.qE p w' steps i fs) ⟨Iz,[],none,none,none,none,Z,⟨[],jG,.nil⟩,aH _,.start ..⟩ (fun i σ H2 _ z=>z.1.seq (jV.of h1)) ?_ ?_⟩
 .rintro i x σ H2 pp hx ⟨sm,fs,o1,o2,o3,o4,rfl,fo,fl,cn⟩ zR;obtain⟨a,step,rfl,ha,t5,hh⟩:=mv pa hx;have il:i<as.length:=(aF.mp ha).1;have l:=lw step (ah t5);have pJ:=jK (o:=.tup [.int (i:Nat),.ref a]) (jM.refl H2) zR;refine⟨pp,_,Z,kJ.of jG,Z,_,_,Z,_,_,Z,Z,?_⟩;refine⟨_,Z,_,Z,_,Z,a,F,step,fs,p,w',N,Z,pJ _ _ (sm _ _ hh),fo.same pJ,cn.rok,l,lz,J,pN,J,fun tl H3 kT hl=>?_⟩;have ok:=Rx.sR (show 0<p by lia) l Z cn.rok;have Qy:=(sm.trans pJ).trans kT;have Zf:=(fo.same pJ).same kT;refine⟨_,Z,tl,_,Z,hl,by rw[ok.1];exact lz,fun c H4 lZ hc nz=>?_,fun H4 lZ z=>?_⟩
  .rw[ok.1] at hc;have gb:=ok.2.g (show 0<p by lia) c;have RY:=lZ _ _ hl;have cg:lY ((Rx.oN p fs step).map V.int) (c:Int)=some (.int (Lt.g (Rx.oN p fs step) c)):=lU zfN;refine⟨_,Z,Z,_,Z,p8 jB ?_⟩;obtain⟨Zg,fh,Zh⟩:=Zf.same lZ;refine⟨_,Z,.inl ⟨Z,_,jV.of fh⟩,_,Z,_,Z,_,Z,_,Z,_,Z,tl,_,_,_,Z,Z,jV.of RY,cg,_,Z,_,p,N,Z,J,N1,N2,pN,fun d d1 dp dg=>?_,fun u H5 u1 u2 hu mJ=>?_⟩
   .rcases Int.lt_or_le d p with c' | c'
    .rcases Int.lt_or_le d 2 with c'' | c''
     .lia
     .exact absurd dp (hp.2 d c'' c')
    .have:=aT (show 0<Lt.g (Rx.oN p fs step) c by lia) dg;lia
   have e:=nT N;refine⟨_,Z,tl,_,u,p,N,N,Z,mJ _ _ RY,by rw[ok.1];exact lz,J,J,wG pN ok.2,J,J,fun tr H6 qZ h6=>?_⟩;refine⟨jU,fun tt qj=>?_⟩;have J5:=jK (o:=.tup [.int (i:Nat),.int (c:Nat),.ref tr]) (jM.refl H6) qj;have xg:=(mJ.trans qZ).trans J5;refine⟨F,_,_,Z,Z,xg _ _ fh,?_,?_⟩
   .rw[aa,jY Zh];exact mD J
   .have pa6:=mY Zh fun _ _ ⟨b,u,v⟩=>(⟨b,xg _ _ u,xg _ _ v⟩:Kl _ _ _);have Fn:H6 F=some (.lst (Zg.map V.ref)):=qZ _ _ (mJ _ _ fh);have nb:tr≠F:=fun z=>by
     rw[z] at h6;rw[Fn] at h6;injection h6 with h6;injection h6 with h6;have l6:=cU List.length h6;rw[aa,aa,aa,ok.1] at l6;cases e1:Zg with
     | nil=>rw[e1] at l6;simp at l6;lia
     | cons a0 RN=>cases e2:(Rx.oN p fs step) with
      | nil=>rw[e2] at ok;have:=ok.1;simp at this;lia
      | cons y ys=>rw[e1,e2] at h6;injection h6 with z1;cases z1
    refine⟨ku (((Qy.trans lZ).trans (mJ.trans qZ)).trans J5) hF,fs++[((i:Nat),c,(Rx.oN p fs step).map fun x=>x*u%p)],_,_,_,_,Z,rh.push (f:=((i:Nat),c,(Rx.oN p fs step).map fun x=>x*u%p)) (xg _ _ fh) pa6 jG (J5 _ _ h6) nb,by rw[aJ];show fs.length+1<=_;lia,cn.some hp t5 l hc nz hu⟩
  .refine⟨_,Z,Z,_,Z,lP jB ?_⟩;exact⟨Qy.trans lZ,fs,_,_,_,_,Z,Zf.same lZ,J,cn.none J t5 l (by rw[<-ok.1];exact z)⟩
 .rintro σ H2 ⟨sm,fs,o1,o2,o3,o4,rfl,fo,fl,cn⟩;rw[aa,la] at cn;exact⟨_,Z,q F H2 fs sm hF fo cn⟩
theorem vy {n i:Nat}(h:i<n)(x:Int):Ld.LG n i x=Rx.tJ n i x:=by
 unfold Ld.LG Rx.tJ;have:((i:Int)%n).toNat=i:=by rw[aU J J];lia
 rw[this]
theorem Gx {N:Nat}{row other:List Int}{many:Int}(m0:0<m)(mN:m<2^N)(h:Bd N row):Bd N (Rx.sY row many other m):=by
 unfold Rx.sY;split
 .exact h
 .exact wG mN (Rx.In.zip m0 _ _ fun x y=>x-many*y)
inductive O5 (vs:List V)(H:Hp)(Q:VK)(E_:XK):Prop
 | mk (r:Addr)(rows:List (List Int))(k E N:Nat)(p:Int)(_:vs=[.ref r,.int (p^E)])(_:k9 H r rows)(_:rows.length=k)(_:∀row∈rows,row.length=k/\Bd N row)(_:k<=420)(_:1<=E)(_:Pt.mR p)(_:p^E<2^N)(_:1<=N)(_:N<=9000)(_:∀c,c<=k->Mx.uY p c (Rx.mt rows))(_:∀t H' us,jM H H'->H t=none->k9 H' t us->us.length=k->(∀u∈us,u.length=k/\Bd N u)->Mx.LI (p^E) k (Rx.mt us) (Rx.mt rows)->Q (.ref t) H')
theorem wO (T:Txt K mg CF tL tF tM):Df P w K mg base 5 "undone_rows" ["rows","modulus"] O5:=by
 refine kN T.d_undone_rows wq fun f cdv A outer s H vs Q E hr nd h=>?_;obtain⟨r,rows,k,E',N,p,rfl,⟨as,h1,pa⟩,lr,lw,k4,E1,hp,mN,N1,N2,ind,q⟩:=h;have la:=jY pa;have p2:=hp.1;have m0:0<p^E':=fL J;have pm:p∣p^E':=by
  obtain⟨e,rfl⟩:∃e,E'=e+1:=⟨E'-1,J⟩;exact⟨p^e,by rw[bq,aB]⟩
 have eN:=nT N;have N2':2<=2^N:=bS (n:=2) O N1;generalize hm:p^E'=m at *;refine⟨_,(jE (j8 2 nd (nI T.b_len (pv 0))) (jE (sM 3 [("size",2)] ["number","row"] nd (oy jC T.b_enumerate (kD (pv 0))) (fun C s H fp=>⟨(tH 1 2),kd,(jR sF (pv 2) (j7 (vw T) hr (jF (pv 0) (jF (pv 1) (jF jH j5)))))⟩)) (jE (kR aI Z (mf jC T.b_range (kD (pv 2))) (lG 4 nd) (jE (j8 5 nd (j7 (rH T) hr (jF (j9 kC (pv 3) (pv 4)) (jF (j7 (yu T) hr (ke (j9 kC (j9 kC (pv 3) (pv 4)) (pv 4)) (pv 1))) (jF (pv 1) j5))))) (jE (sM 3 [("lead",5),("modulus",1),("column",4)] ["row"] nd (ki (pv 3)) (fun C s H fp=>⟨(nB 3),kd,(j7 (rB T) hr (jF (pv 3) (jF (j9 (oU (K:=K) Z) (pv 3) (pv 2)) (jF (pv 0) (jF (pv 1) j5)))))⟩)) (jJ (oY (pv 5) (oR (pv 3) (pv 4) set_list)))))) (jJ (jT (m5 [("size",2)] ["row"] (ki (pv 3)) (fun C s H fp=>⟨(nB 1),kd,(tf (Hv (K:=K) Z) (pv 1) (rX (pv 0)) C6)⟩))))))),?_⟩;refine⟨_,Z,r,_,Z,.inl (jV.of h1),?_⟩;rw[aa,la,lr];refine⟨_,Z,r,Z,⟨_,jV.of h1⟩,?_⟩;refine G3 (K:=K) (xs:=as.map V.ref) (Rx.aug k rows) (by unfold Rx.aug;rw[List.length_mapIdx,List.length_map,la]) (by rw[List.length_map,la];lia) (jV.of h1) ?_ ?_
 .intro i x H2 pp hx sm zR R kk;obtain⟨a,row,rfl,ha,kX,hh⟩:=mv pa hx;have il:i<k:=by rw[<-lr];exact(aF.mp kX).1
  have rl:=lw row (ah kX);have pJ:=jK (o:=.tup [.int (i:Nat),.ref a]) (jM.refl H2) zR;refine⟨pp,_,Z,kJ.of jG,Z,_,_,Z,_,_,Z,Z,?_⟩;refine⟨_,Z,_,Z,_,Z,k,(i:Nat),1,Z,J,J,fun ht H3 kT _ h3=>?_⟩;rw[vy il] at h3;refine⟨a,ht,_,_,Z,Z,kT _ _ (pJ _ _ (sm _ _ hh)),h3,?_,fun c hc=>?_⟩
  .rw[aa,aa,Rx.oz,rl.1];exact mW J
  .rw[<-aQ];exact kk _ c (row++Rx.tJ k i 1) (jK (pJ.trans kT) hc) (by unfold Rx.aug;rw[List.getElem?_mapIdx,kX];rfl) jG
 intro D H0 qM nD hD;have gj0:=Rx.Mz (m:=m) lr fun row h=>(lw row h).1;have au:(Rx.aug k rows).length=k/\∀row∈Rx.aug k rows,row.length=k+k/\Bd N row:=by
  refine⟨by unfold Rx.aug;rw[List.length_mapIdx,lr],fun row kX=>?_⟩;obtain⟨i,hi,e⟩:=List.getElem_of_mem kX;unfold Rx.aug at e hi;rw[List.getElem_mapIdx] at e;rw[List.length_mapIdx] at hi;have rl:=lw _ (cm hi);rw[<-e];refine⟨by rw[aJ,Rx.oz,rl.1],fun x hx=>?_⟩;rcases List.mem_append.mp hx with c | c
  .exact rl.2 x c
  .obtain⟨j,hj,ej⟩:=Rx.sw c;rw[Rx.pf J] at ej;split at ej<;>(rw[<-ej];lia)
 refine⟨_,Z,k,Z,J,J,oP (n:=k) (fun i σ H2=>jM H H2/\∃(tl:Addr)(ls:List (List Int))(o1 o2:Option V),σ=[some (.ref r),some (.int m),some (.int k),some (.ref tl),o1,o2]/\k9 H2 tl ls/\ls.length=k/\(∀row∈ls,row.length=k+k/\Bd N row)/\Mx.Gj m k (Rx.mt rows) i (Rx.wl k ls) (Rx.wr k ls)) ⟨qM,D,_,none,none,Z,hD,au.1,au.2,gj0⟩ ?_ ?_⟩
 .rintro c σ H2 hc ⟨sm,tl,ls,o1,o2,rfl,⟨bs,t1,pb⟩,ll,lb,gj⟩;have RZ:=jY pb;have kX:=Rx.ma (rows:=ls) (i:=c) J;have rl:=lb _ (Rx.lh (rows:=ls) (i:=c) J);obtain⟨a,J6,ha⟩:=wI pb kX;have cg:lY ((ls.getD c []).map V.int) (c:Int)=some (.int (Lt.g (ls.getD c []) c)):=lU zfN;have piv:¬p∣Lt.g (ls.getD c []) c:=by
   have:=gj.OB p2 pm hc (ind (c+1) hc);unfold Rx.wl at this;rwa [ae] at this
  refine⟨_,Z,_,Z,tl,_,_,_,Z,Z,jV.of t1,J6,_,Z,_,Z,tl,_,_,_,Z,Z,jV.of t1,J6,_,Z,a,_,_,_,Z,Z,jV.of ha,cg,_,Z,_,m,N,Z,J,N1,N2,mN,fun d d1 dm dg=>Rx.JY hp piv d1 (by rw[hm];exact dm) dg,fun u H3 u1 u2 hu kT=>?_⟩;refine⟨_,Z,a,_,u,m,N,N,Z,kT _ _ ha,J,m0,J,rl.2,J,J,fun le H4 lZ h4=>?_⟩;obtain⟨lead,px⟩:∃lead:List Int,lead=(ls.getD c []).map fun x=>x*u%m:=⟨_,Z⟩;rw[<-px] at h4;have lel:lead.length=k+k:=by rw[px,aa,rl.1]
  have Zi:Bd N lead:=by rw[px];exact wG mN (Rx.In.mod m0 _ fun x=>x*u)
  have t4:=lZ _ _ (kT _ _ t1);have Xz:=kL (kT.trans lZ) pb;refine⟨_,Z,tl,Z,⟨_,jV.of t4⟩,?_⟩;refine oT (K:=K) (xs:=bs.map V.ref) (ls.map fun row=>Rx.sY row (Lt.g row c) lead m) (by rw[aa,aa,RZ]) zfM (jV.of t4) ?_ ?_
  .intro i x H5 hx mJ R kk;obtain⟨b,row,rfl,hb,NU,R0⟩:=mv Xz hx;have Zj:=lb row (ah NU);have cg5:lY (row.map V.int) (c:Int)=some (.int (Lt.g row c)):=lU zfN;have gb:=Zj.2 _ (Rx.nV (l:=row) (i:=c) J);exact⟨_,Z,_,Z,_,Z,b,_,_,_,Z,Z,jV.of (mJ _ _ R0),cg5,_,Z,_,Z,b,le,row,lead,_,m,N,N,Z,mJ _ _ R0,mJ _ _ h4,by rw[Zj.1,lel],J,m0,gb,Zi,J,J,fun t H6 qZ h6=>kk H6 t _ qZ (by rw[af,NU];rfl) h6⟩
  intro D2 H5 mJ XA ⟨es,e1,pe⟩;have sY:=jY pe;rw[aa] at sY;refine⟨_,Z,_,Z,_,Z,D2,_,_,_,Z,Z,e1,pZ J zfM,?_⟩;have Qz:=(sm.trans kT).trans lZ;have Zk:=Rx.FU (m:=m) (v:=u) ll hc fun row h=>(lb row h).1;have eq:(ls.map fun row=>Rx.sY row (Lt.g row c) lead m).set c lead=Rx.sQ m c u ls:=by unfold Rx.sQ;rw[px]
  refine⟨ku (Qz.trans mJ) (Qz.free XA),D2,Rx.sQ m c u ls,_,_,Z,?_,Zk.1,fun row kX=>⟨Zk.2 row kX,?_⟩,Rx.Jz ll (fun row h=>(lb row h).1) gj hc hu⟩
  .rw[<-eq,ae];exact k9.put e1 pe (fun z=>by rw[z] at sY;simp at sY;lia) (mJ _ _ h4)
  .rw[<-eq] at kX;rcases List.mem_or_eq_of_mem_set kX with z | z
   .obtain⟨y,hy,rfl⟩:=List.mem_map.mp z;exact Gx m0 mN (lb y hy).2
   .rw[z];exact Zi
 .rintro σ H2 ⟨sm,tl,ls,o1,o2,rfl,⟨bs,t1,pb⟩,ll,lb,gj⟩;have RZ:=jY pb;refine⟨_,Z,tl,Z,⟨_,jV.of t1⟩,?_⟩;refine oT (K:=K) (xs:=bs.map V.ref) (ls.map fun row=>row.drop k) (by rw[aa,aa,RZ]) zfM (jV.of t1) ?_ ?_
  .intro i x H5 hx mJ R kk;obtain⟨b,row,rfl,hb,NU,R0⟩:=mv pb hx;refine⟨_,Z,_,Z,_,Z,b,_,Z,jV.of (mJ _ _ R0),fun c hc=>?_⟩;rw[A7];exact kk _ c (row.drop k) (jK (jM.refl _) hc) (by rw[af,NU];rfl) jG
  .intro D2 H5 mJ XA XB;refine q D2 H5 _ (sm.trans mJ) (sm.free XA) XB (by rw[aa,ll]) (fun u hu=>?_) (Rx.JK ll gj);obtain⟨y,hy,rfl⟩:=List.mem_map.mp hu;exact⟨by rw[cC,(lb y hy).1];lia,fun x hx=>(lb y hy).2 x (gL hx)⟩
theorem tI {X:Cx}{K:PySem.W.Frag}(h:X.K=K):NC X (OP K):=by subst h;exact jZ
theorem y8 {x:Int}(x0:0<=x)(m0:0<=m)(h:tG x<=m):x<2^m.toNat:=by
 have e:=nT m.toNat;unfold tG Builtin.Int.intBits at h
 by_cases z:x=0
 .rw[z];exact fL O
 .rw[ak (by simpa using z)] at h;have:=(g6 (show x.natAbs≠0 by lia)).mp (show x.natAbs.log2<m.toNat by lia);lia
theorem CV {x:Int}(x0:0<=x)(m0:0<=m)(h:m<tG x):2^m.toNat<=x:=FL x0 m0 h
theorem Ej {sc bits:Int}(s0:64<=sc)(e:bits=(tG sc-2)/2):0<=bits/\2<=(2:Int)^bits.toNat/\2*((2:Int)^bits.toNat*2^bits.toNat)<=sc/\sc<8*((2:Int)^bits.toNat*2^bits.toNat):=by
 have b6:6<tG sc:=by
  rcases Int.lt_or_le 6 (tG sc) with c | c
  .exact c
  .have:=y8 J (show (0:Int)<=6 by decide) c;have e6:(2:Int)^(6:Int).toNat=64:=O;lia
 have lo:=CV (x:=sc) (m:=tG sc-1) J J J;have hi:=y8 (x:=sc) (m:=tG sc) J J (dW _);have p1:(2:Int)^bits.toNat*2^bits.toNat=2^(bits.toNat+bits.toNat):=by rw[eC]
 have b2:bits.toNat=(bits.toNat-1)+1:=J;refine⟨J,?_,?_,?_⟩
 .rw[b2,bq];have:(1:Int)<=2^(bits.toNat-1):=fL O;lia
 .rw[p1];have a:(2:Int)^(bits.toNat+bits.toNat+1)<=2^(tG sc-1).toNat:=by
   have n1:=nT (bits.toNat+bits.toNat+1);have n2:=nT (tG sc-1).toNat;have:=bS (n:=2) O (show bits.toNat+bits.toNat+1<=(tG sc-1).toNat by lia);lia
  rw[bq] at a;lia
 .rw[p1];have a:(2:Int)^(tG sc).toNat<=2^(bits.toNat+bits.toNat+3):=by
   have n1:=nT (bits.toNat+bits.toNat+3);have n2:=nT (tG sc).toNat;have:=bS (n:=2) O (show (tG sc).toNat<=bits.toNat+bits.toNat+3 by lia);lia
  rw[show bits.toNat+bits.toNat+3=bits.toNat+bits.toNat+1+1+1 from Z,bq,bq,bq] at a;lia
inductive V8 (vs:List V)(H:Hp)(Q:VK)(E_:XK):Prop
 | mk (x sc bits:Int)(N:Nat)(_:vs=[.int x,.int sc,.int bits])(_:0<=x)(_:x<sc)(_:0<=bits)(_:2^bits.toNat<=sc)(_:1<=N)(_:N<=9000)(_:sc<2^N)(_:∀H' r0 r1 c0 c1,jM H H'->Eb.St sc x r0 r1 c0 c1->2^bits.toNat<=r0->r1<2^bits.toNat->(c1.natAbs:Int)<=sc->Q (.int c1.natAbs) H')
theorem ve (T:Txt K mg CF tL tF tM):Df P w K mg base 4 "least_bottom" ["number","scale","bits"] V8:=by
 refine kN T.d_least_bottom u6 fun f cdv A outer s H vs Q E hr nd h=>?_;obtain⟨x,sc,bits,N,rfl,x0,x1,b0,bs,N1,N2,fN,q⟩:=h;refine⟨_,(jJ (jT (kE oJ jC T.b_abs L2.sU (kD (j9 jZ (j7 (uD T) hr (jF (pv 1) (jF (pv 0) (jF (pv 2) j5)))) jH))))),?_⟩;refine⟨_,Z,_,Z,_,Z,sc,x,bits,N,Z,J,x0,b0,N1,N2,fN,J,fun t H1 r0 c0 r1 c1 sm h1 S p0 bz big _=>?_⟩;have i3:lY [V.int r0,V.int c0,V.int r1,V.int c1] 3=some (.int c1):=Z;refine⟨t,_,_,_,Z,Z,kJ.of h1,i3,_,Z,?_⟩;have e:(if c1<0 then -c1 else c1)=(c1.natAbs:Int):=by split<;>lia
 rw[e];exact q H1 r0 r1 c0 c1 sm S (by rcases big with z | z<;>lia) (y8 S.p1 b0 bz) (S.c1 J p0)
inductive Lq (K:PySem.W.Frag)(vs:List V)(H:Hp)(Q:VK)(E_:XK):Prop
 | mk (r:Addr)(l:List Int)(sc:Int)(N:Nat)(_:vs=[.ref r,.int sc])(_:H r=some (.lst (l.map V.int)))(_:l.length<=20000)(_:Rx.In sc l)(_:64<=sc)(_:1<=N)(_:N<=9000)(_:sc<2^N)(_:∀Hh:Int,2<=Hh->2*(Hh*Hh)<=sc->sc<8*(Hh*Hh)->(∀H' l1 l2 b,jM H H'->l=l1++l2->Rx.zV sc Hh l1 b->Hh<=b->Q .non H')/\∀t tt H' b,jM H H'->H' t=some (.tup [.ref tt,.int b])->H' tt=some (.lst ((l.map fun x=>Rx.cn (x*b) sc).map V.int))->Rx.zV sc Hh l b->b<Hh->Q (.ref t) H')
theorem zI (T:Txt K mg CF tL tF tM):Df P w K mg base 5 "fractions" ["rests","scale"] (Lq K):=by
 refine kN T.d_fractions zD fun f cdv A outer s H vs Q E hr nd h=>?_;obtain⟨r,l,sc,N,rfl,h1,lz,li,s6,N1,N2,fN,q⟩:=h;have eN:=nT N;refine⟨_,(jE (j8 2 nd (jR kq (jR mU (wJ eM dS dU tV (pv 1)) jH) jH)) (jE (j8 3 nd jH) (jE (kR aI Z (ki (pv 0)) (lG 4 nd) (jE (j8 3 nd (jR ko (pv 3) (j7 (ve T) hr (jF (jR ky (jR ko (pv 4) (pv 3)) (pv 1)) (jF (pv 1) (jF (pv 2) j5)))))) (jJ (kP (k7 wu (wJ eM dS dU tV (pv 3)) (pv 2)) (jJ (jT rQ)) kh)))) (jJ (jT (lI (ke (m5 [("scale",1),("bottom",3)] ["number"] (ki (pv 0)) (fun C s H fp=>⟨(nB 2),kd,(j7 (wA T) hr (ke (jR ko (pv 2) (pv 1)) (pv 0)))⟩)) (pv 3)))))))),?_⟩;refine⟨_,Z,Z,_,Z,Z,_,_,Z,Z,_,_,Z,Z,kK O O,?_⟩;obtain⟨bits,hb⟩:∃bits:Int,bits=(tG sc-2)/2:=⟨_,Z⟩;dsimp only;rw[<-hb];have hf:=Ej s6 hb;have qq:=q _ hf.2.1 hf.2.2.1 hf.2.2.2;obtain⟨Hh,QA⟩:∃Hh:Int,Hh=2^bits.toNat:=⟨_,Z⟩;rw[<-QA] at hf qq;have RR:Hh<=Hh*Hh:=by have:=aq (show 1<=Hh by lia) (show 0<=Hh by lia);lia
 have HN:Hh<2^N:=J;refine⟨_,Z,r,Z,⟨_,jV.of h1⟩,mB (K:=K) (xs:=l.map V.int) (fun i σ H2=>jM H H2/\∃(b:Int)(o:Option V),σ=[some (.ref r),some (.int sc),some (.int bits),some (.int b),o]/\Rx.zV sc Hh (l.take i) b/\b<Hh) ⟨jM.refl _,1,none,Z,.nil,J⟩ (fun i σ H2 _ z=>z.1.seq (jV.of h1)) ?_ ?_⟩
 .rintro i x σ H2 hx ⟨sm,b,o,rfl,fr,bH⟩;obtain⟨u,rfl,hu⟩:=int_at hx;have um:=li u (ah hu);have b0:=fr.pos J;have m0:=aD (u*b) (show sc≠0 by lia);have m1:=az (u*b) (show 0<sc by lia);refine⟨_,Z,_,Z,_,Z,_,_,Z,Z,rp (N:=N) (M:=N) J J J J,_,Z,_,_,Z,Z,(show 0<sc by lia),_,Z,_,Z,_,sc,bits,N,Z,m0,m1,hf.1,by rw[<-QA];lia,N1,N2,fN,fun H3 r0 r1 c0 c1 kT S h0 QB cb=>?_⟩;rw[<-QA] at h0 QB;refine⟨_,_,Z,Z,rp (N:=N) (M:=N) J J J J,?_⟩;have XC:Rx.zV sc Hh (l.take (i+1)) (b*c1.natAbs):=by
   rw[cX,hu];exact fr.snoc S h0 QB
  have b20:=XC.pos J;refine⟨_,Z,Z,_,Z,Z,_,Z,_,_,Z,Z,_,Z,mM (fun c=>?_) (fun c=>?_)⟩
  .have gt:=dec c;have:=CV J hf.1 gt;rw[<-QA] at this;exact qq.1 H3 (l.take (i+1)) (l.drop (i+1)) _ (sm.trans kT) (List.take_append_drop ..).symm XC this
  .have le:=xj c;have:=y8 (x:=b*c1.natAbs) J hf.1 J;rw[<-QA] at this;exact⟨sm.trans kT,_,_,Z,XC,this⟩
 .rintro σ H2 ⟨sm,b,o,rfl,fr,bH⟩;rw[aa,bT] at fr;have b0:=fr.pos J;refine⟨_,Z,r,Z,⟨_,jV.of (sm _ _ h1)⟩,?_⟩;refine lB (K:=K) (xs:=l.map V.int) (l.map fun x=>Rx.cn (x*b) sc) zfP (by rw[aa];exact lz) (jV.of (sm _ _ h1)) ?_ ?_
  .intro i x H3 hx kT R k;obtain⟨u,rfl,hu⟩:=int_at hx;have um:=li u (ah hu);exact⟨_,Z,_,Z,_,_,Z,Z,rp (N:=N) (M:=N) J J J J,_,Z,_,sc,Z,J,k _ _ (jM.refl _) (by rw[af,hu];rfl)⟩
  .intro D H3 kT _ hD;refine⟨_,Z,jI,fun t ht=>?_⟩;exact qq.2 t D _ b (jK (sm.trans kT) ht) jG (jK (jM.refl _) ht _ _ hD) fr bH
def Ho (H:Hp)(rows:List (List Int))(goal:List Int)(k:Nat)(tv:V)(Q:VK):Prop :=
 ((tv=.non/\∀H',jM H H'->Q (.bl false) H')\/∃(t tt:Addr)(tops:List Int)(b:Int),tv=.ref t/\H t=some (.tup [.ref tt,.int b])/\H tt=some (.lst (tops.map V.int))/\tops.length=k/\Bd 20000 tops/\b.natAbs<2^20000 /\
  (∀H',jM H H'->(∀i,i<k->Rx.dot (rows.getD i []) tops=b*Lt.g goal i)->Q (.bl true) H')/\∀H',jM H H'->¬(∀i,i<k->Rx.dot (rows.getD i []) tops=b*Lt.g goal i)->Q (.bl false) H')
inductive Wj (K:PySem.W.Frag)(vs:List V)(H:Hp)(Q:VK)(E_:XK):Prop
 | mk (r s:Addr)(rows:List (List Int))(goal:List Int)(k:Nat)(tv:V)(_:vs=[.ref r,.ref s,tv])(_:k9 H r rows)(_:H s=some (.lst (goal.map V.int)))(_:rows.length=k)(_:∀row∈rows,row.length=k/\Bd 20000 row)(_:goal.length=k)(_:Bd 20000 goal)(_:k<=20000)(_:Ho H rows goal k tv Q)
theorem vM (T:Txt K mg CF tL tF tM):Df P w K mg base 3 "is_solution" ["rows","goal","told"] (Wj K):=by
 refine kN T.d_is_solution vP fun f cdv A outer s H vs Q E hr nd h=>?_;obtain⟨r,s',rows,goal,k,tv,rfl,⟨as,h1,pa⟩,h2,lr,lw,lg,bg,kz,tl⟩:=h;have la:=jY pa;refine⟨_,(jE (kP (k7 zN (pv 2) rQ) (jJ (jT pE)) kh) (jJ (jT (kE (r9 Z) jC T.b_all L2.yz (kD (m5 [("told",2)] ["row","number"] (nF jC T.b_zip (ke (pv 0) (pv 1))) (fun C s H fp=>⟨(tH 1 2),kd,(nZ m7 (j7 (ph T) hr (ke (pv 1) (j9 (tI (K:=K) Z) (pv 0) jH))) (jR ko (j9 (tI (K:=K) Z) (pv 0) jH) (pv 2)) (oZ _))⟩))))))),?_⟩;refine⟨_,Z,Z,_,Z,?_⟩;rcases tl with ⟨rfl,q⟩ | ⟨t,tt,tops,b,rfl,ht,qj,lt,bt,bb,qt,qf⟩
 .exact p8 jB (q H (jM.refl _))
 refine lP jB ?_;have i0:lY [V.ref tt,V.int b] 0=some (.ref tt):=Z;have i1:lY [V.ref tt,V.int b] 1=some (.int b):=Z;refine⟨_,Z,_,Z,r,s',Z,⟨_,jV.of h1⟩,⟨_,jV.of h2⟩,?_⟩;obtain⟨zs,R1⟩:∃zs:List Bool,zs=(List.range k).map fun i=>decide (Rx.dot (rows.getD i []) tops=b*Lt.g goal i):=⟨_,Z⟩;have lzs:zs.length=k:=by rw[R1,aa,gi]
 refine El (K:=K) (xs:=as.map V.ref) (ys:=goal.map V.int) zs (by rw[aa,aa,la,lr,lg]) (by rw[lzs,aa,la,lr]) zfM (jV.of h1) (jV.of h2) ?_ ?_
 .intro i x y H2 p hx hy sm hp R kk;obtain⟨a,row,rfl,ha,kX,hh⟩:=mv pa hx;obtain⟨v,rfl,hv⟩:=int_at hy;have il:i<k:=by rw[<-lr];exact(aF.mp kX).1
  have rl:=lw row (ah kX);have pJ:=jK (o:=.tup [.ref a,.int v]) (jM.refl H2) hp;have HZ:=sm.trans pJ;refine⟨p,_,Z,kJ.of jG,Z,_,_,Z,_,_,Z,Z,?_⟩;refine⟨_,Z,_,Z,t,_,_,_,Z,Z,kJ.of (HZ _ _ ht),i0,a,tt,row,tops,20000,20000,Z,jV.of (HZ _ _ hh),jV.of (HZ _ _ qj),by rw[rl.1,lt],J,rl.2,bt,O,O,fun H3 kT=>?_⟩;refine⟨_,Z,t,_,_,_,Z,Z,kJ.of (kT _ _ (HZ _ _ ht)),i1,_,Z,_,_,Z,Z,rp (N:=20000) (M:=20000) bb (bg v (ah hv)) O O,Z,?_⟩;refine kk _ _ (pJ.trans kT) ?_;rw[R1,af,dh il];show some _=_
  dsimp only;rw[Rx.tq kX,Rx.lJ hv];congr 1;exact decide_eq_decide.mpr ⟨fun e=>by rw[e],fun e=>by injection e⟩
 .intro D H2 sm _ hD;refine⟨D,zs,Z,jV.of hD,?_⟩
  by_cases al:∀i,i<k->Rx.dot (rows.getD i []) tops=b*Lt.g goal i
  .have:zs.all id=true:=by
    rw[dC];intro z hz;rw[R1] at hz;obtain⟨i,hi,rfl⟩:=List.mem_map.mp hz;exact b9 (al i (dX.mp hi))
   rw[this];exact qt H2 sm al
  .have:zs.all id=false:=by
    rcases e:zs.all id with _ | _
    .rfl
    .exfalso;rw[dC] at e;refine al fun i hi=>?_;have:=e (decide (Rx.dot (rows.getD i []) tops=b*Lt.g goal i)) (by rw[R1];exact dF.mpr ⟨i,dX.mpr hi,Z⟩);exact eT this
   rw[this];exact qf H2 sm al
theorem qC {N M:Nat}(h:Bd N l)(le:N<=M):Bd M l:=fun x hx=>bj (h x hx) (bS O le)
inductive OS (K:PySem.W.Frag)(vs:List V)(H:Hp)(Q:VK)(E_:XK):Prop
 | mk (r u s:Addr)(rows us:List (List Int))(goal:List Int)(k E N D B:Nat)(p:Int)(_:vs=[.ref r,.ref u,.int (p^E),.ref s])(_:k9 H r rows)(_:k9 H u us)(_:H s=some (.lst (goal.map V.int)))(_:rows.length=k)(_:∀row∈rows,row.length=k/\Bd N row)(_:us.length=k)(_:∀row∈us,row.length=k/\Bd N row)(_:goal.length=k)(_:Bd N goal)(_:k<=420)(_:1<=N)(_:N<=9000)(_:64<=p^E)(_:Rx.Sc p k (Rx.mt rows) (Rx.fn goal) D B)(_:Mx.RI (p^E) k (Rx.mt rows) (Rx.mt us))(_:1<=B)(_:128*((B:Int)*B)*(128*((B:Int)*B))*p^E<=2^N)(_:∀t tt H' tops b,jM H H'->H' t=some (.tup [.ref tt,.int b])->H' tt=some (.lst (tops.map V.int))->tops.length=k->1<=b->b∣(D:Int)->b<2^N->Bd N tops->(∀i:Nat,i<k->(Ld.S k fun t=>Rx.mt rows i t*Rx.fn tops t)=b*Rx.fn goal i)->Q (.ref t) H')
theorem yh (T:Txt K mg CF tL tF tM):Df P w K mg base 6 "solved" ["rows","undoing","modulus","goal"] (OS K):=by
 refine kN T.d_solved EO fun f cdv A outer s H vs Q E hr nd h=>?_;obtain⟨r,u,s',rows,us,goal,k,E',N,D,B,p,rfl,hR,hU,hG,lr,lw,lu,lv,lg,bg,k4,N1,N2,m6,S,ri,B1,lim,q⟩:=h;obtain⟨as,h1,pa⟩:=id hR;obtain⟨bs,h2,pb⟩:=id hU;have la:=jY pa;have lb:=jY pb;have eN:=nT N;have p2:=S.hp.1;obtain⟨m,hm⟩:∃m:Int,m=p^E':=⟨_,Z⟩;rw[<-hm] at m6 ri lim ⊢;obtain⟨Lm,XD⟩:∃Lm:Int,Lm=128*((B:Int)*B):=⟨_,Z⟩;rw[<-XD] at lim;have Lm1:1<Lm:=by
  have:(1:Int)*1<=(B:Int)*B:=cH J J J J;lia
 have mN:m<2^N:=by
  have a:(2:Int)*2<=Lm*Lm:=cH J J J J;have:=aq a (show 0<=m by lia);lia
 have pw:∀d:Nat,m^d=p^(E'*d):=fun d=>by rw[hm,Int.pow_mul]
 have mp:∀d:Nat,1<=m^d:=fun d=>fL J;have rb:∀i t:Nat,i<k->t<k->(Rx.mt rows i t).natAbs<=2^N:=fun i t hi ht=>by
  rw[Rx.uq];have l:=lw _ (Rx.lh (rows:=rows) (i:=i) J);exact d5 (l.2 _ (Rx.nV J))
 have gb:∀i:Nat,i<k->(Rx.fn goal i).natAbs<=2^N:=fun i hi=>by
  unfold Rx.fn;rw[ae];exact d5 (bg _ (Rx.nV J))
 have lfb:∀(d:Nat)(rests left:List Int),left.length=k->Mx.yC k (Rx.mt rows) (Rx.fn goal) (m^d) (Rx.fn rests) (Rx.fn left)->Bd (N+10) left:=fun d rests left ll lif x hx=>by
  obtain⟨i,hi,e⟩:=Rx.sw hx;have:=Rx.JU (mp d) lif rb gb i J;unfold Rx.fn at this;rw[ae,e] at this;have e10:2^(N+10)=2^N*1024:=by rw[gK]
  have:k*2^N<=420*2^N:=cS _ k4;have:=e8 (n:=N) (show 0<2 by decide);lia
 have Zl:∀(d:Nat)(rests left:List Int),rests.length=k->Mx.yC k (Rx.mt rows) (Rx.fn goal) (m^d) (Rx.fn rests) (Rx.fn left)->Rx.In (m^d) rests:=fun d rests left ll lif x hx=>by
  obtain⟨i,hi,e⟩:=Rx.sw hx;have:=lif.rg i J;unfold Rx.fn at this;rwa [ae,e] at this
 have Nd:∀d j:Nat,m^d<Lm->j<=d+1->m^(d+j)<2^N/\d<N:=fun d j lt le=>by
  have a:m^(d+j)<=m^(d+(d+1)):=by
   rw[show d+(d+1)=d+j+(d+1-j) by lia,eC m (d+j)];have:=ay (mp (d+1-j)) (show 0<=m^(d+j) by have:=mp (d+j);lia);lia
  have b:m^(d+(d+1))=m^d*m^d*m:=by rw[eC,bq,aK]
  have c:m^d*m^d<=(Lm-1)*(Lm-1):=cH J J (by have:=mp d;lia) J;have c2:(Lm-1)*(Lm-1)=Lm*Lm-2*Lm+1:=by grind
  have c3:=aq (show m^d*m^d<=Lm*Lm-1 by lia) (show 0<=m by lia);rw[cN] at c3;refine⟨J,?_⟩;have e1:m^d<=m^(d+(d+1)):=by
   rw[eC];have:=ay (mp (d+1)) (show 0<=m^d by have:=mp d;lia);lia
  have e2:(2:Int)^d<=m^d:=by
   have:=gO (show 2<=m.toNat by lia) d;have e3:((m.toNat^d:Nat):Int)=m^d:=by rw[dM,show ((m.toNat:Nat):Int)=m by lia]
   have e4:=nT d;lia
  have e4:=nT d;exact(Nat.pow_lt_pow_iff_right (a:=2) O).mp J
 refine⟨_,(jE (j8 4 nd (jR oS (lD (kD jH)) (nI T.b_len (pv 3)))) (jE (j8 5 nd (lI (ke (pv 4) jH))) (jE (j8 6 nd (pv 3)) (jE (j8 7 nd jH) (jE (j8 8 nd jH) (jE (mF aI (mZ (mT (j7 (vM T) hr (jF (pv 0) (jF (pv 3) (jF (pv 5) j5)))))) (jE (kR aI Z (mf jC T.b_range (kD (pv 8))) (lG 9 nd) (jE (j8 10 nd (m5 [("modulus",2),("left",6)] ["row"] (ki (pv 1)) (fun C s H fp=>⟨(nB 2),kd,(jR ky (j7 (ph T) hr (ke (pv 2) (pv 1))) (pv 0))⟩))) (jE (j8 6 nd (m5 [("modulus",2),("more",10)] ["row","number"] (nF jC T.b_zip (ke (pv 0) (pv 6))) (fun C s H fp=>⟨(tH 2 3),kd,(jR kq (jR mU (pv 3) (j7 (ph T) hr (ke (pv 2) (pv 1)))) (pv 0))⟩))) (jE (sM 4 [("scale",7)] ["number","beyond"] nd (nF jC T.b_zip (ke (pv 4) (pv 10))) (fun C s H fp=>⟨(tH 1 2),kd,(jR kG (pv 1) (jR ko (pv 0) (pv 2)))⟩)) (jJ (j8 7 nd (jR ko (pv 7) (pv 2)))))))) (jE (j8 5 nd (j7 (zI T) hr (ke (pv 4) (pv 7)))) (jJ (j8 8 nd (jR kG (jR kG (pv 8) (jR kq (pv 8) jH)) jH)))))) (jJ (jT (pv 5))))))))),?_⟩;refine⟨jL,fun lo wX=>⟨_,Z,s',_,Z,.inl (jV.of (jK (jM.refl _) wX _ _ hG)),?_⟩⟩;rw[aa,lg];refine⟨lo,_,_,Z,Z,jG,J,J,zfO,fun tr R3=>?_⟩;rw[rep0];refine⟨_,Z,jI,fun t0 J4=>?_⟩;have NV:=jK (o:=.lst [V.int 0]) (jM.refl H) wX;have smR:=jK (o:=.lst ((List.replicate k (0:Int)).map V.int)) NV R3;have qM:=jK (o:=.tup [V.ref tr,V.int 1]) smR J4;have xD:=jK (o:=.tup [V.ref tr,V.int 1]) (jM.refl _) J4 _ _ (jG (H:=upd H lo (.lst [V.int 0])) (a:=tr) (o:=.lst ((List.replicate k (0:Int)).map V.int)));have Zm:upd (upd (upd H lo (.lst [V.int 0])) tr (.lst ((List.replicate k (0:Int)).map V.int))) t0 (.tup [V.ref tr,V.int 1]) t0=some (.tup [V.ref tr,V.int 1]):=jG;generalize upd (upd (upd H lo (.lst [V.int 0])) tr (.lst ((List.replicate k (0:Int)).map V.int))) t0 (.tup [V.ref tr,V.int 1])=H0 at qM xD Zm ⊢;refine⟨_,Z,?_⟩;have XE:Mx.yC k (Rx.mt rows) (Rx.fn goal) (m^0) (Rx.fn (List.replicate k (0:Int))) (Rx.fn goal):=by
  have z:Rx.fn (List.replicate k (0:Int))=fun _=>0:=by
   funext c;unfold Rx.fn;rcases Nat.lt_or_ge c.toNat k with y | y
   .exact Rx.AD y
   .exact Rx.Az (by rw[aR];exact y)
  rw[z,eI];exact Mx.yC.start ..
 refine⟨fun mm σ H'=>jM H H'/\∃(d many:Nat)(tr tl:Addr)(rests left:List Int)(tv:V)(o1 o2:Option V),σ=[some (.ref r),some (.ref u),some (.int m),some (.ref s'),some (.ref tr),some tv,some (.ref tl),some (.int (m^d)),some (.int many),o1,o2]/\H' tr=some (.lst (rests.map V.int))/\H' tl=some (.lst (left.map V.int))/\rests.length=k/\left.length=k/\Mx.yC k (Rx.mt rows) (Rx.fn goal) (m^d) (Rx.fn rests) (Rx.fn left)/\1<=many/\many<=d+1/\mm=(Lm-m^d).toNat /\
   ((tv=.non/\m^d<Lm)\/∃(t tt:Addr)(tops:List Int)(b:Int),tv=.ref t/\H' t=some (.tup [.ref tt,.int b])/\H' tt=some (.lst (tops.map V.int))/\tops.length=k/\Bd N tops/\1<=b/\b<2^N /\
    ((∀i:Nat,i<k->(Ld.S k fun t=>Rx.mt rows i t*Rx.fn tops t)=b*Rx.fn goal i)->b∣(D:Int))/\(¬(∀i:Nat,i<k->(Ld.S k fun t=>Rx.mt rows i t*Rx.fn tops t)=b*Rx.fn goal i)->m^d<Lm)),
  ⟨_,qM,0,1,tr,s',List.replicate k 0,goal,.ref t0,none,none,by rw[eI];rfl,xD,qM _ _ hG,aR,lg,XE,aH 1,aH 1,Z,.inr ⟨t0,tr,List.replicate k 0,1,Z,Zm,xD,aR,fun x hx=>by rw[(eL.mp hx).2];exact e8 O,dW 1,J,fun _=>fW _,fun _=>by rw[eI];exact Lm1⟩⟩,?_⟩
 rintro mm σ H' ⟨sm,d,many,tr,tl,rests,left,tv,o1,o2,rfl,Ix,hl',CL,ll,lif,mn1,mn2,rfl,tok⟩;have eqs:∀(tops:List Int)(b:Int),tops.length=k->((∀i,i<k->Rx.dot (rows.getD i []) tops=b*Lt.g goal i)↔∀i:Nat,i<k->(Ld.S k fun t=>Rx.mt rows i t*Rx.fn tops t)=b*Rx.fn goal i):=fun tops b lt=>by
  have e:∀i,i<k->(Rx.dot (rows.getD i []) tops=b*Lt.g goal i↔(Ld.S k fun t=>Rx.mt rows i t*Rx.fn tops t)=b*Rx.fn goal i):=fun i hi=>by
   rw[Rx.Bn lr (fun row h=>(lw row h).1) hi lt];unfold Rx.fn;rw[ae]
  exact⟨fun h i hi=>(e i hi).mp (h i hi),fun h i hi=>(e i hi).mpr (h i hi)⟩
 have Nf:∀row∈rows,row.length=k/\Bd 20000 row:=fun row h=>⟨(lw row h).1,qC (lw row h).2 J⟩;have Ng:Bd 20000 goal:=qC bg J;have CM:∀Qq:VK,(∀H1,jM H' H1->m^d<Lm->Qq (.bl false) H1)->(∀H1 t tt tops b,jM H' H1->tv=.ref t->H' t=some (.tup [.ref tt,.int b])->H' tt=some (.lst (tops.map V.int))->tops.length=k->Bd N tops->1<=b->b<2^N->b∣(D:Int)->(∀i:Nat,i<k->(Ld.S k fun t=>Rx.mt rows i t*Rx.fn tops t)=b*Rx.fn goal i)->Qq (.bl true) H1) ->
   Ho H' rows goal k tv Qq:=fun Qq F Y=>by
  rcases tok with ⟨e,lt⟩ | ⟨t,tt,tops,b,e,ht,qj,lt,bt,b1,b2,y,n⟩
  .exact .inl ⟨e,fun H1 s1=>F H1 s1 lt⟩
  .exact .inr ⟨t,tt,tops,b,e,ht,qj,lt,qC bt J,bj (show b.natAbs<2^N by lia) (bS O J),fun H1 s1 al=>Y H1 t tt tops b s1 e ht qj lt bt b1 b2 (y ((eqs tops b lt).mp al)) ((eqs tops b lt).mp al),fun H1 s1 al=>F H1 s1 (n fun z=>al ((eqs tops b lt).mpr z))⟩
 clear tok;refine⟨_,Z,_,Z,_,Z,r,s',rows,goal,k,tv,Z,hR.same sm,sm _ _ hG,lr,Nf,lg,Ng,J,CM _ (fun H1 lH lt=>?_) (fun H1 t tt tops b lH e ht qj lt bt b1 b2 bD sol=>?_)⟩
 rotate_left
 .refine⟨_,Z,lP O ?_⟩;subst e;exact⟨_,Z,q t tt H1 tops b (sm.trans lH) (lH _ _ ht) (lH _ _ qj) lt b1 bD b2 bt sol⟩
 refine⟨_,Z,p8 O ⟨_,fun _ _ h=>h,?_⟩⟩;have J7:=sm.trans lH;have dN:=(Nd d 0 lt J).2;refine⟨_,Z,many,Z,J,J,oP (n:=many) (fun j σ H2=>jM H H2/\∃(tr tl:Addr)(rests left:List Int)(o1 o2:Option V),σ=[some (.ref r),some (.ref u),some (.int m),some (.ref s'),some (.ref tr),some tv,some (.ref tl),some (.int (m^(d+j))),some (.int many),o1,o2]/\H2 tr=some (.lst (rests.map V.int))/\H2 tl=some (.lst (left.map V.int))/\rests.length=k/\left.length=k/\Mx.yC k (Rx.mt rows) (Rx.fn goal) (m^(d+j)) (Rx.fn rests) (Rx.fn left)) ⟨J7,tr,tl,rests,left,o1,o2,Z,lH _ _ Ix,lH _ _ hl',CL,ll,lif⟩ ?_ ?_⟩
 .rintro j σ H2 hj ⟨lE,tr,tl,rests,left,o1,o2,rfl,Ix,hl',CL,ll,lif⟩;have R4:=lfb (d+j) rests left ll lif;have Zo:=Zl (d+j) rests left CL lif;have Zp:=Nd d j lt J;have Zq:=lE _ _ h2;refine⟨_,Z,u,Z,⟨_,jV.of Zq⟩,?_⟩;obtain⟨more,DZ⟩:∃more:List Int,more=us.map fun u=>Rx.dot u left%m:=⟨_,Z⟩;have lm:more.length=k:=by rw[DZ,aa,lu]
  have XF:Rx.In m more:=by rw[DZ];intro x hx;obtain⟨y,_,rfl⟩:=List.mem_map.mp hx;exact⟨Int.emod_nonneg _ J,Int.emod_lt_of_pos _ J⟩
  refine lB (K:=K) (xs:=bs.map V.ref) more (by rw[lm,aa,lb,lu]) zfM (jV.of Zq) ?_ ?_
  .intro i x H3 hx kT R kk;obtain⟨a,row,rfl,ha,kX,hh⟩:=mv pb hx;have rl:=lv row (ah kX);exact⟨_,Z,_,Z,a,tl,row,left,N,N+10,Z,jV.of (kT _ _ (lE _ _ hh)),jV.of (kT _ _ hl'),by rw[rl.1,ll],J,rl.2,R4,J,J,fun H4 lZ=>⟨_,Z,_,_,Z,Z,(show 0<m by lia),kk _ _ lZ (by rw[DZ,af,kX];rfl)⟩⟩
  intro tm H3 kT _ Zr;have QB:=kT _ _ (lE _ _ h1);have Nh:=kT _ _ hl';have mb:Bd N more:=fun x hx=>by have:=XF x hx;lia
  refine⟨_,Z,_,Z,r,tl,Z,⟨_,jV.of QB⟩,⟨_,jV.of Nh⟩,?_⟩;obtain⟨nU,Ia⟩:∃nU:List Int,nU=List.zipWith (fun row x=>(x-Rx.dot row more)/m) rows left:=⟨_,Z⟩;have Zs:nU.length=k:=by rw[Ia,dQ,lr,ll,fR]
  refine oQ (K:=K) (xs:=as.map V.ref) (ys:=left.map V.int) nU (by rw[aa,aa,la,lr,ll]) (by rw[Zs,aa,la,lr]) zfM (jV.of QB) (jV.of Nh) ?_ ?_
  .intro i x y H4 pp hx hy lZ zR R kk;obtain⟨a,row,rfl,ha,kX,hh⟩:=mv pa hx;obtain⟨v,rfl,hv⟩:=int_at hy;have rl:=lw row (ah kX);have pJ:=jK (o:=.tup [.ref a,.int v]) (jM.refl H4) zR;refine⟨pp,_,Z,kJ.of jG,Z,_,_,Z,_,_,Z,Z,?_⟩;exact⟨_,Z,_,Z,_,Z,a,tm,row,more,N,N,Z,jV.of (pJ _ _ (lZ _ _ (kT _ _ (lE _ _ hh)))),jV.of (pJ _ _ (lZ _ _ Zr)),by rw[rl.1,lm],J,rl.2,mb,J,J,fun H5 mJ=>⟨_,_,Z,Z,_,Z,_,_,Z,Z,sW J (show m.natAbs<2^N by lia) N2,kk _ _ (pJ.trans mJ) (by rw[Ia,bY,kX,hv])⟩⟩
  intro tl2 H4 lZ _ RY;have Zt:=lZ _ _ (kT _ _ Ix);have R5:=lZ _ _ Zr;refine⟨_,Z,_,Z,tr,tm,Z,⟨_,jV.of Zt⟩,⟨_,jV.of R5⟩,?_⟩;obtain⟨wZ,CO⟩:∃wZ:List Int,wZ=List.zipWith (fun r y=>r+m^(d+j)*y) rests more:=⟨_,Z⟩;have QC:wZ.length=k:=by rw[CO,dQ,CL,lm,fR]
  refine oQ (K:=K) (xs:=rests.map V.int) (ys:=more.map V.int) wZ (by rw[aa,aa,CL,lm]) (by rw[QC,aa,CL]) zfM (jV.of Zt) (jV.of R5) ?_ ?_
  .intro i x y H5 pp hx hy mJ zR R kk;obtain⟨v1,rfl,hv1⟩:=int_at hx;obtain⟨v2,rfl,Zu⟩:=int_at hy;refine⟨pp,_,Z,kJ.of jG,Z,_,_,Z,_,_,Z,Z,?_⟩;have:=mp (d+j);exact⟨_,Z,_,Z,_,Z,_,_,Z,Z,rp (N:=N+1) (M:=N) (by rw[dE];lia) (mb v2 (ah Zu)) J J,_,_,Z,Z,kk _ _ (jK (jM.refl _) zR) (by rw[CO,bY,hv1,Zu])⟩
  intro tr2 H5 mJ _ NU;have:=mp (d+j);refine⟨_,Z,_,Z,_,_,Z,Z,rp (N:=N+1) (M:=N+1) (by rw[dE];lia) (by rw[dE];lia) J J,?_⟩;refine⟨((lE.trans kT).trans lZ).trans mJ,tr2,tl2,wZ,nU,some (V.int j),some (V.ref tm),?_,NU,mJ _ _ RY,QC,Zs,?_⟩
  .rw[show d+(j+1)=d+j+1 from Z,bq];rfl
  .rw[show d+(j+1)=d+j+1 from Z,bq,Ia,CO];exact Rx.HC J (mp (d+j)) lr (fun row h=>(lw row h).1) lu (fun row h=>(lv row h).1) CL ll ri lif DZ
 .rintro σ H2 ⟨lE,tr,tl,rests,left,o1,o2,rfl,Ix,hl',CL,ll,lif⟩;have Zp:=Nd d many lt mn2;have Zo:=Zl (d+many) rests left CL lif;have Rv:64<=m^(d+many):=by
   rw[show d+many=d+many-1+1 by lia,bq];have:=aq (mp (d+many-1)) (show 0<=m by lia);lia
  have grow:m^d<m^(d+many):=by
   rw[eC];have a:m<=m^many:=by
    rw[show many=many-1+1 by lia,bq];have:=aq (mp (many-1)) (show 0<=m by lia);lia
   have:=ay (show 2<=m^many by lia) (show 0<=m^d by have:=mp d;lia);have:=mp d;lia
  have ew:=pw (d+many);have J8:=lif;rw[ew] at J8;have em:(many:Int)+(many:Int)/2+1=((many+many/2+1:Nat):Int):=J;have Zv:many+many/2+1<=d+many+1:=J;have fnm:∀(b:Int),Rx.fn (rests.map fun x=>Rx.cn (x*b) (m^(d+many)))=fun t=>if t.toNat<k then Rx.cn (Rx.fn rests t*b) (m^(d+many)) else 0:=fun b=>by
   funext t;unfold Rx.fn
   by_cases c:t.toNat<k
   .rw[aC c,Rx.qP J]
   .rw[ak c,Rx.Az zfM]
  refine⟨_,Z,_,Z,tr,rests,m^(d+many),N,Z,Ix,J,Zo,Rv,N1,N2,Zp.1,fun Hh h2h HH H8=>⟨fun H3 l1 l2 b kT el fr Hb=>?_,fun t tt H3 b kT ht qj fr bH=>?_⟩⟩
  .have lt':m^(d+many)<Lm:=by
    rw[XD,ew];rw[ew] at fr HH H8;exact S.none J8 CL el fr Hb J HH H8
   refine⟨_,Z,_,Z,_,_,Z,Z,kK O O,_,_,Z,Z,_,_,Z,Z,?_⟩;exact⟨(Lm-m^(d+many)).toNat,J,lE.trans kT,d+many,many+many/2+1,tr,tl,rests,left,.non,o1,o2,(by rw[<-em];rfl),kT _ _ Ix,kT _ _ hl',CL,ll,lif,J,Zv,Z,.inl ⟨Z,lt'⟩⟩
  .have RR:Hh<=Hh*Hh:=by have:=aq (show 1<=Hh by lia) (show 0<=Hh by lia);lia
   have b0:=fr.pos J;have sc0:0<m^(d+many):=J;have key:(∀i:Nat,i<k->(Ld.S k fun t=>Rx.mt rows i t*Rx.fn (rests.map fun x=>Rx.cn (x*b) (m^(d+many))) t)=b*Rx.fn goal i)↔∀i:Nat,i<k->(Ld.S k fun t=>Rx.mt rows i t*Rx.cn (Rx.fn rests t*b) (p^(E'*(d+many))))=b*Rx.fn goal i:=by
    have e:∀i:Nat,(Ld.S k fun t=>Rx.mt rows i t*Rx.fn (rests.map fun x=>Rx.cn (x*b) (m^(d+many))) t)=Ld.S k fun t=>Rx.mt rows i t*Rx.cn (Rx.fn rests t*b) (p^(E'*(d+many))):=fun i=>Ld.jO fun t ht=>by
     rw[fnm,<-ew];dsimp only;rw[aC J]
    exact⟨fun h i hi=>by rw[<-e];exact h i hi,fun h i hi=>by rw[e];exact h i hi⟩
   refine⟨_,Z,_,Z,_,_,Z,Z,kK O O,_,_,Z,Z,_,_,Z,Z,?_⟩;refine⟨(Lm-m^(d+many)).toNat,J,lE.trans kT,d+many,many+many/2+1,tr,tl,rests,left,.ref t,o1,o2,(by rw[<-em];rfl),kT _ _ Ix,kT _ _ hl',CL,ll,lif,J,Zv,Z,.inr ⟨t,tt,_,b,Z,ht,qj,by rw[aa,CL],fun x hx=>?_,J,J,fun sol=>?_,fun nsol=>?_⟩⟩
   .obtain⟨y,_,rfl⟩:=List.mem_map.mp hx;have r0:=aD (y*b) (show m^(d+many)≠0 by lia);have r1:=az (y*b) sc0;unfold Rx.cn;split<;>lia
   .have XG:=key.mp sol;rw[ew] at fr HH;exact S.bot J8 CL fr bH J HH XG
   .rw[XD,ew];rw[ew] at fr HH H8;exact S.not J8 CL fr J HH H8 fun z=>nsol (key.mpr z)
theorem Jc {X:Cx}{K:PySem.W.Frag}{e:Expr}{f:Str}{pos:Pos}{ta:TE}(h:X.K=K)(he:PE X e ta)(hb:attributeBase e f X.env (eval e X.env)=eval e X.env):PE X (.Attribute e f pos) (OY K ta f):=by subst h;exact mw he hb
theorem n6 (f:Str)(v:V):∀{fs:List (Str×V)}{n:Nat},fs.length<=n->(mO f v fs).length<=n+1
 | [],n,_=>by show 1<=n+1;lia
 | (g,x)::r,n,h=>by
  show (if g=f then (g,v)::r else (g,x)::mO f v r).length<=n+1
  rw[bw] at h;split
  .rw[bw];lia
  .rw[bw];have:=n6 f v (fs:=r) (n:=n-1) J;lia
def F1 (w:Int):List (Str×V):=mO "size" (.int w) []
theorem Fv (w:Int):(F1 w).length<=1:=by
 unfold F1;exact n6 _ _ (aH 0)
def F2 (w:Int)(p:Int):List (Str×V):=mO "prime" (.int p) (F1 w)
theorem Gw (w:Int)(p:Int):(F2 w p).length<=2:=by
 unfold F2;exact n6 _ _ (Fv w)
def F3 (w:Int)(p:Int)(fo:Addr):List (Str×V):=mO "found" (.ref fo) (F2 w p)
theorem GA (w:Int)(p:Int)(fo:Addr):(F3 w p fo).length<=3:=by
 unfold F3;exact n6 _ _ (Gw w p)
def F4 (w:Int)(p:Int)(fo:Addr)(ch:Addr):List (Str×V):=mO "chosen" (.ref ch) (F3 w p fo)
theorem Fg (w:Int)(p:Int)(fo:Addr)(ch:Addr):(F4 w p fo ch).length<=4:=by
 unfold F4;exact n6 _ _ (GA w p fo)
def F5 (w:Int)(p:Int)(fo:Addr)(ch:Addr)(co:Addr):List (Str×V):=mO "columns" (.ref co) (F4 w p fo ch)
theorem FI (w:Int)(p:Int)(fo:Addr)(ch:Addr)(co:Addr):(F5 w p fo ch co).length<=5:=by
 unfold F5;exact n6 _ _ (Fg w p fo ch)
def F6 (w:Int)(p:Int)(fo:Addr)(ch:Addr)(co:Addr)(ro:Addr):List (Str×V):=mO "rows" (.ref ro) (F5 w p fo ch co)
theorem Fe (w:Int)(p:Int)(fo:Addr)(ch:Addr)(co:Addr)(ro:Addr):(F6 w p fo ch co ro).length<=6:=by
 unfold F6;exact n6 _ _ (FI w p fo ch co)
def F7 (w:Int)(p:Int)(fo:Addr)(ch:Addr)(co:Addr)(ro:Addr)(md:Int):List (Str×V):=mO "modulus" (.int md) (F6 w p fo ch co ro)
theorem MM (w:Int)(p:Int)(fo:Addr)(ch:Addr)(co:Addr)(ro:Addr)(md:Int):(F7 w p fo ch co ro md).length<=7:=by
 unfold F7;exact n6 _ _ (Fe w p fo ch co ro)
def F8 (w:Int)(p:Int)(fo:Addr)(ch:Addr)(co:Addr)(ro:Addr)(md:Int)(un:Addr):List (Str×V):=mO "undoing" (.ref un) (F7 w p fo ch co ro md)
theorem Gq (w:Int)(p:Int)(fo:Addr):(F3 w p fo).lookup ("found":Str)=some (.ref fo):=by
 unfold F3;rw[jQ,aC Z]
theorem FA (w:Int)(p:Int)(fo:Addr)(ch:Addr):(F4 w p fo ch).lookup ("found":Str)=some (.ref fo):=by
 unfold F4;rw[jQ,ak L];unfold F3;rw[jQ,aC Z]
theorem Ep (w:Int)(p:Int)(fo:Addr)(ch:Addr)(co:Addr):(F5 w p fo ch co).lookup ("chosen":Str)=some (.ref ch):=by
 unfold F5;rw[jQ,ak L];unfold F4;rw[jQ,aC Z]
theorem BL (w:Int)(p:Int)(fo:Addr)(ch:Addr)(co:Addr):(F5 w p fo ch co).lookup ("columns":Str)=some (.ref co):=by
 unfold F5;rw[jQ,aC Z]
theorem Jq (w:Int)(p:Int)(fo:Addr)(ch:Addr)(co:Addr)(ro:Addr)(md:Int):(F7 w p fo ch co ro md).lookup ("rows":Str)=some (.ref ro):=by
 unfold F7;rw[jQ,ak L];unfold F6;rw[jQ,aC Z]
theorem Bo (w:Int)(p:Int)(fo:Addr)(ch:Addr)(co:Addr)(ro:Addr)(md:Int):(F7 w p fo ch co ro md).lookup ("modulus":Str)=some (.int md):=by
 unfold F7;rw[jQ,aC Z]
theorem JI (w:Int)(p:Int)(fo:Addr)(ch:Addr)(co:Addr)(ro:Addr)(md:Int)(un:Addr):(F8 w p fo ch co ro md un).lookup ("size":Str)=some (.int w):=by
 unfold F8;rw[jQ,ak L];unfold F7;rw[jQ,ak L];unfold F6;rw[jQ,ak L];unfold F5;rw[jQ,ak L];unfold F4;rw[jQ,ak L];unfold F3;rw[jQ,ak L];unfold F2;rw[jQ,ak L];unfold F1;rw[jQ,aC Z]
theorem GJ (w:Int)(p:Int)(fo:Addr)(ch:Addr)(co:Addr)(ro:Addr)(md:Int)(un:Addr):(F8 w p fo ch co ro md un).lookup ("prime":Str)=some (.int p):=by
 unfold F8;rw[jQ,ak L];unfold F7;rw[jQ,ak L];unfold F6;rw[jQ,ak L];unfold F5;rw[jQ,ak L];unfold F4;rw[jQ,ak L];unfold F3;rw[jQ,ak L];unfold F2;rw[jQ,aC Z]
theorem FD (w:Int)(p:Int)(fo:Addr)(ch:Addr)(co:Addr)(ro:Addr)(md:Int)(un:Addr):(F8 w p fo ch co ro md un).lookup ("found":Str)=some (.ref fo):=by
 unfold F8;rw[jQ,ak L];unfold F7;rw[jQ,ak L];unfold F6;rw[jQ,ak L];unfold F5;rw[jQ,ak L];unfold F4;rw[jQ,ak L];unfold F3;rw[jQ,aC Z]
theorem ye (w:Int)(p:Int)(fo:Addr)(ch:Addr)(co:Addr)(ro:Addr)(md:Int)(un:Addr):(F8 w p fo ch co ro md un).lookup ("chosen":Str)=some (.ref ch):=by
 unfold F8;rw[jQ,ak L];unfold F7;rw[jQ,ak L];unfold F6;rw[jQ,ak L];unfold F5;rw[jQ,ak L];unfold F4;rw[jQ,aC Z]
theorem wx (w:Int)(p:Int)(fo:Addr)(ch:Addr)(co:Addr)(ro:Addr)(md:Int)(un:Addr):(F8 w p fo ch co ro md un).lookup ("columns":Str)=some (.ref co):=by
 unfold F8;rw[jQ,ak L];unfold F7;rw[jQ,ak L];unfold F6;rw[jQ,ak L];unfold F5;rw[jQ,aC Z]
theorem DQ (w:Int)(p:Int)(fo:Addr)(ch:Addr)(co:Addr)(ro:Addr)(md:Int)(un:Addr):(F8 w p fo ch co ro md un).lookup ("rows":Str)=some (.ref ro):=by
 unfold F8;rw[jQ,ak L];unfold F7;rw[jQ,ak L];unfold F6;rw[jQ,aC Z]
theorem wE (w:Int)(p:Int)(fo:Addr)(ch:Addr)(co:Addr)(ro:Addr)(md:Int)(un:Addr):(F8 w p fo ch co ro md un).lookup ("modulus":Str)=some (.int md):=by
 unfold F8;rw[jQ,ak L];unfold F7;rw[jQ,aC Z]
theorem vZ (w:Int)(p:Int)(fo:Addr)(ch:Addr)(co:Addr)(ro:Addr)(md:Int)(un:Addr):(F8 w p fo ch co ro md un).lookup ("undoing":Str)=some (.ref un):=by
 unfold F8;rw[jQ,aC Z]
theorem Ed (w:Int)(p:Int)(fo:Addr)(ch:Addr)(co:Addr)(ro:Addr)(md:Int)(un:Addr):(F8 w p fo ch co ro md un).lookup ("missed":Str)=none:=by
 unfold F8;rw[jQ,ak L];unfold F7;rw[jQ,ak L];unfold F6;rw[jQ,ak L];unfold F5;rw[jQ,ak L];unfold F4;rw[jQ,ak L];unfold F3;rw[jQ,ak L];unfold F2;rw[jQ,ak L];unfold F1;rw[jQ,ak L];rfl
theorem xO (w:Int)(p:Int)(fo:Addr)(ch:Addr)(co:Addr)(ro:Addr)(md:Int)(un:Addr):(F8 w p fo ch co ro md un).lookup ("counts":Str)=none:=by
 unfold F8;rw[jQ,ak L];unfold F7;rw[jQ,ak L];unfold F6;rw[jQ,ak L];unfold F5;rw[jQ,ak L];unfold F4;rw[jQ,ak L];unfold F3;rw[jQ,ak L];unfold F2;rw[jQ,ak L];unfold F1;rw[jQ,ak L];rfl
theorem wd (w:Int)(p:Int)(fo:Addr)(ch:Addr)(co:Addr)(ro:Addr)(md:Int)(un:Addr):(F8 w p fo ch co ro md un).lookup ("weights":Str)=none:=by
 unfold F8;rw[jQ,ak L];unfold F7;rw[jQ,ak L];unfold F6;rw[jQ,ak L];unfold F5;rw[jQ,ak L];unfold F4;rw[jQ,ak L];unfold F3;rw[jQ,ak L];unfold F2;rw[jQ,ak L];unfold F1;rw[jQ,ak L];rfl
structure wf (C:Addr)(H:Hp)(x:Addr)(p:Int)(w:Nat)(steps:List (List Int))(fs:List Rx.Fd)(us:List (List Int)):Prop where
 ex:∃dx fo ch co ro un,H x=some (.ins C dx (F8 w p fo ch co ro (p^16) un))/\rh H fo fs/\H ch=some (.lst ((ni (Rx.numsOf fs)).map V.int))/\H co=some (.lst ((ni (Rx.kf fs)).map V.int))/\k9 H ro (Rx.rowsOf steps fs)/\k9 H un us
theorem wf.same {C:Addr}{H H':Hp}(sm:jM H H'){x:Addr}{p:Int}{w:Nat}{steps:List (List Int)}{fs:List Rx.Fd}{us:List (List Int)}(h:wf C H x p w steps fs us):wf C H' x p w steps fs us:=by
 obtain⟨dx,fo,ch,co,ro,un,a,b,c,d,e,f⟩:=h.ex;exact⟨dx,fo,ch,co,ro,un,sm _ _ a,b.same sm,sm _ _ c,sm _ _ d,e.same sm,f.same sm⟩
theorem mI {H:Hp}{x b C dx:Addr}{fs:List (Str×V)}{l:List V}{o:HO}(hx:H x=some (.ins C dx fs))(hb:H b=some (.lst l)):upd H x o b=some (.lst l):=(jW (nK hb hx (by intro z;cases z))).trans hb
theorem qD {H:Hp}{x C dx:Addr}{fs:List (Str×V)}{o:HO}(hx:H x=some (.ins C dx fs))(h:k9 H r rows):k9 (upd H x o) r rows :=
 let ⟨as,h1,h2⟩:=h;⟨as,mI hx h1,mY h2 fun _ _ z=>mI hx z⟩
theorem rh.NB {H:Hp}{x C dx:Addr}{fl:List (Str×V)}{o:HO}(hx:H x=some (.ins C dx fl)){fs:List Rx.Fd}(h:rh H r fs):rh (upd H x o) r fs :=
 let ⟨as,h1,h2⟩:=h;⟨as,mI hx h1,mY h2 fun _ _ ⟨b,u,v⟩=>⟨b,(jW (nK u hx (by intro z;cases z))).trans u,mI hx v⟩⟩
def Kx (x:Addr)(H H':Hp):Prop:=∀b o,H b=some o->b≠x->H' b=some o
theorem Kx.upd {x:Addr}{H H':Hp}(h:Kx x H H')(o:HO):Kx x H (upd H' x o):=fun b u e ne=>by rw[jW ne];exact h b u e ne
theorem Kx.same {x:Addr}{H H' Zw:Hp}(h:Kx x H H')(sm:jM H' Zw):Kx x H Zw:=fun b u e ne=>sm _ _ (h b u e ne)
structure Kq (p:Int)(w N:Nat)(steps:List (List Int))(fs:List Rx.Fd)(us:List (List Int)):Prop where
 crn:Rx.qE p w steps steps.length fs
 ul:us.length=fs.length
 uw:∀u∈us,u.length=fs.length/\Bd N u
 li:Mx.LI (p^16) fs.length (Rx.mt us) (Rx.mt (Rx.rowsOf steps fs))
theorem zu {p:Int}{w N:Nat}{steps:List (List Int)}{fs:List Rx.Fd}(h:Rx.qE p w steps steps.length fs)(lw:∀x∈steps,x.length=w/\Bd N x):∀row∈Rx.rowsOf steps fs,row.length=fs.length/\Bd N row:=fun row kX=>by
 refine⟨Rx.mh.2 row kX,fun y hy=>?_⟩;unfold Rx.rowsOf at kX;obtain⟨f,hf,rfl⟩:=List.mem_map.mp kX;obtain⟨c,hc,rfl⟩:=List.mem_map.mp hy;have l:=lw _ (Rx.lh (rows:=steps) (h.lt f hf));exact l.2 _ (Rx.nV (by rw[l.1];exact Rx.nQ h c hc))
inductive MH (C:Addr)(vs:List V)(H:Hp)(Q:VK)(E_:XK):Prop
 | mk (x s dx:Addr)(steps:List (List Int))(p:Int)(w N:Nat)(_:vs=[.ref x,.ref s,.int w,.int p])(_:H x=some (.ins C dx []))(_:k9 H s steps)(_:∀y∈steps,y.length=w/\Bd N y)(_:w<=420)(_:steps.length<=20000)(_:Pt.mR p)(_:p<2^30)(_:480<=N)(_:N<=9000)(_:∀H' fs us,Kx x H H'->wf C H' x p w steps fs us->Kq p w N steps fs us->Q .non H')
theorem xr (T:Txt K mg CF tL tF tM):Kf P w K mg base 6 CF "Frame" ["self","steps","size","prime"] (MH CF):=by
 refine T.m_Frame_init.ok sj (fun vs H Q E h=>?_) (fun f cdv A outer s H vs Q E hr h=>?_)
 .obtain⟨_,_,_,_,_,_,_,rfl,_⟩:=h;rfl
 obtain⟨x,s',dx,steps,p,w',N,rfl,hx,hS,lw,w4,ls,hp,IA,N4,N9,q⟩:=h;have p2:=hp.1;have nd:=sj.nd;have p16:p^16<2^N:=by
  have a:=iW (show p.toNat<2^30 by lia) (show 16≠0 by decide);have b:=bS (n:=2) O N4;have c:((p.toNat^16:Nat):Int)=p^16:=by rw[dM,show ((p.toNat:Nat):Int)=p by lia]
  have d:(2^30)^16=2^480:=by rw[<-Nat.pow_mul]
  rw[d] at a;have e:=nT N;have:=bj a b;lia
 refine⟨_,(jE (rW (pv 0) (pv 2) Z) (jE (rW (pv 0) (pv 3) Z) (jE (rW (pv 0) (j7 (Cq T) hr (ke (pv 1) (pv 3))) Z) (jE (rW (pv 0) (m5 [] ["number","column","row"] (ki (mw (pv 0) Z)) (fun C s H fp=>⟨(me Z (j6 (nY (i:=0) (show (["number","column","row"]:List Str).Nodup by decide +kernel) Z (Or.inl Z) (Or.inr Z)) (j6 (nY (i:=1) (show (["number","column","row"]:List Str).Nodup by decide +kernel) Z (Or.inl Z) (Or.inr Z)) (j6 (nY (i:=2) (show (["number","column","row"]:List Str).Nodup by decide +kernel) Z (Or.inl Z) (Or.inr Z)) lC)))),kd,(pv 0)⟩) (hl:=(pC O O O))) Z) (jE (rW (pv 0) (m5 [] ["number","column","row"] (ki (mw (pv 0) Z)) (fun C s H fp=>⟨(me Z (j6 (nY (i:=0) (show (["number","column","row"]:List Str).Nodup by decide +kernel) Z (Or.inl Z) (Or.inr Z)) (j6 (nY (i:=1) (show (["number","column","row"]:List Str).Nodup by decide +kernel) Z (Or.inl Z) (Or.inr Z)) (j6 (nY (i:=2) (show (["number","column","row"]:List Str).Nodup by decide +kernel) Z (Or.inl Z) (Or.inr Z)) lC)))),kd,(pv 1)⟩) (hl:=(pC O O O))) Z) (jE (rW (pv 0) (m5 [("steps",1),("self",0)] ["number"] (ki (mw (pv 0) Z)) (fun C s H fp=>⟨(nB 2),kd,(j7 (uF T) hr (ke (j9 (oU (K:=K) Z) (pv 0) (pv 2)) (Jc (K:=K) Z (pv 1) Z)))⟩)) Z) (jE (rW (pv 0) (jR yO (pv 3) jH) Z) (jJ (rW (pv 0) (j7 (wO T) hr (ke (mw (pv 0) Z) (mw (pv 0) Z))) Z))))))))),?_⟩
 -- size,prime
 refine⟨_,Z,_,Z,x,CF,dx,[],Z,hx,T.cl_Frame,T.na_size,(by show 0<1000;decide),?_⟩;have k1:Kx x H (upd H x (.ins CF dx (F1 w'))):=Kx.upd (fun b o e _=>e) _;have x1:upd H x (.ins CF dx (F1 w')) x=some (.ins CF dx (F1 w')):=jG;have S1:k9 (upd H x (.ins CF dx (F1 w'))) s' steps:=qD hx hS;show _
 have e1:upd H x (.ins CF dx (mO "size" (.int w') []))=upd H x (.ins CF dx (F1 w')):=Z;rw[e1];generalize upd H x (.ins CF dx (F1 w'))=H1 at k1 x1 S1 ⊢;refine⟨_,Z,_,Z,x,CF,dx,_,Z,x1,T.cl_Frame,T.na_prime,bZ (Fv _) O,?_⟩;have k2:Kx x H (upd H1 x (.ins CF dx (F2 w' p))):=k1.upd _;have x2:upd H1 x (.ins CF dx (F2 w' p)) x=some (.ins CF dx (F2 w' p)):=jG;have S2:k9 (upd H1 x (.ins CF dx (F2 w' p))) s' steps:=qD x1 S1;have e2:upd H1 x (.ins CF dx (mO "prime" (.int p) (F1 w')))=upd H1 x (.ins CF dx (F2 w' p)):=Z;rw[e2];generalize upd H1 x (.ins CF dx (F2 w' p))=H2 at k2 x2 S2 ⊢
 -- found
 refine⟨_,Z,_,Z,s',steps,p,w',N,Z,S2,fun y hy=>(lw y hy).1,J,ls,hp,by have e:=nT N;have:=bS (n:=2) O (show 30<=N by lia);lia,J,N9,fun fo H3 fs kT nfo hfo crn=>?_⟩;have kl:=crn.fr.Ea hp;have x3:=kT _ _ x2;refine⟨_,Z,x,CF,dx,_,Z,x3,T.cl_Frame,T.na_found,bZ (Gw _ _) O,?_⟩;have k4:Kx x H (upd H3 x (.ins CF dx (F3 w' p fo))):=(k2.same kT).upd _;have x4:upd H3 x (.ins CF dx (F3 w' p fo)) x=some (.ins CF dx (F3 w' p fo)):=jG;have S4:k9 (upd H3 x (.ins CF dx (F3 w' p fo))) s' steps:=qD x3 (S2.same kT);have f4:rh (upd H3 x (.ins CF dx (F3 w' p fo))) fo fs:=hfo.NB x3;have e3:upd H3 x (.ins CF dx (mO "found" (.ref fo) (F2 w' p)))=upd H3 x (.ins CF dx (F3 w' p fo)):=Z;rw[e3];generalize upd H3 x (.ins CF dx (F3 w' p fo))=H4 at k4 x4 S4 f4 ⊢
 -- chosen
 obtain⟨as,fa,fp⟩:=id f4;have la:=jY fp;refine⟨_,Z,x,CF,dx,_,_,Z,x4,T.cl_Frame,T.na_found,Gq _ _ _,fo,Z,⟨_,jV.of fa⟩,?_⟩;refine lB (K:=K) (xs:=as.map V.ref) (ni (Rx.numsOf fs)) (by rw[aa,aa];unfold Rx.numsOf;rw[List.length_map,la]) (by rw[List.length_map];lia) (jV.of fa) ?_ ?_
 .intro i y H5 hy mJ R kk;obtain⟨a,rfl,ha⟩:=oh hy;obtain⟨f,hf,b,ht,hb⟩:=kQ fp ha;exact⟨a,_,Z,kJ.of (mJ _ _ ht),Z,_,_,Z,_,_,Z,_,_,Z,Z,_,Z,kk _ _ (jM.refl _) (by unfold Rx.numsOf;rw[List.getElem?_map,List.getElem?_map,hf];rfl)⟩
 intro ch H5 mJ _ zX;have x5:=mJ _ _ x4;refine⟨_,Z,x,CF,dx,_,Z,x5,T.cl_Frame,T.na_chosen,bZ (GA _ _ _) O,?_⟩;have k6:Kx x H (upd H5 x (.ins CF dx (F4 w' p fo ch))):=(k4.same mJ).upd _;have x6:upd H5 x (.ins CF dx (F4 w' p fo ch)) x=some (.ins CF dx (F4 w' p fo ch)):=jG;have S6:k9 (upd H5 x (.ins CF dx (F4 w' p fo ch))) s' steps:=qD x5 (S4.same mJ);have f6:rh (upd H5 x (.ins CF dx (F4 w' p fo ch))) fo fs:=(f4.same mJ).NB x5;have c6:upd H5 x (.ins CF dx (F4 w' p fo ch)) ch=some (.lst ((ni (Rx.numsOf fs)).map V.int)):=mI x5 zX;have e4:upd H5 x (.ins CF dx (mO "chosen" (.ref ch) (F3 w' p fo)))=upd H5 x (.ins CF dx (F4 w' p fo ch)):=Z;rw[e4];generalize upd H5 x (.ins CF dx (F4 w' p fo ch))=H6 at k6 x6 S6 f6 c6 ⊢
 -- columns
 obtain⟨as,fa,fp⟩:=id f6;have la:=jY fp;refine⟨_,Z,x,CF,dx,_,_,Z,x6,T.cl_Frame,T.na_found,FA _ _ _ _,fo,Z,⟨_,jV.of fa⟩,?_⟩;refine lB (K:=K) (xs:=as.map V.ref) (ni (Rx.kf fs)) (by rw[aa,aa];unfold Rx.kf;rw[List.length_map,la]) (by rw[List.length_map];lia) (jV.of fa) ?_ ?_
 .intro i y H7 hy yp R kk;obtain⟨a,rfl,ha⟩:=oh hy;obtain⟨f,hf,b,ht,hb⟩:=kQ fp ha;exact⟨a,_,Z,kJ.of (yp _ _ ht),Z,_,_,Z,_,_,Z,_,_,Z,Z,_,Z,kk _ _ (jM.refl _) (by unfold Rx.kf;rw[List.getElem?_map,List.getElem?_map,hf];rfl)⟩
 intro co H7 yp _ QD;have x7:=yp _ _ x6;refine⟨_,Z,x,CF,dx,_,Z,x7,T.cl_Frame,T.na_columns,bZ (Fg _ _ _ _) O,?_⟩;have k8:Kx x H (upd H7 x (.ins CF dx (F5 w' p fo ch co))):=(k6.same yp).upd _;have x8:upd H7 x (.ins CF dx (F5 w' p fo ch co)) x=some (.ins CF dx (F5 w' p fo ch co)):=jG;have S8:k9 (upd H7 x (.ins CF dx (F5 w' p fo ch co))) s' steps:=qD x7 (S6.same yp);have f8:rh (upd H7 x (.ins CF dx (F5 w' p fo ch co))) fo fs:=(f6.same yp).NB x7;have c8:upd H7 x (.ins CF dx (F5 w' p fo ch co)) ch=some (.lst ((ni (Rx.numsOf fs)).map V.int)):=mI x7 (yp _ _ c6);have o8:upd H7 x (.ins CF dx (F5 w' p fo ch co)) co=some (.lst ((ni (Rx.kf fs)).map V.int)):=mI x7 QD;have e5:upd H7 x (.ins CF dx (mO "columns" (.ref co) (F4 w' p fo ch)))=upd H7 x (.ins CF dx (F5 w' p fo ch co)):=Z;rw[e5];generalize upd H7 x (.ins CF dx (F5 w' p fo ch co))=H8 at k8 x8 S8 f8 c8 o8 ⊢
 -- rows
 obtain⟨ss,sa,sp⟩:=id S8;have lss:=jY sp;have J9:(Rx.numsOf fs).length=fs.length:=by unfold Rx.numsOf;rw[List.length_map]
 refine⟨_,Z,x,CF,dx,_,_,Z,x8,T.cl_Frame,T.na_chosen,Ep _ _ _ _ _,ch,Z,⟨_,jV.of c8⟩,?_⟩;refine oT (K:=K) (xs:=(ni (Rx.numsOf fs)).map V.int) (Rx.rowsOf steps fs) (by rw[Rx.mh.1,aa,aa,J9]) (by rw[aa,aa,J9];lia) (jV.of c8) ?_ ?_
 .intro i y H9 hy vf R kk;obtain⟨n,rfl,hn⟩:=G9 hy;have il:i<fs.length:=by rw[<-J9];exact(aF.mp hn).1
  obtain⟨f,hf⟩:∃f,fs[i]?=some f:=⟨_,List.getElem?_eq_getElem il⟩;have en:n=f.1:=by
   unfold Rx.numsOf at hn;rw[af,hf] at hn;exact(bI hn).symm
  subst en;have fl:=crn.lt f (ah hf);obtain⟨a,J6,ha⟩:=wI sp (Rx.ma fl);have ll:=lw _ (Rx.lh (rows:=steps) fl);refine⟨_,Z,_,Z,s',_,_,_,Z,Z,jV.of (vf _ _ sa),J6,_,Z,x,CF,dx,_,_,Z,vf _ _ x8,T.cl_Frame,T.na_columns,BL _ _ _ _ _,a,co,_,Rx.kf fs,Z,jV.of (vf _ _ ha),vf _ _ o8,fun c hc=>by rw[aa,ll.1];exact Rx.nQ crn c hc,by unfold Rx.kf;rw[List.length_map];lia,fun t zS sX _ Zx=>?_⟩;rw[GQ _ _ fun c hc=>by rw[ll.1];exact Rx.nQ crn c hc] at Zx;exact kk zS t _ sX (by unfold Rx.rowsOf;rw[List.getElem?_map,hf];rfl) Zx
 intro ro H9 vf _ E5;have x9:=vf _ _ x8;refine⟨_,Z,x,CF,dx,_,Z,x9,T.cl_Frame,T.na_rows,bZ (FI _ _ _ _ _) O,?_⟩;have Zy:Kx x H (upd H9 x (.ins CF dx (F6 w' p fo ch co ro))):=(k8.same vf).upd _;have NW:upd H9 x (.ins CF dx (F6 w' p fo ch co ro)) x=some (.ins CF dx (F6 w' p fo ch co ro)):=jG;have Zz:rh (upd H9 x (.ins CF dx (F6 w' p fo ch co ro))) fo fs:=(f8.same vf).NB x9;have XH:upd H9 x (.ins CF dx (F6 w' p fo ch co ro)) ch=some (.lst ((ni (Rx.numsOf fs)).map V.int)):=mI x9 (vf _ _ c8);have ZA:upd H9 x (.ins CF dx (F6 w' p fo ch co ro)) co=some (.lst ((ni (Rx.kf fs)).map V.int)):=mI x9 (vf _ _ o8);have RS:k9 (upd H9 x (.ins CF dx (F6 w' p fo ch co ro))) ro (Rx.rowsOf steps fs):=qD x9 E5;have e6:upd H9 x (.ins CF dx (mO "rows" (.ref ro) (F5 w' p fo ch co)))=upd H9 x (.ins CF dx (F6 w' p fo ch co ro)):=Z;rw[e6];generalize upd H9 x (.ins CF dx (F6 w' p fo ch co ro))=zS at Zy NW Zz XH ZA RS ⊢
 -- modulus
 refine⟨_,Z,_,_,Z,Z,⟨O,O,J⟩,_,Z,x,CF,dx,_,Z,NW,T.cl_Frame,T.na_modulus,bZ (Fe _ _ _ _ _ _) O,?_⟩;have ZB:Kx x H (upd zS x (.ins CF dx (F7 w' p fo ch co ro (p^16)))):=Zy.upd _;have R6:upd zS x (.ins CF dx (F7 w' p fo ch co ro (p^16))) x=some (.ins CF dx (F7 w' p fo ch co ro (p^16))):=jG;have ZC:rh (upd zS x (.ins CF dx (F7 w' p fo ch co ro (p^16)))) fo fs:=Zz.NB NW;have ZD:upd zS x (.ins CF dx (F7 w' p fo ch co ro (p^16))) ch=some (.lst ((ni (Rx.numsOf fs)).map V.int)):=mI NW XH;have ZE:upd zS x (.ins CF dx (F7 w' p fo ch co ro (p^16))) co=some (.lst ((ni (Rx.kf fs)).map V.int)):=mI NW ZA;have XI:k9 (upd zS x (.ins CF dx (F7 w' p fo ch co ro (p^16)))) ro (Rx.rowsOf steps fs):=qD NW RS;have e7:upd zS x (.ins CF dx (mO "modulus" ((fun (i j:Int)=>V.int (i^j.toNat)) p 16) (F6 w' p fo ch co ro)))=upd zS x (.ins CF dx (F7 w' p fo ch co ro (p^16))):=Z;rw[e7];generalize upd zS x (.ins CF dx (F7 w' p fo ch co ro (p^16)))=NX at ZB R6 ZC ZD ZE XI ⊢
 -- undoing
 refine⟨_,Z,x,CF,dx,_,_,Z,R6,T.cl_Frame,T.na_rows,Jq _ _ _ _ _ _ _,_,Z,x,CF,dx,_,_,Z,R6,T.cl_Frame,T.na_modulus,Bo _ _ _ _ _ _ _,ro,Rx.rowsOf steps fs,fs.length,16,N,p,Z,XI,Rx.mh.1,zu crn lw,J,O,hp,p16,J,N9,fun c hc=>crn.ind c hc,fun un R7 us mC _ tJ ul uw li=>?_⟩;have NY:=mC _ _ R6;refine⟨_,Z,x,CF,dx,_,Z,NY,T.cl_Frame,T.na_undoing,bZ (MM _ _ _ _ _ _ _) O,?_⟩;refine q _ fs us ((ZB.same mC).upd _) ⟨dx,fo,ch,co,ro,un,jG,(ZC.same mC).NB NY,mI NY (mC _ _ ZD),mI NY (mC _ _ ZE),qD NY (XI.same mC),qD NY tJ⟩ ⟨crn,ul,uw,li⟩
structure Nb (p:Int)(k D C G B N:Nat):Prop where
 DB:D<=B
 big:k*(D*(Sg.t7 k C*G))<=B
 B1:1<=B
 lim:128*((B:Int)*B)*(128*((B:Int)*B))*p^16<=2^N
 GN:G<2^N
 N1:480<=N
 N2:N<=9000
theorem FP {N k:Nat}(lr:rows.length=k)(lw:∀row∈rows,row.length=k/\Bd N row):∀row∈Rx.xf k rows,row.length=k/\Bd N row:=fun row h=>by
 refine⟨(Rx.zP lr).2 row h,fun x hx=>?_⟩;unfold Rx.xf at h;obtain⟨c,hc,rfl⟩:=List.mem_map.mp h;obtain⟨y,hy,rfl⟩:=List.mem_map.mp hx;exact(lw y hy).2 _ (Rx.nV (by rw[(lw y hy).1];exact dX.mp hc))
inductive My (C:Addr)(vs:List V)(H:Hp)(Q:VK)(E_:XK):Prop
 | mk (x s:Addr)(steps:List (List Int))(fs:List Rx.Fd)(us:List (List Int))(goal:List Int)(p:Int)(w N:Nat)(_:vs=[.ref x,.ref s])(_:wf C H x p w steps fs us)(_:Kq p w N steps fs us)(_:Pt.mR p)(_:p<2^30)(_:480<=N)(_:N<=9000)(_:w<=420)(_:H s=some (.lst (goal.map V.int)))(_:goal.length=w)(_:∀(c:Nat) H',jM H H'->c<w->Lt.g (Rx.oN p fs goal) c≠0->Q (.int c) H')(_:∀H',jM H H'->(∀c,c<w->Lt.g (Rx.oN p fs goal) c=0)->Q .non H')
theorem vd (T:Txt K mg CF tL tF tM):Mf P w K mg base 3 CF "missed" ["self","goal"] (My CF):=by
 refine T.m_Frame_missed.ok qS (fun vs H Q E h=>?_) (fun f cdv A outer s H vs Q E hr h=>?_)
 .obtain⟨_,_,_,_,_,_,_,_,_,rfl,_⟩:=h;rfl
 obtain⟨x,s',steps,fs,us,goal,p,w',N,rfl,fa,fo,hp,IA,N4,N9,w4,hg,lg,q1,q2⟩:=h;obtain⟨dx,ff,ch,co,ro,un,hx,hf,_⟩:=fa.ex;have p2:=hp.1;have nd:=qS.nd;refine⟨_,(jJ (jT (j7 (qX T) hr (kD (j7 (wC T) hr (jF (pv 1) (jF (mw (pv 0) Z) (jF (mw (pv 0) Z) j5)))))))),?_⟩;refine⟨_,Z,_,Z,x,CF,dx,_,_,Z,hx,T.cl_Frame,T.na_found,FD _ _ _ _ _ _ _ _,_,Z,x,CF,dx,_,_,Z,hx,T.cl_Frame,T.na_prime,GJ _ _ _ _ _ _ _ _,s',ff,goal,fs,p,w',30,Z,hg,hf,fo.crn.rok,lg,J,J,IA,O,fun t H1 lH h1=>?_⟩;have ok:=Rx.sR (show 0<p by lia) lg Z fo.crn.rok;refine⟨t,_,Z,h1,J,fun c H2 lE hc nz=>q1 c H2 (lH.trans lE) J nz,fun H2 lE z=>q2 H2 (lH.trans lE) fun c hc=>z c J⟩
inductive P2 (C:Addr)(vs:List V)(H:Hp)(Q:VK)(E_:XK):Prop
 | mk (x s:Addr)(steps:List (List Int))(fs:List Rx.Fd)(us:List (List Int))(goal:List Int)(p:Int)(w N D Cc G B:Nat)(_:vs=[.ref x,.ref s])(_:wf C H x p w steps fs us)(_:Kq p w N steps fs us)(_:Rx.xp p w steps fs us D Cc)(_:Nb p fs.length D Cc G B N)(_:∀y∈steps,y.length=w/\Bd N y)(_:w<=420)(_:1000<=p)(_:H s=some (.lst (goal.map V.int)))(_:goal.length=w)(_:∀c,c<w->(Lt.g goal c).natAbs<=G)(_:∀t tt H' tops b,jM H H'->H' t=some (.tup [.ref tt,.int b])->H' tt=some (.lst (tops.map V.int))->tops.length=fs.length->1<=b->b∣(D:Int)->b<2^N->Bd N tops->(∀i:Nat,i<fs.length->(Ld.S fs.length fun t=>Rx.st steps (Rx.nm fs t.toNat) (Rx.cl fs i)*Rx.fn tops t)=b*Lt.g goal (Rx.cl fs i))->Q (.ref t) H')
theorem Rv {p:Int}(p2:1000<=p):64<=p^16:=by
 rw[bq];have:1<=p^15:=fL J;have:=aq this (show 0<=p by lia);lia
theorem qR (T:Txt K mg CF tL tF tM):Mf P w K mg base 7 CF "counts" ["self","goal"] (P2 CF):=by
 refine T.m_Frame_counts.ok qV (fun vs H Q E h=>?_) (fun f cdv A outer s H vs Q E hr h=>?_)
 .obtain⟨_,_,_,_,_,_,_,_,_,_,_,_,_,rfl,_⟩:=h;rfl
 obtain⟨x,s',steps,fs,us,goal,p,w',N,D,Cc,G,B,rfl,fa,fo,fm,nb,lw,w4,w5,hg,lg,gb,q⟩:=h;obtain⟨dx,ff,ch,co,ro,un,hx,hf,zX,QD,E5,tJ⟩:=fa.ex;have nd:=qV.nd;have kl:=fo.crn.fr.Ea fm.hp;have rb:=zu fo.crn lw;have N1:=nb.N1;have N2:=nb.N2;refine⟨_,(jJ (jT (j7 (yh T) hr (jF (j7 (vN T) hr (kD (mw (pv 0) Z))) (jF (j7 (vN T) hr (kD (mw (pv 0) Z))) (jF (mw (pv 0) Z) (jF (j7 (uF T) hr (ke (pv 1) (mw (pv 0) Z))) j5))))))),?_⟩;refine⟨_,Z,x,CF,dx,_,_,Z,hx,T.cl_Frame,T.na_rows,DQ _ _ _ _ _ _ _ _,ro,Rx.rowsOf steps fs,fs.length,Z,E5,Rx.mh.1,Rx.mh.2,J,fun r1 H1 lH _ h1=>?_⟩;refine⟨_,Z,x,CF,dx,_,_,Z,lH _ _ hx,T.cl_Frame,T.na_undoing,vZ _ _ _ _ _ _ _ _,un,us,fs.length,Z,tJ.same lH,fo.ul,fun u hu=>(fo.uw u hu).1,J,fun u1 H2 lE _ h2=>?_⟩;have mC:=lH.trans lE;refine⟨_,Z,x,CF,dx,_,_,Z,mC _ _ hx,T.cl_Frame,T.na_modulus,wE _ _ _ _ _ _ _ _,_,Z,_,Z,x,CF,dx,_,_,Z,mC _ _ hx,T.cl_Frame,T.na_columns,wx _ _ _ _ _ _ _ _,s',co,_,Rx.kf fs,Z,jV.of (mC _ _ hg),mC _ _ QD,fun c hc=>by rw[aa,lg];exact Rx.nQ fo.crn c hc,by unfold Rx.kf;rw[List.length_map];lia,fun g1 H3 kT _ h3=>?_⟩;rw[GQ _ _ fun c hc=>by rw[lg];exact Rx.nQ fo.crn c hc] at h3;have lc:(Rx.kf fs).length=fs.length:=by unfold Rx.kf;rw[List.length_map]
 have ZF:∀i:Nat,i<fs.length->Rx.fn ((Rx.kf fs).map fun c=>Lt.g goal c) i=Lt.g goal (Rx.cl fs i):=fun i hi=>by
  unfold Rx.fn;rw[ae];exact Rx.lJ (by rw[af,Rx.zw hi];rfl)
 have gB:∀i:Nat,i<fs.length->(Rx.fn ((Rx.kf fs).map fun c=>Lt.g goal c) i).natAbs<=G:=fun i hi=>by
  rw[ZF i hi];exact gb _ (fo.crn.cor.colw i hi)
 have fl:=Rx.zP (k:=fs.length) (rows:=Rx.rowsOf steps fs) Rx.mh.1;have fu:=Rx.zP (k:=fs.length) (rows:=us) fo.ul;refine⟨r1,u1,g1,Rx.xf fs.length (Rx.rowsOf steps fs),Rx.xf fs.length us,_,fs.length,16,N,D,B,p,Z,h1.same (lE.trans kT),h2.same kT,h3,fl.1,FP Rx.mh.1 rb,fu.1,FP fo.ul fo.uw,by rw[aa,lc],fun y hy=>?_,J,J,N2,Rv w5,fm.sc1 gB nb.DB nb.big,fm.ri1,nb.B1,nb.lim,fun t tt H4 tops b lZ ht qj lt b1 bD bN bt sol=>?_⟩
 .obtain⟨c,hc,rfl⟩:=List.mem_map.mp hy;have:=gb c (Rx.nQ fo.crn c hc);have:=nb.GN;lia
 .refine q t tt H4 tops b ((mC.trans kT).trans lZ) ht qj lt b1 bD bN bt fun i hi=>?_;rw[<-ZF i hi,<-sol i hi];refine Ld.jO fun j hj=>?_;rw[Rx.uG Rx.mh.1 hi hj,Rx.tN hj hi,ae]
inductive Pj (C:Addr)(vs:List V)(H:Hp)(Q:VK)(E_:XK):Prop
 | mk (x s:Addr)(steps:List (List Int))(fs:List Rx.Fd)(us:List (List Int))(am:List Int)(p:Int)(w N D Cc G B:Nat)(_:vs=[.ref x,.ref s])(_:wf C H x p w steps fs us)(_:Kq p w N steps fs us)(_:Rx.xp p w steps fs us D Cc)(_:Nb p fs.length D Cc G B N)(_:∀y∈steps,y.length=w/\Bd N y)(_:w<=420)(_:1000<=p)(_:H s=some (.lst (am.map V.int)))(_:am.length=fs.length)(_:∀c,c<fs.length->(Lt.g am c).natAbs<=G)(_:∀t tt H' tops b,jM H H'->H' t=some (.tup [.ref tt,.int b])->H' tt=some (.lst ((Rx.uk w (Rx.kf fs) tops).map V.int))->H tt=none->tops.length=fs.length->1<=b->b∣(D:Int)->b<2^N->Bd N tops->(∀i:Nat,i<fs.length->(Ld.S fs.length fun t=>Rx.st steps (Rx.nm fs i) (Rx.cl fs t.toNat)*Rx.fn tops t)=b*Lt.g am i)->Q (.ref t) H')
theorem p9 (T:Txt K mg CF tL tF tM):Mf P w K mg base 7 CF "weights" ["self","amounts"] (Pj CF):=by
 refine T.m_Frame_weights.ok p7 (fun vs H Q E h=>?_) (fun f cdv A outer s H vs Q E hr h=>?_)
 .obtain⟨_,_,_,_,_,_,_,_,_,_,_,_,_,rfl,_⟩:=h;rfl
 obtain⟨x,s',steps,fs,us,am,p,w',N,D,Cc,G,B,rfl,fa,fo,fm,nb,lw,w4,w5,hg,lg,gb,q⟩:=h;obtain⟨dx,ff,ch,co,ro,un,hx,hf,zX,QD,E5,tJ⟩:=fa.ex;have nd:=p7.nd;have kl:=fo.crn.fr.Ea fm.hp;have rb:=zu fo.crn lw;have N1:=nb.N1;have N2:=nb.N2;have GN:=nb.GN;have lc:(Rx.kf fs).length=fs.length:=by unfold Rx.kf;rw[List.length_map]
 have gB:∀i:Nat,i<fs.length->(Rx.fn am i).natAbs<=G:=fun i hi=>by
  unfold Rx.fn;rw[ae];exact gb i hi
 refine⟨_,(jE (j8 2 nd (j7 (yh T) hr (jF (mw (pv 0) Z) (jF (mw (pv 0) Z) (jF (mw (pv 0) Z) (jF (pv 1) j5)))))) (jJ (jT (lI (ke (j7 (xY T) hr (jF (mw (pv 0) Z) (jF (mw (pv 0) Z) (jF (j9 jZ (pv 2) jH) j5)))) (j9 jZ (pv 2) jH)))))),?_⟩;refine⟨_,Z,x,CF,dx,_,_,Z,hx,T.cl_Frame,T.na_rows,DQ _ _ _ _ _ _ _ _,_,Z,x,CF,dx,_,_,Z,hx,T.cl_Frame,T.na_undoing,vZ _ _ _ _ _ _ _ _,_,Z,x,CF,dx,_,_,Z,hx,T.cl_Frame,T.na_modulus,wE _ _ _ _ _ _ _ _,_,Z,ro,un,s',Rx.rowsOf steps fs,us,am,fs.length,16,N,D,B,p,Z,E5,tJ,hg,Rx.mh.1,rb,fo.ul,fo.uw,lg,fun y hy=>?_,J,J,N2,Rv w5,fm.sc2 gB nb.DB nb.big,fm.ri2,nb.B1,nb.lim,fun t tt H1 tops b lH ht qj lt b1 bD bN bt sol=>?_⟩
 .obtain⟨c,hc,rfl⟩:=Rx.sw hy;have:=gb c J;lia
 have i0:lY [V.ref tt,V.int b] 0=some (.ref tt):=Z;have i1:lY [V.ref tt,V.int b] 1=some (.int b):=Z;refine⟨_,Z,x,CF,dx,_,_,Z,lH _ _ hx,T.cl_Frame,T.na_size,JI _ _ _ _ _ _ _ _,_,Z,x,CF,dx,_,_,Z,lH _ _ hx,T.cl_Frame,T.na_columns,wx _ _ _ _ _ _ _ _,_,Z,t,_,_,_,Z,Z,kJ.of ht,i0,w',co,tt,Rx.kf fs,tops,Z,lH _ _ QD,qj,by rw[lc,lt],Rx.nQ fo.crn,J,fun sp H2 lE nsp h2=>?_⟩;refine⟨_,Z,t,_,_,_,Z,Z,kJ.of (lE _ _ ht),i1,jI,fun rt ZG=>?_⟩;refine q rt sp _ tops b (jK (lH.trans lE) ZG) jG (jK (jM.refl _) ZG _ _ h2) (lH.free nsp) lt b1 bD bN bt fun i hi=>?_;have:=sol i hi;unfold Rx.fn at this;rw[ae] at this;rw[<-this];refine Ld.jO fun j hj=>?_;rw[Rx.tN hi hj,ae];rfl
inductive PH (vs:List V)(H:Hp)(Q:VK)(E_:XK):Prop
 | mk (a b:Int)(_:vs=[.int a,.int b])(_:Q (.int (Eh.G a b)) H)
theorem Ck (T:Txt K mg CF tL tF tM):Df P w K mg base 1 "divisor" ["one","other"] PH:=by
 refine kN T.d_divisor BS fun f cdv A outer s H vs Q E hr nd h=>?_;obtain⟨a,b,rfl,q⟩:=h;refine⟨_,(jE (j8 2 nd (kE oJ jC T.b_abs L2.sU (kD (pv 0)))) (jE (j8 3 nd (kE oJ jC T.b_abs L2.sU (kD (pv 1)))) (jE (mF aI (k7 n8 (pv 3) jH) (jE (j8 4 nd (jR ky (pv 2) (pv 3))) (jE (j8 2 nd (pv 3)) (jJ (j8 3 nd (pv 4)))))) (jJ (jT (pv 2)))))),?_⟩;refine⟨_,Z,_,Z,?_⟩;refine⟨_,Z,_,Z,?_⟩;have st:=Eh.start a b;refine⟨fun m σ H'=>H'=H/\∃(g s:Int)(lv:Option V),σ=[some (.int a),some (.int b),some (.int g),some (.int s),lv]/\0<=g/\0<=s/\Eh.G g s=Eh.G a b/\m=s.toNat,
  ⟨_,Z,Eh.ab a,Eh.ab b,none,Z,st.1,st.2.1,st.2.2,Z⟩,?_⟩
 rintro m σ H' ⟨rfl,g,s,lv,rfl,g0,s0,e,rfl⟩;refine⟨_,Z,Z,_,Z,?_⟩;refine mM (fun c=>?_) (fun c=>?_)
 .have ne:=MA c;have t:=Eh.OA g0 s0 e ne;refine⟨_,fun _ _ h=>h,?_⟩;refine⟨_,Z,_,Z,_,_,Z,Z,(show 0<s by omega),?_⟩;refine⟨_,Z,?_⟩;refine⟨_,Z,?_⟩;exact⟨(g%s).toNat,t.2.2,Z,_,_,_,Z,s0,t.1,t.2.1,Z⟩
 .have z:=FJ c;refine⟨_,Z,?_⟩;rw[Eh.out g0 e z];exact q
inductive IE (vs:List V)(H:Hp)(Q:VK)(E_:XK):Prop
 | mk (a b:Int)(N:Nat)(_:vs=[.int a,.int b])(_:1<=a)(_:1<=b)(_:a<2^N)(_:b<2^N)(_:N<=9000)(_:∀j:Int,1<=j->a∣j->b∣j->(∀D:Int,a∣D->b∣D->j∣D)->Q (.int j) H)
theorem FQ (T:Txt K mg CF tL tF tM):Df P w K mg base 2 "joint" ["one","other"] IE:=by
 refine kN T.d_joint G4 fun f cdv A outer s H vs Q E hr nd h=>?_;obtain⟨a,b,N,rfl,a1,b1,aN,bN,N2,q⟩:=h;have eN:=nT N;obtain⟨G1,Ga,j1,d1,d2,al⟩:=Rx.Mw a1 b1 (G:=Eh.G a b) Z;have q0:=cG (show 0<=a by lia) (show 0<=Eh.G a b by lia);have q1:=b8 (Eh.G a b) (show 0<=a by lia);refine⟨_,(jJ (jT (jR ko (jR kq (pv 0) (j7 (Ck T) hr (ke (pv 0) (pv 1)))) (pv 1)))),?_⟩;refine⟨_,Z,_,Z,_,Z,_,_,Z,_,_,Z,Z,sW J (show (Eh.G a b).natAbs<2^N by lia) N2,_,Z,_,_,Z,Z,rp (N:=N) (M:=N) J J J J,?_⟩;exact q _ j1 d1 d2 al
inductive OD (vs:List V)(H:Hp)(Q:VK)(E_:XK):Prop
 | mk (r s:Addr)(one other:List Int)(a b m:Int)(N:Nat)(_:vs=[.ref r,.int a,.ref s,.int b,.int m])(_:H r=some (.lst (one.map V.int)))(_:H s=some (.lst (other.map V.int)))(_:one.length=other.length)(_:one.length<=20000)(_:0<m)(_:a.natAbs<2^N)(_:b.natAbs<2^N)(_:Bd N one)(_:Bd N other)(_:N<=1000000)(_:∀t H',jM H H'->H t=none->H' t=some (.lst ((Lt.mix one a other b m).map V.int))->Q (.ref t) H')
theorem AH (T:Txt K mg CF tL tF tM):Df P w K mg base 1 "mixed" ["one","many","other","more","modulus"] OD:=by
 refine kN T.d_mixed Gy fun f cdv A outer s H vs Q E hr nd h=>?_;obtain⟨r,s',one,other,a,b,m,N,rfl,h1,h2,l,lz,m0,aN,bN,b1,b2,N1,q⟩:=h;refine⟨_,(jJ (jT (m5 [("modulus",4),("many",1),("more",3)] ["number","beyond"] (nF jC T.b_zip (ke (pv 0) (pv 2))) (fun C s H fp=>⟨(tH 3 4),kd,(jR ky (jR kG (jR ko (pv 3) (pv 1)) (jR ko (pv 4) (pv 2))) (pv 0))⟩)))),?_⟩;refine⟨_,Z,_,Z,r,s',Z,⟨_,jV.of h1⟩,⟨_,jV.of h2⟩,?_⟩;refine oQ (K:=K) (xs:=one.map V.int) (ys:=other.map V.int) (Lt.mix one a other b m) (by rw[aa,aa,l]) (by rw[Lt.tj Z l.symm,aa]) (by rw[aa];exact lz) (jV.of h1) (jV.of h2) ?_ fun D H2 sm n hD=>q D H2 sm n hD;intro i x y H2 p hx hy sm hp R k;obtain⟨u,rfl,hu⟩:=int_at hx;obtain⟨v,rfl,hv⟩:=int_at hy;refine⟨p,_,Z,kJ.of jG,Z,_,_,Z,_,_,Z,Z,?_⟩;refine⟨_,Z,_,Z,_,_,Z,Z,rp (b1 u (ah hu)) aN N1 N1,_,Z,_,Z,_,_,Z,Z,rp (b2 v (ah hv)) bN N1 N1,_,_,Z,Z,_,Z,_,_,Z,Z,m0,?_⟩;exact k _ _ (jK (jM.refl _) hp) (by unfold Lt.mix;rw[List.getElem?_zipWith,hu,hv])
theorem CU {H:Hp}{zfK a:Addr}(hO:H zfK=some (.lst (as.map V.ref)))(pa:Paired (fun a (x:List Int)=>H a=some (.lst (x.map V.int))) as rows)(ha:H a=some (.lst (l.map V.int)))(nl:l≠[]):k9 (upd H zfK (.lst (as.map V.ref++[.ref a]))) zfK (rows++[l]):=by
 have ne1:∀(b:Addr)(x:List Int),H b=some (.lst (x.map V.int))->(as≠[]\/x≠[])->b≠zfK:=fun b x hb o=>nK hb hO fun z=>by
  injection z with z;cases as with
  | nil=>cases x with
   | nil=>rcases o with o | o<;>exact o rfl
   | cons y ys=>cases z
  | cons a0 RN=>cases x with
   | nil=>cases z
   | cons y ys=>injection z with z1;cases z1
 have go:∀{tZ:List Addr}{wY:List (List Int)}{o:HO},(tZ≠[]->as≠[])->Paired (fun a (x:List Int)=>H a=some (.lst (x.map V.int))) tZ wY->Paired (fun a (x:List Int)=>upd H zfK o a=some (.lst (x.map V.int))) tZ wY:=fun {tZ wY o} im p=>by
  induction p with
  | nil=>exact .nil
  | cons h _ ih =>
   have nn:=im jB;exact .cons ((jW (ne1 _ _ h (.inl nn))).trans h) (ih fun _=>nn)
 exact⟨as++[a],by rw[jG,aQ];rfl,L2.Paired.BV (go id pa) (.cons ((jW (ne1 _ _ ha (.inr nl))).trans ha) .nil)⟩
theorem A5 {N:Nat}(mN:m<2^N)(h:Rx.Up m l):Bd N l:=fun x hx=>by
 have:=h x hx;have e:=nT N;lia
inductive On (vs:List V)(H:Hp)(Q:VK)(E_:XK):Prop
 | mk (r s:Addr)(ls:List (List Int))(row:List Int)(m:Int)(K N:Nat)(_:vs=[.ref r,.ref s,.int m])(_:k9 H r ls)(_:H s=some (.lst (row.map V.int)))(_:Lt.Bu m K 0 ls)(_:row.length=K)(_:K<=20000)(_:ls.length<=K)(_:∀l∈ls,Rx.Up m l)(_:1<=m)(_:m<2^N)(_:1<=N)(_:N<=9000)(_:∀t H' ls',jM H H'->H t=none->k9 H' t ls'->Lt.Ent m 0 ls (row.map fun x=>x%m) ls'->Q (.ref t) H')
theorem Bx (T:Txt K mg CF tL tF tM):Df P w K mg base 4 "entered" ["leads","row","modulus"] On:=by
 refine kN T.d_entered B5 fun f cdv A outer s H vs Q E hr nd h=>?_;obtain⟨r,s',ls,row,m,K',N,rfl,⟨as,h1,pa⟩,h2,Cs,lr,Kz,lK,up,m1,mN,N1,N2,q⟩:=h;have la:=jY pa;have eN:=nT N;refine⟨_,(jE (j8 3 nd (lD j5)) (jE (sM 4 [("modulus",2)] ["number"] nd (ki (pv 1)) (fun C s H fp=>⟨(nB 1),kd,(jR ky (pv 1) (pv 0))⟩)) (jE (kR aI Z (oy jC T.b_enumerate (kD (pv 0))) (me Z (j6 (lG 5 nd) (j6 (lG 6 nd) lC))) (jJ (kP (k7 m7 (j9 kC (pv 4) (pv 5)) jH) (jJ (mX (uV cO cK cL nw (pv 3) (kD (pv 6))))) (jE (j8 7 nd (j7 (uD T) hr (jF (j9 kC (pv 6) (pv 5)) (jF (j9 kC (pv 4) (pv 5)) (jF jH j5))))) (jE (j8 8 nd (jR kq (jR mU (j9 jZ (pv 7) jH) (jR ko (j9 jZ (pv 7) jH) (j9 kC (pv 4) (pv 5)))) (j9 kC (pv 6) (pv 5)))) (jE (mX (uV cO cK cL nw (pv 3) (kD (j7 (AH T) hr (jF (pv 6) (jF (pv 8) (jF (pv 4) (jF (j9 jZ (pv 7) jH) (jF (pv 2) j5))))))))) (jJ (j8 4 nd (j7 (AH T) hr (jF (pv 4) (jF (jR kq (j9 kC (pv 6) (pv 5)) (j9 jZ (pv 7) jH)) (jF (pv 6) (jF (rq oO (jR kq (j9 kC (pv 4) (pv 5)) (j9 jZ (pv 7) jH))) (jF (pv 2) j5)))))))))))))) (jJ (jT (pv 3)))))),?_⟩;refine⟨mW O,fun zfK hO=>?_⟩;have Ka:jM H (upd H zfK (.lst [])):=jK (jM.refl _) hO;refine⟨_,Z,s',Z,⟨_,jV.of (Ka _ _ h2)⟩,?_⟩;refine lB (K:=K) (xs:=row.map V.int) (row.map fun x=>x%m) zfP zfM (jV.of (Ka _ _ h2)) ?_ ?_
 .intro i x H2 hx sm R k;obtain⟨u,rfl,hu⟩:=int_at hx;exact⟨_,Z,_,Z,_,_,Z,Z,(show 0<m by lia),k _ _ (jM.refl _) (by rw[af,hu];rfl)⟩
 intro t0 H0 qM _ J4;have QE:H0 zfK=some (.lst (([]:List Addr).map V.ref)):=qM _ _ jG;have J7:=Ka.trans qM;have lf0:Lt.Lf m K' 0 (row.map fun x=>x%m):=⟨by rw[aa,lr],fun i hi=>absurd hi (bE _),fun i=>(Rx.In.mod (show 0<m by lia) row fun x=>x).g J i⟩;refine⟨_,Z,r,Z,⟨_,jV.of (J7 _ _ h1)⟩,oK (K:=K) (xs:=as.map V.ref) (fun i σ H2=>jM H H2/\∃(tl:Addr)(left:List Int)(bs:List Addr)(outs:List (List Int))(o1 o2 o3 o4:Option V),σ=[some (.ref r),some (.ref s'),some (.int m),some (.ref zfK),some (.ref tl),o1,o2,o3,o4]/\H2 tl=some (.lst (left.map V.int))/\H2 zfK=some (.lst (bs.map V.ref))/\Paired (fun a (x:List Int)=>H2 a=some (.lst (x.map V.int))) bs outs/\outs.length=i/\Lt.Bu m K' i (ls.drop i)/\Lt.Lf m K' i left/\∀ls',Lt.Ent m i (ls.drop i) left ls'->Lt.Ent m 0 ls (row.map fun x=>x%m) (outs++ls'))
  ⟨J7,t0,_,[],[],none,none,none,none,Z,J4,QE,.nil,Z,Cs,lf0,fun ls' e=>e⟩ (fun i σ H2 _ z=>z.1.seq (jV.of h1)) ?_ ?_⟩
 .rintro i x σ H2 pp hx ⟨sm,tl,left,bs,outs,o1,o2,o3,o4,rfl,hl,NZ,pb,lo,tr,lf,go⟩ zR;obtain⟨a,l,rfl,ha,px,hh⟩:=mv pa hx;have il:i<ls.length:=(aF.mp px).1;have ed:ls.drop i=l::ls.drop (i+1):=by
   rw[ig il];congr 1;rw[aA il] at px;exact bI px
  rw[ed] at tr go;obtain⟨⟨ll,lz,l1,ld⟩,ZH⟩:=tr;have N0:=up l (ah px);have lm:=N0 _ (Rx.nV (l:=l) (i:=i) J);have AC:=lf.AC i;have pJ:=jK (o:=.tup [.int (i:Nat),.ref a]) (jM.refl H2) zR;have E6:=pJ _ _ hl;have Kb:=pJ _ _ (sm _ _ hh);have QF:=pJ _ _ NZ;have ZI:=kL pJ pb;have XJ:l≠[]:=fun z=>by rw[z] at ll;simp at ll;lia
  have fl:left.length=K':=lf.len;have R4:Bd N left:=fun y hy=>by
   obtain⟨j,hj,e⟩:=Rx.sw hy;have:=lf.AC j;lia
  have cg:lY (left.map V.int) (i:Int)=some (.int (Lt.g left i)):=lU zfN;have cl:lY (l.map V.int) (i:Int)=some (.int (Lt.g l i)):=lU zfN;have ZJ:bs.length=i:=by rw[jY pb,lo]
  refine⟨pp,_,Z,kJ.of jG,Z,_,_,Z,_,_,Z,Z,?_⟩;refine⟨_,Z,_,Z,tl,_,_,_,Z,Z,jV.of E6,cg,Z,_,Z,mM (fun c=>?_) (fun c=>?_)⟩
  .have z:=uK c;refine⟨_,Z,.inl ⟨Z,_,jV.of QF⟩,_,Z,zfK,_,_,Z,Z,QF,by rw[aa,ZJ];exact mD J,?_⟩;obtain⟨XM,e1,e2⟩:=CU QF ZI Kb XJ;refine⟨ku (sm.trans pJ) hO,tl,left,XM,outs++[l],_,_,_,_,Z,(jW (nK E6 QF fun zz=>?_)).trans E6,e1,e2,by rw[aJ,lo];rfl,ZH,lf.next z,fun ls' e=>?_⟩
   .injection zz with zz;cases left with
    | nil=>simp at fl;lia
    | cons y ys=>cases bs with
     | nil=>cases zz
     | cons b0 R8=>injection zz with z1;cases z1
   .rw[gh];exact go _ (.skip z e)
  .have nz:=wQ c;refine⟨_,Z,_,Z,a,_,_,_,Z,Z,jV.of Kb,cl,_,Z,_,Z,tl,_,_,_,Z,Z,jV.of E6,cg,Lt.g l i,Lt.g left i,0,N,Z,l1,AC.1,dW 0,N1,N2,J,J,fun tt H3 r0 c0 r1 c1 kT ht S p0 bz _ cb=>?_⟩;have z1:r1=0:=Ah J;have dv:=S.dvd z1;rw[z1] at S;have bz':=Rx.UE S l1;have i0:lY [V.int r0,V.int c0,V.int r1,V.int c1] 0=some (.int r0):=Z;have i1:lY [V.int r0,V.int c0,V.int r1,V.int c1] 1=some (.int c0):=Z;have r0l:=aT (show 0<Lt.g l i by lia) dv.1;have Nh:=kT _ _ E6;have R9:=kT _ _ Kb;have ZK:=kT _ _ QF;have XN:=kL kT ZI;obtain⟨α,XO⟩:∃α:Int,α=(r0-c0*Lt.g left i)/Lt.g l i:=⟨_,Z⟩;have αb:α.natAbs<2^(2*N+2):=by
    have e:α*Lt.g l i=r0-c0*Lt.g left i:=by rw[XO];lia
    have n1:(α.natAbs:Int)<=(α*Lt.g l i).natAbs:=by
     rw[aM,aO];have:=ay (show (1:Int)<=(Lt.g l i).natAbs by lia) (show (0:Int)<=α.natAbs by lia);lia
    rw[e] at n1;have n2:((c0*Lt.g left i).natAbs:Int)<=2^N*2^N:=by
     rw[aM,aO];exact cH J J J J
    have e4:((2^(2*N+2):Nat):Int)=2^N*2^N*4:=by
     rw[dM,eC,show 2*N=N+N by lia,eC];rfl
    have:(1:Int)<=2^N:=fL O;have:(2:Int)^N*1<=2^N*2^N:=ay this J;lia
   refine⟨_,Z,tt,_,_,_,Z,Z,kJ.of ht,i0,_,Z,tt,_,_,_,Z,Z,kJ.of ht,i1,_,Z,_,Z,tl,_,_,_,Z,Z,jV.of Nh,cg,_,_,Z,Z,rp (N:=N) (M:=N) J J J J,_,_,Z,Z,_,Z,_,Z,a,_,_,_,Z,Z,jV.of R9,cl,_,_,Z,Z,sW J (show (Lt.g l i).natAbs<2^N by lia) N2,?_⟩;dsimp only;rw[<-XO];have Nw:2^N<=2^(2*N+2):=bS O J;refine⟨_,Z,.inl ⟨Z,_,jV.of ZK⟩,_,Z,_,Z,_,Z,_,Z,tt,_,_,_,Z,Z,kJ.of ht,i1,_,Z,a,tl,l,left,α,c0,m,2*N+2,Z,R9,Nh,by rw[ll,fl],J,J,αb,J,qC (A5 mN N0) J,qC R4 J,J,fun tm H4 lZ _ R5=>?_⟩;have Ni:=lZ _ _ ZK;have Xz:=kL lZ XN;refine⟨zfK,_,_,Z,Z,Ni,by rw[aa,ZJ];exact mD J,?_⟩;have XQ:Lt.mix l α left c0 m≠[]:=fun z=>by have:=Lt.tj (a:=α) (b:=c0) (m:=m) ll fl;rw[z] at this;simp at this;lia
   obtain⟨XM,e1,e2⟩:=CU Ni Xz R5 XQ;have nO:∀(c:Addr)(y:List Int),y.length=K'->H4 c=some (.lst (y.map V.int))->c≠zfK:=fun c y ly hc=>nK hc Ni fun zz=>by
    injection zz with zz;cases y with
    | nil=>simp at ly;lia
    | cons y ys=>cases bs with
     | nil=>cases zz
     | cons b0 R8=>injection zz with z1;cases z1
   obtain⟨oo,hoo⟩:∃oo:HO,oo=.lst (bs.map V.ref++[.ref tm]):=⟨_,Z⟩;have Sa:=(jW (o:=oo) (nO tl left fl (lZ _ _ Nh))).trans (lZ _ _ Nh);have Sb:=(jW (o:=oo) (nO a l ll (lZ _ _ R9))).trans (lZ _ _ R9);have Sd:=(jW (o:=oo) (nK (lZ _ _ ht) Ni (by intro z;cases z))).trans (lZ _ _ ht);have E7:jM H (upd H4 zfK oo):=ku (((sm.trans pJ).trans kT).trans lZ) hO;rw[hoo] at Sa Sb Sd E7;generalize upd H4 zfK (.lst (bs.map V.ref++[.ref tm]))=H5 at e1 e2 Sa Sb Sd E7 ⊢;have q1:=cG (show 0<=Lt.g l i by lia) (show 0<=r0 by lia);have q2:=b8 r0 (show 0<=Lt.g l i by lia);have q3:=cG AC.1 (show 0<=r0 by lia);have q4:=b8 r0 AC.1;refine⟨_,Z,_,Z,_,Z,a,_,_,_,Z,Z,jV.of Sb,cl,_,Z,tt,_,_,_,Z,Z,kJ.of Sd,i0,_,_,Z,Z,sW J (show r0.natAbs<2^N by lia) N2,_,Z,_,Z,_,Z,tl,_,_,_,Z,Z,jV.of Sa,cg,_,Z,tt,_,_,_,Z,Z,kJ.of Sd,i0,_,_,Z,Z,sW J (show r0.natAbs<2^N by lia) N2,_,Z,_,Z,tl,a,left,l,_,_,m,N,Z,Sa,Sb,by rw[ll,fl],J,J,J,J,R4,A5 mN N0,J,fun tn H6 qZ _ hn6=>?_⟩;refine⟨E7.trans qZ,tn,_,XM,outs++[Lt.mix l α left c0 m],_,_,_,_,Z,hn6,qZ _ _ e1,kL qZ e2,by rw[aJ,lo];rfl,ZH,lf.mixed m1 ll lz p0 dv.1 dv.2,fun ls' e=>?_⟩;rw[gh];exact go _ (.mix α c0 r0 nz p0 dv.1 dv.2 (by rw[XO];exact bz') e)
 .rintro σ H2 ⟨sm,tl,left,bs,outs,o1,o2,o3,o4,rfl,hl,NZ,pb,lo,tr,lf,go⟩;rw[aa,la,jp] at go;refine⟨_,Z,q zfK H2 outs sm hO ⟨bs,NZ,pb⟩ ?_⟩;have:=go [] .nil;rwa [gA] at this
inductive Os (K:PySem.W.Frag)(vs:List V)(H:Hp)(Q:VK)(E_:XK):Prop
 | mk (r:Addr)(rows:List (List Int))(k rr N:Nat)(m:Int)(_:vs=[.ref r,.int k,.int m])(_:k9 H r rows)(_:rows.length=rr)(_:∀row∈rows,row.length=k)(_:k+rr<=420)(_:1<=m)(_:m<2^N)(_:1<=N)(_:N<=9000)(_:∀t H' ls,jM H H'->k9 H' t ls->Rx.Jo m k rr rows rr ls->Q (.ref t) H')
theorem Ai (T:Txt K mg CF tL tF tM):Df P w K mg base 5 "leads_of" ["rows","size","modulus"] (Os K):=by
 refine kN T.d_leads_of AN fun f cdv A outer s H vs Q E hr nd h=>?_;obtain⟨r,rows,k,rr,N,m,rfl,⟨as,h1,pa⟩,lr,lw,kr,m1,mN,N1,N2,q⟩:=h;have la:=jY pa;have eN:=nT N;refine⟨_,(jE (sM 3 [("modulus",2),("size",1),("rows",0)] ["column"] nd (mf jC T.b_range (kD (pv 1))) (fun C s H fp=>⟨(nB 3),kd,(j7 (vw T) hr (jF (jR kG (pv 1) (kE (EE (K:=K) Z) jC T.b_len L2.GW (kD (pv 2)))) (jF (pv 3) (jF (pv 0) j5))))⟩)) (jE (kR aI Z (oy jC T.b_enumerate (kD (pv 0))) (me Z (j6 (lG 4 nd) (j6 (lG 5 nd) lC))) (jJ (j8 3 nd (j7 (Bx T) hr (jF (pv 3) (jF (jR sF (pv 5) (j7 (vw T) hr (jF (nI T.b_len (pv 0)) (jF (pv 4) (jF jH j5))))) (jF (pv 2) j5))))))) (jJ (jT (pv 3))))),?_⟩;refine⟨_,Z,k,Z,J,J,?_⟩;refine Av (n:=k) (Rx.Ks m k rr) (by unfold Rx.Ks;rw[List.length_map,List.length_range]) J ?_ ?_
 .intro i H2 hi sm R kk;refine⟨_,Z,_,Z,r,_,Z,.inl (sm.seq (jV.of h1)),_,_,Z,Z,_,Z,_,Z,k+rr,(i:Nat),m,(by rw[aa,la,lr];rfl),J,J,fun t H3 kT _ h3=>?_⟩;rw[vy (show i<k+rr by lia)] at h3;exact kk H3 t _ kT (by unfold Rx.Ks;rw[List.getElem?_map,List.getElem?_range hi];rfl) h3
 intro t0 H0 qM _ h0;refine⟨_,Z,r,Z,⟨_,jV.of (qM _ _ h1)⟩,oK (K:=K) (xs:=as.map V.ref) (fun i σ H2=>jM H H2/\∃(tl:Addr)(ls:List (List Int))(o1 o2:Option V),σ=[some (.ref r),some (.int k),some (.int m),some (.ref tl),o1,o2]/\k9 H2 tl ls/\Rx.Jo m k rr rows i ls) ⟨qM,t0,_,none,none,Z,h0,.start m1 k rr rows⟩ (fun i σ H2 _ z=>z.1.seq (jV.of h1)) ?_ ?_⟩
 .rintro i x σ H2 pp hx ⟨sm,tl,ls,o1,o2,rfl,QG,zfL⟩ zR;obtain⟨a,row,rfl,ha,kX,hh⟩:=mv pa hx;have il:i<rr:=by rw[<-lr];exact(aF.mp kX).1
  have rl:=lw row (ah kX);have pJ:=jK (o:=.tup [.int (i:Nat),.ref a]) (jM.refl H2) zR;refine⟨pp,_,Z,kJ.of jG,Z,_,_,Z,_,_,Z,Z,?_⟩;refine⟨_,Z,_,Z,_,Z,r,_,Z,.inl (jV.of (pJ _ _ (sm _ _ h1))),_,Z,rr,(i:Nat),1,(by rw[aa,la,lr];rfl),J,J,fun th H3 kT _ h3=>?_⟩;rw[vy il] at h3;refine⟨a,th,_,_,Z,Z,kT _ _ (pJ _ _ (sm _ _ hh)),h3,?_,fun tc htc=>?_⟩
  .rw[aa,aa,Rx.oz,rl];exact mW J
  have Qz:=jK (o:=.lst (row.map V.int++(Rx.tJ rr i 1).map V.int)) (jM.refl H3) htc;refine⟨_,Z,tl,tc,ls,row++Rx.tJ rr i 1,m,k+rr,N,Z,((QG.same pJ).same kT).same Qz,by rw[jG,aQ],zfL.Cs,by rw[aJ,rl,Rx.oz],J,by rw[zfL.len];lia,zfL.up,m1,mN,N1,N2,fun tn H4 ls' lZ _ h4 ent=>?_⟩;have er:rows.getD i []=row:=Rx.tq kX;exact⟨(((sm.trans pJ).trans kT).trans Qz).trans lZ,tn,ls',_,_,Z,h4,zfL.enter m1 lr lw il (by rw[er];exact ent)⟩
 .rintro σ H2 ⟨sm,tl,ls,o1,o2,rfl,QG,zfL⟩;rw[aa,la,lr] at zfL;exact⟨_,Z,q tl H2 ls sm QG zfL⟩
theorem DN (ns:List Int){lo hi:Nat}(h:lo<=hi)(h2:hi<=ns.length):tE (ns.map V.int) (some (lo:Int)) (some (hi:Int))=((ns.take hi).drop lo).map V.int:=by
 unfold tE;rw[HT.yX,HT.yX,aa,<-List.map_drop,<-List.map_take];congr 1;rw[hV h2,hV J,List.drop_take]
inductive MV (K:PySem.W.Frag)(vs:List V)(H:Hp)(Q:VK)(E_:XK):Prop
 | mk (r:Addr)(rows ls:List (List Int))(k rr j c N:Nat)(m:Int)(_:vs=[.ref r,.int c,.int m])(_:k9 H r ls)(_:Rx.Jo m k rr rows j ls)(_:c<k)(_:k+rr<=420)(_:1<=m)(_:m<2^N)(_:1<=N)(_:N<=9000)(_:∀t H' am,jM H H'->H t=none->H' t=some (.lst (am.map V.int))->am.length=k->Rx.Up m am->Lt.EK m k c ls 0 (Rx.fn am)->Q (.ref t) H')
theorem BY (T:Txt K mg CF tL tF tM):Df P w K mg base 3 "barring" ["leads","column","modulus"] (MV K):=by
 refine kN T.d_barring B2 fun f cdv A outer s H vs Q E hr nd h=>?_;obtain⟨r,rows,ls,k,rr,j,c,N,m,rfl,⟨as,h1,pa⟩,zfL,ck,kr,m1,mN,N1,N2,q⟩:=h;have la:=jY pa;have lk:=zfL.len;have eN:=nT N;have lead:∀i:Nat,i<k->(ls.getD i []).length=k+rr/\1<=Lt.g (ls.getD i []) i/\Lt.g (ls.getD i []) i∣m/\Lt.g (ls.getD i []) i<=m/\1<=m/Lt.g (ls.getD i []) i/\m/Lt.g (ls.getD i []) i<=m:=fun i hi=>by
  have t:=zfL.Cs.at (Rx.ma (rows:=ls) (i:=i) J);rw[dR] at t;have le:=aT J t.2.2.2;refine⟨t.1,t.2.2.1,t.2.2.2,le,?_,b8 _ J⟩;obtain⟨x,hx⟩:=t.2.2.2;rw[hx,aG _ J];rcases Int.lt_or_le 0 x with z | z
  .exact z
  .have:=ay z (show 0<=Lt.g (ls.getD i []) i by lia);lia
 obtain⟨ac,hac,P9⟩:=wI pa (Rx.ma (rows:=ls) (i:=c) J);have lc:=lead c ck;have cg:lY ((ls.getD c []).map V.int) (c:Int)=some (.int (Lt.g (ls.getD c []) c)):=lU zfN;refine⟨_,(jE (j8 3 nd (j7 (vw T) hr (jF (nI T.b_len (pv 0)) (jF (pv 1) (jF (jR kq (pv 2) (j9 kC (j9 kC (pv 0) (pv 1)) (pv 1))) j5))))) (jE (kR aI Z (D9 jC T.b_range (jF (jR mU (pv 1) jH) (jF (rq oO jH) (jF (rq oO jH) j5)))) (lG 4 nd) (jE (j8 5 nd (j9 kC (pv 0) (pv 4))) (jE (j8 6 nd (j7 (ph T) hr (ke (tf vp (pv 5) (rX (jR kG (pv 4) jH)) (rX (jR kG (pv 1) jH))) (tf vp (pv 3) (rX (jR kG (pv 4) jH)) (rX (jR kG (pv 1) jH)))))) (jJ (oY (jR ky (rq oO (jR kq (pv 6) (j9 kC (pv 5) (pv 4)))) (jR kq (pv 2) (j9 kC (pv 5) (pv 4)))) (oR (pv 3) (pv 4) set_list)))))) (jJ (jT (pv 3))))),?_⟩;refine⟨_,Z,r,_,Z,.inl (jV.of h1),_,Z,_,Z,_,Z,_,Z,r,_,_,_,Z,Z,jV.of h1,hac,_,Z,ac,_,_,_,Z,Z,jV.of P9,cg,_,_,Z,Z,sW J (show (Lt.g (ls.getD c []) c).natAbs<2^N by lia) N2,k,(c:Nat),_,(by rw[aa,la,lk];rfl),J,J,fun t0 H0 qM n0 h0=>?_⟩;rw[vy ck] at h0;obtain⟨v0,ZL⟩:∃v0:Int,v0=m/Lt.g (ls.getD c []) c:=⟨_,Z⟩;rw[<-ZL] at h0;have b0:Lt.EK m k c ls c (Rx.fn (Rx.tJ k c v0)):=Rx.EK.vI (Lt.Tp zfL.Cs ck (Rx.ma (rows:=ls) (i:=c) J)) fun i=>by
  unfold Rx.fn;rw[ae,Rx.pf ck,ZL]
  by_cases z:i=c
  .rw[aC z,aC J]
  .rw[ak z,ak J]
 have u0:Rx.Up m (Rx.tJ k c v0):=fun x hx=>by
  obtain⟨i,hi,rfl⟩:=Rx.sw hx;rw[Rx.pf ck];split<;>lia
 refine⟨_,Z,_,_,Z,Z,_,Z,_,Z,c,Z,J,BM (n:=c) (fun i σ H2=>jM H H2/\∃(am:List Int)(o1 o2 o3:Option V),σ=[some (.ref r),some (.int c),some (.int m),some (.ref t0),o1,o2,o3]/\H2 t0=some (.lst (am.map V.int))/\am.length=k/\Rx.Up m am/\Lt.EK m k c ls (c-i) (Rx.fn am)) ⟨qM,_,none,none,none,Z,h0,Rx.oz ..,u0,b0⟩ ?_ ?_⟩
 .rintro i σ H2 hi ⟨sm,am,o1,o2,o3,rfl,ha,lam,up,bar⟩;obtain⟨pl,wU⟩:∃pl:Nat,pl=c-1-i:=⟨_,Z⟩;have ep:(c:Int)-1+(i:Int)*(-1)=(pl:Nat):=J;rw[ep];have epc:c-i=pl+1:=J;rw[epc] at bar;have pk':pl<k:=J;obtain⟨ap,hap,zR⟩:=wI pa (Rx.ma (rows:=ls) (i:=pl) J);have lp:=lead pl pk';have kX:=Rx.ma (rows:=ls) (i:=pl) J;have pg:lY ((ls.getD pl []).map V.int) (pl:Int)=some (.int (Lt.g (ls.getD pl []) pl)):=lU zfN;have QH:=sm _ _ zR;refine⟨_,Z,_,Z,r,_,_,_,Z,Z,jV.of (sm _ _ h1),hap,?_⟩;have e1:(pl:Int)+1=((pl+1:Nat):Int):=J;have e2:(c:Int)+1=((c+1:Nat):Int):=J;refine⟨_,Z,_,Z,_,_,Z,Z,_,Z,_,Z,_,_,Z,Z,_,Z,ap,_,Z,jV.of QH,fun s1 QI=>?_⟩;have lH:=jK (o:=.lst (tE ((ls.getD pl []).map V.int) (some ((pl:Int)+1)) (some ((c:Int)+1)))) (jM.refl H2) QI;have QJ:upd H2 s1 (.lst (tE ((ls.getD pl []).map V.int) (some ((pl:Int)+1)) (some ((c:Int)+1)))) s1=some (.lst ((((ls.getD pl []).take (c+1)).drop (pl+1)).map V.int)):=by
   rw[jG,e1,e2,DN _ J J]
  dsimp only;generalize upd H2 s1 (.lst (tE ((ls.getD pl []).map V.int) (some ((pl:Int)+1)) (some ((c:Int)+1))))=H3 at lH QJ ⊢;refine⟨_,Z,_,Z,_,_,Z,Z,_,Z,_,Z,_,_,Z,Z,_,Z,t0,_,Z,jV.of (lH _ _ ha),fun s2 hs2=>?_⟩;have lE:=jK (o:=.lst (tE (am.map V.int) (some ((pl:Int)+1)) (some ((c:Int)+1)))) (jM.refl H3) hs2;have QK:upd H3 s2 (.lst (tE (am.map V.int) (some ((pl:Int)+1)) (some ((c:Int)+1)))) s2=some (.lst (((am.take (c+1)).drop (pl+1)).map V.int)):=by
   rw[jG,e1,e2,DN _ J J]
  dsimp only;generalize upd H3 s2 (.lst (tE (am.map V.int) (some ((pl:Int)+1)) (some ((c:Int)+1))))=H4 at lE QK ⊢;have upl:Bd N (ls.getD pl []):=A5 mN (zfL.up _ (Rx.lh J));have upa:Bd N am:=A5 mN up;refine⟨s1,s2,((ls.getD pl []).take (c+1)).drop (pl+1),(am.take (c+1)).drop (pl+1),N,N,Z,jV.of (lE _ _ QJ),jV.of QK,by rw[cC,cJ,cC,cJ];lia,by rw[cC,cJ];lia,fun x hx=>upl x (fX (gL hx)),fun x hx=>upa x (fX (gL hx)),J,J,fun H5 mJ=>?_⟩;rw[Rx.IP (k:=k) J lam J J (fun i hi=>by have:=bar.lo i hi;unfold Rx.fn at this;rwa [Int.toNat_natCast] at this) (fun i hi=>by have:=bar.hi i J;unfold Rx.fn at this;rwa [Int.toNat_natCast] at this)];have xg:=(lH.trans lE).trans mJ;have b1:=Lt.UR m1 zfL.Cs zfL.how ck J bar kX;obtain⟨XR,hdt⟩:∃XR:Int,XR=Lt.dt k (ls.getD pl []) (Rx.fn am):=⟨_,Z⟩;rw[<-hdt] at b1 ⊢;obtain⟨nv,KY⟩:∃nv:Int,nv=-(XR/Lt.g (ls.getD pl []) pl)%(m/Lt.g (ls.getD pl []) pl):=⟨_,Z⟩;rw[<-KY] at b1;have nv0:0<=nv:=by rw[KY];exact aD _ J
  have nv1:nv<m/Lt.g (ls.getD pl []) pl:=by rw[KY];exact az _ J
  refine⟨_,Z,_,Z,_,Z,ap,_,_,_,Z,Z,jV.of (xg _ _ QH),pg,_,_,Z,Z,sW J (show (Lt.g (ls.getD pl []) pl).natAbs<2^N by lia) N2,_,Z,_,Z,_,Z,_,Z,ap,_,_,_,Z,Z,jV.of (xg _ _ QH),pg,_,_,Z,Z,sW J (show (Lt.g (ls.getD pl []) pl).natAbs<2^N by lia) N2,_,_,Z,Z,(show 0<m/Lt.g (ls.getD pl []) pl by lia),?_⟩;dsimp only;rw[<-KY];refine⟨_,Z,_,Z,t0,_,_,_,Z,Z,xg _ _ ha,pZ J zfM,?_⟩;rw[ae,set_int];refine⟨ku (sm.trans xg) n0,am.set pl nv,_,_,_,Z,jG,by rw[cf,lam],fun x hx=>?_,?_⟩
  .rcases List.mem_or_eq_of_mem_set hx with z | z
   .exact up x z
   .rw[z];lia
  .rw[show c-(i+1)=pl by lia];refine Rx.EK.vI b1.2 fun t=>?_;unfold Rx.fn;rw[ae,Rx.yg J]
   by_cases z:t=pl
   .rw[aC z,aC J]
   .rw[ak z,ak J]
 .rintro σ H2 ⟨sm,am,o1,o2,o3,rfl,ha,lam,up,bar⟩;rw[iM] at bar;exact⟨_,Z,q t0 H2 am sm n0 ha lam up bar⟩
inductive Ou (vs:List V)(H:Hp)(Q:VK)(E_:XK):Prop
 | mk (t tt:Addr)(tops:List Int)(b m:Int)(N:Nat)(_:vs=[.ref t,.int m])(_:H t=some (.tup [.ref tt,.int b]))(_:H tt=some (.lst (tops.map V.int)))(_:tops.length<=20000)(_:1<=b)(_:b<2^N)(_:0<=m)(_:m<2^N)(_:Bd N tops)(_:N<=9000)(_:∀u H',jM H H'->H' u=some (.lst ((Rx.wh tops (m/b)).map V.int))->Q (.ref u) H')
theorem qU (T:Txt K mg CF tL tF tM):Df P w K mg base 1 "whole_counts" ["made","modulus"] Ou:=by
 refine kN T.d_whole_counts u8 fun f cdv A outer s H vs Q E hr nd h=>?_;obtain⟨t,tt,tops,b,m,N,rfl,ht,qj,lz,b1,bN,m0,mN,bt,N2,q⟩:=h;have eN:=nT N;have i0:lY [V.ref tt,V.int b] 0=some (.ref tt):=Z;have i1:lY [V.ref tt,V.int b] 1=some (.int b):=Z;have q0:=cG m0 (show 0<=b by lia);have q1:=b8 b m0;refine⟨_,(jJ (jT (m5 [("modulus",1),("made",0)] ["top"] (ki (j9 jZ (pv 0) jH)) (fun C s H fp=>⟨(nB 2),kd,(jR ko (pv 2) (jR kq (pv 0) (j9 (tI (K:=K) Z) (pv 1) jH)))⟩)))),?_⟩;refine⟨_,Z,t,_,_,_,Z,Z,kJ.of ht,i0,tt,Z,⟨_,jV.of qj⟩,?_⟩;refine lB (K:=K) (xs:=tops.map V.int) (Rx.wh tops (m/b)) (by rw[Rx.zG,aa]) (by rw[aa];exact lz) (jV.of qj) ?_ fun D H2 sm _ hD=>q D H2 sm hD;intro i x H2 hx sm R k;obtain⟨u,rfl,hu⟩:=int_at hx;exact⟨_,Z,_,Z,_,Z,t,_,_,_,Z,Z,kJ.of (sm _ _ ht),i1,_,_,Z,Z,sW J (show b.natAbs<2^N by lia) N2,_,_,Z,Z,rp (M:=N) (bt u (ah hu)) J J J,k _ _ (jM.refl _) (by unfold Rx.wh;rw[List.getElem?_map,hu];rfl)⟩
inductive Oj (vs:List V)(H:Hp)(Q:VK)(E_:XK):Prop
 | mk (m n:Int)(_:vs=[.int m,.int n])(_:0<=m)(_:m∣n->Q (.bl true) H)(_:¬m∣n->Q (.bl false) H)
theorem Bz (T:Txt K mg CF tL tF tM):Df P w K mg base 1 "divides" ["modulus","number"] Oj:=by
 refine kN T.d_divides Ch fun f cdv A outer s H vs Q E hr nd h=>?_;obtain⟨m,n,rfl,m0,q1,q2⟩:=h;have key:∀c:Bool,(c=true↔m∣n)->Q (.bl c) H:=fun c e=>by
  cases c with
  | true=>exact q1 (e.mp Z)
  | false=>exact q2 fun z=>by have:=e.mpr z;cases this
 refine⟨_,(jE (kP (k7 m7 (pv 0) jH) (jJ (jT (nZ m7 (pv 1) jH (oZ _)))) kh) (jJ (jT (nZ m7 (jR ky (pv 1) (pv 0)) jH (oZ _))))),?_⟩;refine⟨_,Z,Z,_,Z,mM (fun c=>?_) (fun c=>?_)⟩
 .have z:=uK c;subst z;refine⟨_,Z,Z,key _ ⟨fun h=>?_,fun h=>?_⟩⟩
  .rw[uK h];exact bi _
  .rw[ga.mp h];exact b9 Z
 .have z:=wQ c;refine⟨_,Z,_,Z,_,_,Z,Z,(show 0<m by lia),Z,key _ ⟨fun h=>?_,fun h=>?_⟩⟩
  .exact bO (uK h)
  .have:n%m=0:=bP h;exact b9 (cU V.int this)
inductive Po (K:PySem.W.Frag)(vs:List V)(H:Hp)(Q:VK)(E_:XK):Prop
 | mk (r s:Addr)(steps:List (List Int))(counts:List Int)(n qq N M:Nat)(_:vs=[.ref r,.ref s,.int n])(_:k9 H r steps)(_:H s=some (.lst (counts.map V.int)))(_:steps.length=qq)(_:counts.length=qq)(_:∀x∈steps,x.length=n/\Bd N x)(_:Bd M counts)(_:n<=20000)(_:qq<=20000)(_:N<=1000000)(_:M<=1000000)(_:∀t H' out,jM H H'->H' t=some (.lst (out.map V.int))->out.length=n->(∀c:Nat,c<n->Lt.g out c=Ld.S qq fun j=>Lt.g counts j.toNat*Lt.g (steps.getD j.toNat []) c)->Q (.ref t) H')
theorem xV (T:Txt K mg CF tL tF tM):Df P w K mg base 1 "summed" ["steps","counts","size"] (Po K):=by
 refine kN T.d_summed Ew fun f cdv A outer s H vs Q E hr nd h=>?_;obtain⟨r,s',steps,counts,n,qq,N,M,rfl,⟨as,h1,pa⟩,h2,ls,lc,lw,bc,nz,qz,N1,M1,q⟩:=h;have la:=jY pa;refine⟨_,(jE (j8 3 nd (jR oS (lD (kD jH)) (pv 2))) (jE (kR aI Z (nF jC T.b_zip (ke (pv 0) (pv 1))) (me Z (j6 (lG 4 nd) (j6 (lG 5 nd) lC))) (jJ (sM 3 [("many",5)] ["number","more"] nd (nF jC T.b_zip (ke (pv 3) (pv 4))) (fun C s H fp=>⟨(tH 1 2),kd,(jR kG (pv 1) (jR ko (pv 0) (pv 2)))⟩)))) (jJ (jT (pv 3))))),?_⟩;refine⟨jL,fun lo wX=>⟨_,Z,lo,_,_,Z,Z,jG,J,J,zfO,fun p hp=>?_⟩⟩;rw[rep0];have E4:jM H (upd (upd H lo (.lst [V.int 0])) p (.lst ((List.replicate n (0:Int)).map V.int))):=jK (jK (jM.refl _) wX) hp;have hP:upd (upd H lo (.lst [V.int 0])) p (.lst ((List.replicate n (0:Int)).map V.int)) p=some (.lst ((List.replicate n (0:Int)).map V.int)):=jG;generalize upd (upd H lo (.lst [V.int 0])) p (.lst ((List.replicate n (0:Int)).map V.int))=H0 at E4 hP ⊢;refine⟨_,Z,_,Z,r,s',Z,⟨_,jV.of (E4 _ _ h1)⟩,⟨_,jV.of (E4 _ _ h2)⟩,tD (K:=K) (xs:=as.map V.ref) (ys:=counts.map V.int) (by rw[aa,aa,la,ls,lc]) (fun i σ H2=>jM H H2/\∃(tl:Addr)(out:List Int)(o1 o2:Option V),σ=[some (.ref r),some (.ref s'),some (.int n),some (.ref tl),o1,o2]/\H2 tl=some (.lst (out.map V.int))/\out.length=n/\∀c:Nat,c<n->Lt.g out c=Ld.S i fun j=>Lt.g counts j.toNat*Lt.g (steps.getD j.toNat []) c)
  ⟨E4,p,_,none,none,Z,hP,aR,fun c hc=>Rx.AD hc⟩ (fun i σ H2 _ z=>⟨z.1.seq (jV.of h1),z.1.seq (jV.of h2)⟩) ?_ ?_⟩
 .rintro i x y σ H2 pp hx hy ⟨sm,tl,out,o1,o2,rfl,hl,QL,eq⟩ zR;obtain⟨a,row,rfl,ha,kX,hh⟩:=mv pa hx;obtain⟨v,rfl,hv⟩:=int_at hy;have rl:=lw row (ah kX);have pJ:=jK (o:=.tup [.ref a,.int v]) (jM.refl H2) zR;refine⟨pp,_,Z,kJ.of jG,Z,_,_,Z,_,_,Z,Z,?_⟩;refine⟨_,Z,_,Z,tl,a,Z,⟨_,jV.of (pJ _ _ hl)⟩,⟨_,jV.of (pJ _ _ (sm _ _ hh))⟩,?_⟩;refine oQ (K:=K) (xs:=out.map V.int) (ys:=row.map V.int) (List.zipWith (fun x y=>x+v*y) out row) (by rw[aa,aa,QL,rl.1]) (by rw[dQ,aa,QL,rl.1,fR]) zfM (jV.of (pJ _ _ hl)) (jV.of (pJ _ _ (sm _ _ hh))) ?_ ?_
  .intro i' x' y' H3 p3 CH CD kT hp3 R k;obtain⟨u1,rfl,hu1⟩:=int_at CH;obtain⟨u2,rfl,ZM⟩:=int_at CD;refine⟨p3,_,Z,kJ.of jG,Z,_,_,Z,_,_,Z,Z,?_⟩;exact⟨_,Z,_,Z,_,Z,_,_,Z,Z,rp (bc v (ah hv)) (rl.2 u2 (ah ZM)) M1 N1,_,_,Z,Z,k _ _ (jK (jM.refl _) hp3) (by rw[bY,hu1,ZM])⟩
  .intro D H3 kT _ hD;refine⟨(sm.trans pJ).trans kT,D,_,_,_,Z,hD,by rw[dQ,QL,rl.1,fR],fun c hc=>?_⟩;rw[Rx.xR J J,eq c hc];show _=(Ld.S i fun j=>Lt.g counts j.toNat*Lt.g (steps.getD j.toNat []) c)+Lt.g counts (i:Int).toNat*Lt.g (steps.getD (i:Int).toNat []) c
   rw[ae,Rx.lJ hv,Rx.tq kX]
 .rintro σ H2 ⟨sm,tl,out,o1,o2,rfl,hl,QL,eq⟩;rw[aa,la,ls] at eq;exact⟨_,Z,q tl H2 out sm hl QL eq⟩
inductive Pw (K:PySem.W.Frag)(vs:List V)(H:Hp)(Q:VK)(E_:XK):Prop
 | mk (r t wt:Addr)(v0:V)(steps:List (List Int))(W:List Int)(m:Int)(w N M:Nat)(_:vs=[.ref r,.ref t])(_:k9 H r steps)(_:H t=some (.tup [v0,.ref wt,.int m]))(_:H wt=some (.lst (W.map V.int)))(_:W.length=w)(_:∀x∈steps,x.length=w/\Bd N x)(_:Bd M W)(_:w<=20000)(_:N<=1000000)(_:M<=1000000)(_:0<=m)(_:∀(i:Nat) H',jM H H'->i<steps.length->¬m∣Rx.dot (steps.getD i []) W->Q (.int i) H')(_:∀H',jM H H'->(∀i,i<steps.length->m∣Rx.dot (steps.getD i []) W)->Q .non H')
theorem nR (T:Txt K mg CF tL tF tM):Df P w K mg base 3 "first_unbarred" ["steps","bar"] (Pw K):=by
 refine kN T.d_first_unbarred tR fun f cdv A outer s H vs Q E hr nd h=>?_;obtain⟨r,t,wt,v0,steps,W,m,w',N,M,rfl,⟨as,h1,pa⟩,ht,hw,lW,lw,bW,wz,N1,M1,m0,q1,q2⟩:=h;have la:=jY pa;have i1:lY [v0,V.ref wt,V.int m] 1=some (.ref wt):=Z;have i2:lY [v0,V.ref wt,V.int m] 2=some (.int m):=Z;refine⟨_,(jE (kR aI Z (oy jC T.b_enumerate (kD (pv 0))) (me Z (j6 (lG 2 nd) (j6 (lG 3 nd) lC))) (jJ (kP (mZ (mT (j7 (Bz T) hr (ke (j9 jZ (pv 1) jH) (j7 (ph T) hr (ke (pv 3) (j9 jZ (pv 1) jH))))))) (jJ (jT (pv 2))) kh))) (jJ (jT rQ))),?_⟩;refine⟨_,Z,r,Z,⟨_,jV.of h1⟩,oK (K:=K) (xs:=as.map V.ref) (fun i σ H2=>jM H H2/\(∃o1 o2:Option V,σ=[some (.ref r),some (.ref t),o1,o2])/\∀c,c<i->m∣Rx.dot (steps.getD c []) W) ⟨jM.refl _,⟨none,none,Z⟩,fun c hc=>absurd hc (bE _)⟩ (fun i σ H2 _ z=>z.1.seq (jV.of h1)) ?_ ?_⟩
 .rintro i x σ H2 p hx ⟨sm,⟨o1,o2,rfl⟩,z⟩ hp;obtain⟨a,row,rfl,ha,kX,hh⟩:=mv pa hx;have rl:=lw row (ah kX);have il:i<steps.length:=(aF.mp kX).1;have er:=Rx.tq kX;have pJ:=jK (o:=.tup [.int (i:Nat),.ref a]) (jM.refl H2) hp;have HZ:=sm.trans pJ;refine⟨p,_,Z,kJ.of jG,Z,_,_,Z,_,_,Z,Z,?_⟩;refine⟨_,Z,t,_,_,_,Z,Z,kJ.of (HZ _ _ ht),i2,_,Z,_,Z,t,_,_,_,Z,Z,kJ.of (HZ _ _ ht),i1,a,wt,row,W,N,M,Z,jV.of (HZ _ _ hh),jV.of (HZ _ _ hw),by rw[rl.1,lW],J,rl.2,bW,N1,M1,fun H3 kT=>?_⟩;refine⟨m,Rx.dot row W,Z,m0,fun dv=>?_,fun ndv=>?_⟩
  .refine⟨_,Z,lP O ?_⟩;refine⟨HZ.trans kT,⟨_,_,Z⟩,fun c hc=>?_⟩;rcases Nat.lt_succ_iff_lt_or_eq.mp hc with e | e
   .exact z c e
   .rw[e,er];exact dv
  .refine⟨_,Z,p8 O ?_⟩;exact⟨_,Z,q1 i H3 (HZ.trans kT) il (by rw[er];exact ndv)⟩
 .rintro σ H2 ⟨sm,_,z⟩;rw[aa,la] at z;exact q2 H2 sm z
inductive Of (C:Addr)(vs:List V)(H:Hp)(Q:VK)(E_:XK):Prop
 | mk (x s:Addr)(steps:List (List Int))(fs:List Rx.Fd)(us:List (List Int))(am:List Int)(p:Int)(w N D Cc G B:Nat)(_:vs=[.ref x,.ref s])(_:wf C H x p w steps fs us)(_:Kq p w N steps fs us)(_:Rx.xp p w steps fs us D Cc)(_:Nb p fs.length D Cc G B N)(_:∀y∈steps,y.length=w/\Bd N y)(_:w<=420)(_:1000<=p)(_:H s=some (.lst (am.map V.int)))(_:am.length=fs.length)(_:∀c,c<fs.length->(Lt.g am c).natAbs<=G)(_:∀t tt H' tops b,jM H H'->H' t=some (.tup [.str "bar",.ref tt,.int b])->H' tt=some (.lst (((Rx.uk w (Rx.kf fs) tops).map fun x=>x%b).map V.int))->tops.length=fs.length->1<=b->b<2^N->(∀i:Nat,i<fs.length->(Ld.S fs.length fun t=>Rx.st steps (Rx.nm fs i) (Rx.cl fs t.toNat)*Rx.fn tops t)=b*Lt.g am i)->Q (.ref t) H')
theorem yS (T:Txt K mg CF tL tF tM):Df P w K mg base 8 "inner_bar" ["frame","amounts"] (Of CF):=by
 refine kN T.d_inner_bar zy fun f cdv A outer s H vs Q E hr nd h=>?_;obtain⟨x,s',steps,fs,us,am,p,w',N,D,Cc,G,B,rfl,fa,fo,fm,nb,lw,w4,w5,hg,lg,gb,q⟩:=h;obtain⟨dx,ff,ch,co,ro,un,hx,_⟩:=fa.ex;refine⟨_,(jE (j8 2 nd (vS (pv 0) T.cl_Frame (p9 T) (hr.mono O) (kD (pv 1)))) (jJ (jT (lI (jF oa (jF (m5 [("told",2)] ["number"] (ki (j9 jZ (pv 2) jH)) (fun C s H fp=>⟨(nB 1),kd,(jR ky (pv 1) (j9 (tI (K:=K) Z) (pv 0) jH))⟩)) (jF (j9 jZ (pv 2) jH) j5))))))),?_⟩;refine⟨_,Z,x,dx,_,Z,hx,wd _ _ _ _ _ _ _ _,_,Z,x,s',steps,fs,us,am,p,w',N,D,Cc,G,B,Z,fa,fo,fm,nb,lw,w4,w5,hg,lg,gb,fun t tt H1 tops b lH ht qj _ lt b1 _ bN _ sol=>?_⟩;have i0:lY [V.ref tt,V.int b] 0=some (.ref tt):=Z;have i1:lY [V.ref tt,V.int b] 1=some (.int b):=Z;refine⟨_,Z,t,_,_,_,Z,Z,kJ.of ht,i0,tt,Z,⟨_,jV.of qj⟩,?_⟩;refine lB (K:=K) (xs:=(Rx.uk w' (Rx.kf fs) tops).map V.int) ((Rx.uk w' (Rx.kf fs) tops).map fun x=>x%b) zfP zfR (jV.of qj) ?_ ?_
 .intro i y H2 hy sm R k;obtain⟨u,rfl,hu⟩:=int_at hy;exact⟨_,Z,_,Z,t,_,_,_,Z,Z,kJ.of (sm _ _ ht),i1,_,_,Z,Z,(show 0<b by lia),k _ _ (jM.refl _) (by rw[af,hu];rfl)⟩
 .intro D2 H2 lE _ XB;refine⟨_,Z,t,_,_,_,Z,Z,kJ.of (lE _ _ ht),i1,jU,fun u hu=>?_⟩;exact q u D2 _ tops b (jK (lH.trans lE) hu) jG (jK (jM.refl _) hu _ _ XB) lt b1 bN sol
abbrev Ot:=Nat×List Int×Int
def GI (H:Hp)(a:Addr)(x:Ot):Prop:=∃t tt,H a=some (.tup [.int x.1,.ref t])/\H t=some (.tup [.ref tt,.int x.2.2])/\H tt=some (.lst (x.2.1.map V.int))
def EB (H:Hp)(r:Addr)(os:List Ot):Prop:=∃as:List Addr,H r=some (.lst (as.map V.ref))/\Paired (GI H) as os
theorem Ad {H H':Hp}(sm:jM H H'){os:List Ot}(h:Paired (GI H) as os):Paired (GI H') as os:=mY h fun _ _ ⟨t,tt,a,b,c⟩=>⟨t,tt,sm _ _ a,sm _ _ b,sm _ _ c⟩
theorem EB.same {H H':Hp}(sm:jM H H'){os:List Ot}(h:EB H r os):EB H' r os :=
 let ⟨as,h1,h2⟩:=h;⟨as,sm _ _ h1,Ad sm h2⟩
structure KH (w k N:Nat)(steps:List (List Int))(fs:List Rx.Fd)(os:List Ot)(goal W:List Int)(s:Int):Prop where
 len:W.length=w
 s1:1<=s
 sN:s<2^N
 AC:Rx.In s W
 ch:∀i,i<fs.length->s∣Rx.dot (steps.getD (Rx.nm fs i) []) W
 ot:∀o∈os,s∣Rx.dot (steps.getD o.1 []) W
 go:¬s∣Rx.dot goal W
 k0:0<fs.length
inductive UJ (C:Addr)(vs:List V)(H:Hp)(Q:VK)(E_:XK):Prop
 | mk (r s x gm gt:Addr)(os:List Ot)(steps:List (List Int))(fs:List Rx.Fd)(us:List (List Int))(goal ow:List Int)(gb p:Int)(w N D Cc G B:Nat)(_:vs=[.ref r,.ref s,.ref x,.ref gm])(_:EB H r os)(_:k9 H s steps)(_:wf C H x p w steps fs us)(_:Kq p w N steps fs us)(_:Rx.xp p w steps fs us D Cc)(_:Nb p fs.length D Cc G B N)(_:D<=G)(_:∀y∈steps,y.length=w/\Bd N y)(_:w<=420)(_:1000<=p)(_:steps.length<=20000)(_:fs.length+os.length<=420)(_:H gm=some (.tup [.ref gt,.int gb]))(_:H gt=some (.lst (ow.map V.int)))(_:goal.length=w)(_:Rx.Ip steps fs D N (Rx.fn goal) ow gb)(_:∀o∈os,o.1<steps.length/\Rx.Ip steps fs D N (Rx.st steps o.1) o.2.1 o.2.2)(_:(os.map (fun o=>o.1)++Rx.numsOf fs).Nodup)(_:∀t wt H' W s,jM H H'->H' t=some (.tup [.str "bar",.ref wt,.int s])->H' wt=some (.lst (W.map V.int))->KH w fs.length N steps fs os goal W s->Q (.ref t) H')(_:∀t ct H' kS,jM H H'->H' t=some (.tup [.str "way",.ref ct])->H' ct=some (.lst (kS.map V.int))->kS.length=steps.length->Bd 40000 kS->(∀i:Nat,i<fs.length->(Ld.S steps.length fun j=>Rx.st steps j.toNat (Rx.cl fs i)*Lt.g kS j.toNat)=Lt.g goal (Rx.cl fs i))->Q (.ref t) H')
theorem v8 (T:Txt K mg CF tL tF tM):Df P w K mg base 9 "sought_with" ["others","steps","frame","goal_made"] (UJ CF):=by
 refine kN T.d_sought_with vL fun f cdv A outer s H vs Q E hr nd h=>?_;obtain⟨r,s',x,gm,gt,os,steps,fs,us,goal,ow,gb,p,w',N,D,Cc,G,B,rfl,⟨as,h1,pa⟩,hS,fa,fo,fm,nb,DG,lw,w4,w5,sz,k4,QM,Se,Sf,zZ,mo,QN,qb,qw⟩:=h;obtain⟨ZN,QO,spa⟩:=id hS;have Nj:=jY spa;have la:=jY pa;have N1:=nb.N1;have N2:=nb.N2;have GN:=nb.GN;have D1:=fm.D1;have eN:=nT N;obtain⟨k,hk⟩:∃k,k=fs.length:=⟨_,Z⟩;have gi0:lY [V.ref gt,V.int gb] 0=some (.ref gt):=Z;have gi1:lY [V.ref gt,V.int gb] 1=some (.int gb):=Z;have ZO:∀M:Int,M∣(D:Int)->M<2^N:=fun M h=>by have:=aT J h;lia
 refine⟨_,(jE (j8 4 nd (j9 jZ (pv 3) jH)) (jE (kR aI Z (ki (pv 0)) (me Z (j6 (lG 5 nd) (j6 (lG 6 nd) lC))) (jJ (j8 4 nd (j7 (FQ T) hr (ke (pv 4) (j9 jZ (pv 6) jH)))))) (jE (sM 7 [("modulus",4)] ["number","made"] nd (ki (pv 0)) (fun C s H fp=>⟨(tH 1 2),kd,(j7 (qU T) hr (ke (pv 2) (pv 0)))⟩)) (jE (j8 8 nd (j7 (qU T) hr (ke (pv 3) (pv 4)))) (jE (j8 9 nd (j7 (Ai T) hr (jF (pv 7) (jF (nI T.b_len (pv 8)) (jF (pv 4) j5))))) (jE (j8 10 nd (jR sF (pv 8) (jR oS (lD (kD jH)) (nI T.b_len (pv 7))))) (jE (kR aI Z (oy jC T.b_enumerate (kD (pv 9))) (me Z (j6 (lG 11 nd) (j6 (lG 12 nd) lC))) (jE (kP (k7 n8 (jR ky (j9 kC (pv 10) (pv 11)) (j9 kC (pv 12) (pv 11))) jH) (jJ (jT (j7 (yS T) hr (ke (pv 2) (j7 (BY T) hr (jF (pv 9) (jF (pv 11) (jF (pv 4) j5)))))))) kh) (jJ (j8 10 nd (j7 (rB T) hr (jF (pv 10) (jF (jR kq (j9 kC (pv 10) (pv 11)) (j9 kC (pv 12) (pv 11))) (jF (pv 12) (jF (pv 4) j5))))))))) (jE (sM 13 [("modulus",4)] ["many"] nd (ki (tf vp (pv 10) (rX (nI T.b_len (pv 8))) C6)) (fun C s H fp=>⟨(nB 1),kd,(j7 (wA T) hr (ke (rq oO (pv 1)) (pv 0)))⟩)) (jE (j8 14 nd (j7 (xV T) hr (jF (jR sF (lD (kD (pv 8))) (pv 7)) (jF (jR sF (lD (kD jH)) (m5 [] ["many"] (ki (pv 13)) (fun C s H fp=>⟨(nB 0),kd,(rq oO (pv 0))⟩))) (jF (nI T.b_len (pv 8)) j5))))) (jE (j8 15 nd (jR sF (pv 13) (m5 [("modulus",4)] ["many"] (ki (pv 14)) (fun C s H fp=>⟨(nB 1),kd,(jR kq (pv 1) (pv 0))⟩)))) (jJ (jT (lI (ke oa (j7 (xY T) hr (jF (nI T.b_len (pv 1)) (jF (jR sF (m5 [] ["number","made"] (ki (pv 0)) (fun C s H fp=>⟨(tH 0 1),kd,(pv 0)⟩)) (mw (pv 2) Z)) (jF (pv 15) j5)))))))))))))))))),?_⟩;refine⟨_,Z,gm,_,_,_,Z,Z,kJ.of QM,gi1,?_⟩;refine⟨_,Z,r,Z,⟨_,jV.of h1⟩,mB (K:=K) (xs:=as.map V.ref) (fun i σ H2=>H2=H/\∃(M:Int)(o1 o2:Option V),σ=[some (.ref r),some (.ref s'),some (.ref x),some (.ref gm),some (.int M),o1,o2,none,none,none,none,none,none,none,none,none]/\1<=M/\gb∣M/\M∣(D:Int)/\∀j o,j<i->os[j]?=some o->o.2.2∣M) ⟨Z,gb,none,none,Z,zZ.b1,cT _,zZ.bD,fun j o hj=>absurd hj (bE _)⟩ (fun i σ H2 _ z=>by rw[z.1];exact jV.of h1) ?_ ?_⟩
 .rintro i y σ H2 hy ⟨rfl,M,o1,o2,rfl,M1,gM,MD,al⟩;obtain⟨a,rfl,ha⟩:=oh hy;obtain⟨o,ho,t,tt,Kb,ht,qj⟩:=kQ pa ha;have m:=(mo o (ah ho)).2;have i1:lY [V.ref tt,V.int o.2.2] 1=some (.int o.2.2):=Z;refine⟨a,_,Z,kJ.of Kb,Z,_,_,Z,_,_,Z,Z,?_⟩;refine⟨_,Z,_,Z,t,_,_,_,Z,Z,kJ.of ht,i1,M,o.2.2,N,Z,M1,m.b1,ZO M MD,m.bN,N2,fun j j1 d1 d2 alD=>?_⟩;refine⟨Z,j,_,_,Z,j1,bB gM d1,alD _ MD m.bD,fun j' o' RU HP=>?_⟩;rcases Nat.lt_succ_iff_lt_or_eq.mp RU with e | e
  .exact bB (al j' o' e HP) d1
  .rw[e,ho] at HP;cases HP;exact d2
 rintro σ H2 ⟨rfl,M,o1,o2,rfl,M1,gM,MD,al⟩;have MN:=ZO M MD;rw[aa,la] at al;have ZP:∀o∈os,o.2.2∣M:=fun o ho=>by
  obtain⟨j,hj⟩:=List.getElem?_of_mem ho;exact al j o (aF.mp hj).1 hj
 -- rows
 obtain⟨rows,yq⟩:∃rows:List (List Int),rows=os.map fun o=>Rx.wh o.2.1 (M/o.2.2):=⟨_,Z⟩;have yr:rows.length=os.length:=by rw[yq,aa]
 refine⟨_,Z,r,Z,⟨_,jV.of h1⟩,?_⟩;refine oT (K:=K) (xs:=as.map V.ref) rows (by rw[yr,aa,la]) zfM (jV.of h1) ?_ ?_
 .intro i y H3 hy kT R kk;obtain⟨a,rfl,ha⟩:=oh hy;obtain⟨o,ho,t,tt,Kb,ht,qj⟩:=kQ pa ha;have m:=(mo o (ah ho)).2;refine⟨a,_,Z,kJ.of (kT _ _ Kb),Z,_,_,Z,_,_,Z,Z,?_⟩;exact⟨_,Z,_,Z,t,tt,o.2.1,o.2.2,M,N,Z,kT _ _ ht,kT _ _ qj,by rw[m.len];lia,m.b1,m.bN,J,MN,m.bd,N2,fun u H4 lZ h4=>kk H4 u _ lZ (by rw[yq,af,ho];rfl) h4⟩
 intro ro H3 kT _ E5
 -- goal
 obtain⟨gw,QP⟩:∃gw:List Int,gw=Rx.wh ow (M/gb):=⟨_,Z⟩;have KZ:gw.length=k:=by rw[QP,Rx.zG,zZ.len,hk]
 refine⟨_,Z,_,Z,gm,gt,ow,gb,M,N,Z,kT _ _ QM,kT _ _ Se,by rw[zZ.len];lia,zZ.b1,zZ.bN,J,MN,zZ.bd,N2,fun gl H4 lZ M6=>?_⟩;rw[<-QP] at M6;have Ib:=kT.trans lZ;have ZQ:∀row∈rows,row.length=k:=fun row h=>by
  rw[yq] at h;obtain⟨o,ho,rfl⟩:=List.mem_map.mp h;rw[Rx.zG,((mo o ho).2).len,hk]
 have XS:∀b:Int,1<=b->0<=M/b/\M/b<=M:=fun b b1=>⟨cG J J,b8 b J⟩;have ZR:∀(tops:List Int)(b:Int),1<=b->(∀y∈tops,y.natAbs<2^N)->Bd (2*N) (Rx.wh tops (M/b)):=fun tops b b1 bt y hy=>by
  unfold Rx.wh at hy;obtain⟨z,hz,rfl⟩:=List.mem_map.mp hy;have a:=bt z hz;have q:=XS b b1;rw[aM,show 2*N=N+N by lia,gK];have n2:(M/b).natAbs<2^N:=J;have:=cI (d5 a) (show (M/b).natAbs<=2^N by lia);rcases Nat.eq_zero_or_pos (M/b).natAbs with c | c
  .rw[c,Nat.mul_zero];exact fK (e8 O) (e8 O)
  .exact bj (Nat.mul_lt_mul_of_pos_right a c) (dO _ J)
 have XT:Bd (2*N) gw:=by rw[QP];exact ZR _ _ zZ.b1 zZ.bd
 have ZS:∀row∈rows,row.length=k/\Bd (2*N) row:=fun row h=>⟨ZQ row h,by
  rw[yq] at h;obtain⟨o,ho,rfl⟩:=List.mem_map.mp h;exact ZR _ _ ((mo o ho).2).b1 ((mo o ho).2).bd⟩
 refine⟨_,Z,_,Z,gl,_,Z,.inl (jV.of M6),_,Z,ro,rows,k,os.length,N,M,(by rw[aa,KZ];rfl),E5.same lZ,yr,ZQ,J,M1,MN,J,N2,fun tl H5 ls mJ QG zfL=>?_⟩;have Ic:=Ib.trans mJ;have QQ:=mJ _ _ M6;obtain⟨QR,HX,HY⟩:=(E5.same lZ).same mJ;have QS:=jY HY;have ZT:=zfL.len
 -- left
 refine⟨_,Z,jL,fun lo wX=>⟨_,Z,ro,_,Z,.inl (jV.of (jK (jM.refl _) wX _ _ HX)),?_⟩⟩;rw[aa,QS,yr];refine⟨lo,_,_,Z,Z,jG,J,J,zfO,fun pz hpz=>?_⟩;rw[rep0];have qZ:=jK (o:=.lst ((List.replicate os.length (0:Int)).map V.int)) (jK (o:=.lst [V.int 0]) (jM.refl H5) wX) hpz;have QT:upd (upd H5 lo (.lst [V.int 0])) pz (.lst ((List.replicate os.length (0:Int)).map V.int)) pz=some (.lst ((List.replicate os.length (0:Int)).map V.int)):=jG;generalize upd (upd H5 lo (.lst [V.int 0])) pz (.lst ((List.replicate os.length (0:Int)).map V.int))=H6 at qZ QT ⊢;refine⟨gl,pz,_,_,Z,Z,qZ _ _ QQ,QT,by rw[aa,aa,aR,KZ];exact mW J,fun lf hlf=>?_⟩;have yp:=jK (o:=.lst (gw.map V.int++(List.replicate os.length (0:Int)).map V.int)) (jM.refl H6) hlf;have QU:upd H6 lf (.lst (gw.map V.int++(List.replicate os.length (0:Int)).map V.int)) lf=some (.lst ((gw++List.replicate os.length 0).map V.int)):=by rw[jG,aQ]
 generalize upd H6 lf (.lst (gw.map V.int++(List.replicate os.length (0:Int)).map V.int))=H7 at yp QU ⊢;have QV:=(Ic.trans qZ).trans yp;have QW:=(QG.same qZ).same yp;obtain⟨las,E6,J0⟩:=id QW;have XU:=jY J0;have b0:Bd (2*N) (gw++List.replicate os.length 0):=fun y hy=>by
  rcases List.mem_append.mp hy with c | c
  .exact XT y c
  .rw[(eL.mp c).2];exact e8 O
 refine⟨_,Z,tl,Z,⟨_,jV.of E6⟩,oK (K:=K) (xs:=las.map V.ref) (fun c σ H8=>jM H7 H8/\∃(lt:Addr)(left:List Int)(o3 o4:Option V),σ=[some (.ref r),some (.ref s'),some (.ref x),some (.ref gm),some (.int M),o1,o2,some (.ref ro),some (.ref gl),some (.ref tl),some (.ref lt),o3,o4,none,none,none]/\H8 lt=some (.lst (left.map V.int))/\Rx.Gl M k os.length rows gw ls c left/\Bd (2*N) left) ⟨jM.refl _,lf,_,none,none,Z,QU,.start KZ ls,b0⟩ (fun i σ H8 _ z=>z.1.seq (jV.of E6)) ?_ ?_⟩
 .rintro c y σ H8 pp hx ⟨Aa,lt,left,o3,o4,rfl,pB,K2,lb⟩ zR;obtain⟨a,l,rfl,ha,px,hh⟩:=mv J0 hx;have cl:c<k:=by rw[<-ZT];exact(aF.mp px).1
  have t:=zfL.Cs.at px;rw[dR] at t;have N0:=A5 MN (zfL.up l (ah px));have pJ:=jK (o:=.tup [.int (c:Nat),.ref a]) (jM.refl H8) zR;have QX:=Aa.trans pJ;have Nl:=pJ _ _ pB;have XV:=QX _ _ hh;have Si:left.length=k+os.length:=K2.len;have cg:lY (left.map V.int) (c:Int)=some (.int (Lt.g left c)):=lU zfN;have M9:lY (l.map V.int) (c:Int)=some (.int (Lt.g l c)):=lU (by rw[af,Rx.lL (by rw[t.1];lia)];rfl);have l1:=t.2.2.1;have lN:=N0 _ (Rx.nV (l:=l) (i:=c) (by rw[t.1];lia));refine⟨pp,_,Z,kJ.of jG,Z,_,_,Z,_,_,Z,Z,?_⟩;refine⟨_,Z,_,Z,lt,_,_,_,Z,Z,jV.of Nl,cg,_,Z,_,Z,a,_,_,_,Z,Z,jV.of XV,M9,_,_,Z,Z,(show 0<Lt.g l c by lia),Z,_,Z,mM (fun cc=>?_) (fun cc=>?_)⟩
  .have nz:=MA cc;have K3:=(QV.trans Aa).trans pJ;refine⟨_,Z,_,Z,_,Z,_,Z,tl,rows,ls,k,os.length,os.length,c,N,M,Z,(QW.same Aa).same pJ,zfL,cl,J,M1,MN,J,N2,fun ta H9 am vf _ QY lam uam bar=>?_⟩;have ZU:=K3.trans vf;have XW:∀j,j<fs.length->(Lt.g am j).natAbs<=G:=fun j hj=>by
    have:=uam _ (Rx.nV (l:=am) (i:=j) J);have:=aT J MD;lia
   refine⟨x,ta,steps,fs,us,am,p,w',N,D,Cc,G,B,Z,fa.same ZU,fo,fm,nb,lw,w4,w5,QY,by rw[lam,hk],XW,fun t wt zS tops b sX XX Sj lt10 b1 bN sol=>?_⟩;refine qb t wt zS _ b (ZU.trans sX) XX Sj ?_;have kill:Lt.Ei M k (Rx.fn am) ls:=fun l' hl'=>by
    obtain⟨j,hj⟩:=List.getElem?_of_mem hl';exact bar.kl j l' (dH _) hj
   have main:∀(v:List Int)(T:List Int),v.length=w'->T.length=k->(∀i:Nat,i<k->(Ld.S k fun j=>Rx.st steps (Rx.nm fs j.toNat) (Rx.cl fs i)*Rx.fn T j)=M*Rx.fn v (Rx.cl fs i))->(b∣Rx.dot v ((Rx.uk w' (Rx.kf fs) tops).map fun y=>y%b)↔M∣Lt.dt k T (Rx.fn am)):=fun v T lv lT hT=>by
    have d1:=Rx.Js (s:=b) lv (Rx.nX w' (Rx.kf fs) tops);rw[Rx.Ds fm.hp fo.crn lv lt10] at d1;refine(Lt.nS d1).trans ?_;have e:=Rx.LA (k:=k) (U:=fun i t=>Rx.st steps (Rx.nm fs i) (Rx.cl fs t)) (x:=Rx.fn tops) (am:=Rx.fn am) (T:=Rx.fn T) (v:=fun t=>Rx.fn v (Rx.cl fs t.toNat)) (s:=b) (M:=M) (fun i hi=>by
     have:=sol i J;rw[<-hk] at this;unfold Rx.fn at this ⊢;rw[ae];exact this) (fun t ht=>(by rw[ae];exact hT t ht))
    rw[<-hk];refine(Rx.JN b1 M1 e).trans ?_;unfold Lt.dt Rx.fn;exact Iff.rfl
   refine⟨by rw[aa,Rx.nX],b1,bN,Rx.In.mod J _ fun y=>y,fun i hi=>?_,fun o ho=>?_,fun dg=>?_,?_⟩
   .have nn:=fo.crn.se hi;have lv:=(lw _ (Rx.lh (rows:=steps) nn)).1;refine(main _ (Rx.tJ k i M) lv (Rx.oz ..) fun c' wT=>?_).mpr ?_
    .have:(Ld.S k fun j=>Rx.st steps (Rx.nm fs j.toNat) (Rx.cl fs c')*Rx.fn (Rx.tJ k i M) j)=Ld.S k fun j=>M*Rx.st steps (Rx.nm fs j.toNat) (Rx.cl fs c')*if j=(i:Int) then 1 else 0:=Ld.jO fun j hj=>by
      unfold Rx.fn;rw[ae,Rx.pf J]
      by_cases z:j=i
      .rw[aC z,aC J];grind
      .rw[ak z,ak J];grind
     rw[this,Mx.lX (F:=fun j=>M*Rx.st steps (Rx.nm fs j.toNat) (Rx.cl fs c')) J,ae];rfl
    .unfold Lt.dt;refine Mx.uP fun j hj=>?_;rw[ae,Rx.pf J];split
     .exact cY ..
     .rw[aY];exact bi _
   .have m:=mo o ho;have lv:=(lw _ (Rx.lh (rows:=steps) m.1)).1;refine(main _ (Rx.wh o.2.1 (M/o.2.2)) lv (by rw[Rx.zG,m.2.len,hk]) fun c' wT=>?_).mpr ?_
    .rw[hk];refine Rx.DM (U:=fun j t=>Rx.st steps (Rx.nm fs j) (Rx.cl fs t)) m.2.len m.2.b1 (ZP o ho) ?_;rw[m.2.eq c' J];rfl
    .obtain⟨j,hj⟩:=List.getElem?_of_mem ho;have:=zfL.kill _ kill j (aF.mp hj).1;rwa [Rx.tq (row:=Rx.wh o.2.1 (M/o.2.2)) (by rw[yq,af,hj];rfl)] at this
   .have d2:=(main goal gw Sf KZ fun c' wT=>by
     rw[QP,hk];refine Rx.DM (U:=fun j t=>Rx.st steps (Rx.nm fs j) (Rx.cl fs t)) zZ.len zZ.b1 gM ?_;exact zZ.eq c' J).mp dg
    have d3:=K2.dd _ kill;refine bar.not M1 zfL.Cs cl px K2.zero (fun z=>nz ?_) ((Lt.nS d3).mpr d2);exact bP z
   .lia
  .have ze:=FJ cc;have dv:Lt.g l c∣Lt.g left c:=bO ze;have lcb:=lb _ (Rx.nV (l:=left) (i:=c) J);have Xq:(Lt.g left c/Lt.g l c).natAbs<2^(2*N):=by
    have e:=f7 dv;have n:(Lt.g left c/Lt.g l c).natAbs*(Lt.g l c).natAbs=(Lt.g left c).natAbs:=by rw[<-aM,e]
    have:=dO (Lt.g left c/Lt.g l c).natAbs (show 1<=(Lt.g l c).natAbs by lia);lia
   refine⟨_,Z,_,Z,_,Z,lt,_,_,_,Z,Z,jV.of Nl,cg,_,Z,_,Z,a,_,_,_,Z,Z,jV.of XV,M9,_,_,Z,Z,sW J lN N2,_,Z,_,Z,lt,a,left,l,_,M,2*N,N,Z,Nl,XV,by rw[Si,t.1],J,J,Xq,N0,J,J,fun t9 H9 vf h9=>?_⟩;refine⟨QX.trans vf,t9,_,_,_,Z,h9,K2.step M1 zfL px dv,?_⟩;have M2:M<2^(2*N):=by
    have:=bS (n:=2) O (show N<=2*N by lia);have e2:=nT (2*N);lia
   exact Gx J M2 lb
 rintro σ H8 ⟨Aa,lt,left,o3,o4,rfl,pB,K2,lb⟩;rw[aa,XU,ZT] at K2;have XY:=QV.trans Aa;have QZ:=Aa _ _ (yp _ _ (qZ _ _ QQ));have Si:left.length=k+os.length:=K2.len
 -- taken
 refine⟨_,Z,_,Z,gl,_,Z,.inl (jV.of QZ),_,Z,lt,_,Z,jV.of pB,fun cu hcu=>?_⟩;rw[aa,KZ,A7];have vf:=jK (o:=.lst ((left.drop k).map V.int)) (jM.refl H8) hcu;have Nm:upd H8 cu (.lst ((left.drop k).map V.int)) cu=some (.lst ((left.drop k).map V.int)):=jG;generalize upd H8 cu (.lst ((left.drop k).map V.int))=H9 at vf Nm ⊢;obtain⟨tk,htk⟩:∃tk:List Int,tk=(left.drop k).map fun y=>Rx.cn (-y) M:=⟨_,Z⟩;have K4:tk.length=os.length:=by rw[htk,aa,cC,Si];lia
 have ZV:Bd N tk:=fun y hy=>by
  rw[htk] at hy;obtain⟨z,_,rfl⟩:=List.mem_map.mp hy;have:=Rx.Px (n:=-z) (show 0<M by lia);lia
 refine⟨cu,Z,⟨_,jV.of Nm⟩,?_⟩;refine lB (K:=K) (xs:=(left.drop k).map V.int) tk (by rw[K4,aa,cC,Si];lia) (by rw[aa,cC];lia) (jV.of Nm) ?_ ?_
 .intro i y zS hy sX R kk;obtain⟨u,rfl,hu⟩:=int_at hy;exact⟨_,Z,_,Z,_,Z,-u,M,Z,J,kk _ _ (jM.refl _) (by rw[htk,af,hu];rfl)⟩
 intro ZW zS sX _ Nn;have Q0:=(XY.trans vf).trans sX;have K5:=sX _ _ (vf _ _ QZ);have XZ:=sX _ _ (vf _ _ (Aa _ _ (yp _ _ (qZ _ _ HX))));have Q1:=kL ((((qZ.trans yp).trans Aa).trans vf).trans sX) HY
 -- pA
 refine⟨_,Z,jL,fun l1 Q3=>⟨_,Z,l1,ro,_,_,Z,Z,jG,jK (jM.refl _) Q3 _ _ XZ,by rw[aa,QS,yr];exact mW (by show 1+_<=_;lia),fun l2 X0=>?_⟩⟩;have qk:=jK (o:=.lst ([V.ref gl]++QR.map V.ref)) (jK (o:=.lst [V.ref gl]) (jM.refl zS) Q3) X0;have K6:upd (upd zS l1 (.lst [V.ref gl])) l2 (.lst ([V.ref gl]++QR.map V.ref)) l2=some (.lst ((gl::QR).map V.ref)):=jG;generalize upd (upd zS l1 (.lst [V.ref gl])) l2 (.lst ([V.ref gl]++QR.map V.ref))=NX at qk K6 ⊢;refine⟨jL,fun l3 Q4=>⟨_,Z,ZW,Z,⟨_,jV.of (jK (jM.refl _) Q4 _ _ (qk _ _ Nn))⟩,?_⟩⟩;have mC:=jK (o:=.lst [V.int 1]) (jM.refl NX) Q4;have K7:upd NX l3 (.lst [V.int 1]) l3=some (.lst [V.int 1]):=jG;generalize upd NX l3 (.lst [V.int 1])=R7 at mC K7 ⊢;refine lB (K:=K) (xs:=tk.map V.int) (tk.map fun y=>-y) zfP zfM (jV.of (mC _ _ (qk _ _ Nn))) ?_ ?_
 .intro i y N3 hy w6 R kk;obtain⟨u,rfl,hu⟩:=int_at hy;exact⟨_,Z,_,Z,kk _ _ (jM.refl _) (by rw[af,hu];rfl)⟩
 intro ng N3 w6 _ hng;refine⟨l3,ng,_,_,Z,Z,w6 _ _ K7,hng,by rw[aa,aa,K4];exact mW (by show 1+_<=_;lia),fun l4 X1=>?_⟩;have No:=jK (o:=.lst ([V.int 1]++(tk.map fun y=>-y).map V.int)) (jM.refl N3) X1;have K8:upd N3 l4 (.lst ([V.int 1]++(tk.map fun y=>-y).map V.int)) l4=some (.lst ((1::tk.map fun y=>-y).map V.int)):=jG;generalize upd N3 l4 (.lst ([V.int 1]++(tk.map fun y=>-y).map V.int))=H14 at No K8 ⊢;have w9:=((qk.trans mC).trans w6).trans No;have X2:k9 H14 l2 (gw::rows):=⟨gl::QR,No _ _ (w6 _ _ (mC _ _ K6)),.cons (w9 _ _ K5) (kL w9 Q1)⟩;have bc:Bd (N+1) (1::tk.map fun y=>-y):=fun y hy=>by
  rcases List.mem_cons.mp hy with e | e
  .rw[e];exact Nat.one_lt_two_pow J
  .obtain⟨z,hz,rfl⟩:=List.mem_map.mp e;have:=ZV z hz;rw[gJ,dE];lia
 refine⟨_,Z,gl,_,Z,.inl (jV.of (w9 _ _ K5)),l2,l4,gw::rows,1::tk.map (fun y=>-y),k,os.length+1,2*N,N+1,(by rw[aa,KZ];rfl),X2,K8,by rw[bw,yr],by rw[bw,aa,K4],fun y hy=>?_,bc,J,J,J,J,fun sp H15 pA Q5 hsp ZX eqs=>?_⟩
 .rcases List.mem_cons.mp hy with e | e
  .rw[e];exact⟨KZ,XT⟩
  .exact ZS y e
 have Q6:∀c:Nat,c<k->Lt.g pA c=Lt.g gw c-Ld.S os.length fun j=>Rx.fn tk j*Rx.si rows j.toNat c:=fun c hc=>by rw[eqs c hc,Rx.sum_cons K4]
 have ZY:∀c:Nat,c<k->M∣Lt.g pA c:=fun c hc=>by
  rw[Q6 c hc];have:=K2.end M1 (tk:=fun j=>Rx.fn tk j) (fun j hj=>by
   unfold Rx.fn
   try dsimp only
   rw[ae];have e:Lt.g tk j=Rx.cn (-(Lt.g left (k+j))) M:=by
    rw[htk,Rx.qP (by rw[cC];lia),Rx.B8]
   rw[e];have:=Rx.Lr (-(Lt.g left (k+j))) M;rwa [Int.sub_neg] at this) c hc
  have e2:(Ld.S os.length fun j=>Rx.fn tk (j.toNat:Int)*Rx.si rows j.toNat c)=Ld.S os.length fun j=>Rx.fn tk j*Rx.si rows j.toNat c:=Ld.jO fun j _=>by rw[ae]
  rw[e2] at this;exact this
 have spb:Bd (3*N+12) pA:=fun y hy=>by
  obtain⟨c,hc,rfl⟩:=Rx.sw hy;rw[eqs c J];have b:=Sg.xA (m:=os.length+1) (F:=fun j=>Lt.g (1::tk.map fun y=>-y) j.toNat*Lt.g ((gw::rows).getD j.toNat []) c) (B:=2^(N+1)*2^(2*N)) fun j hj=>by
   show (Lt.g (1::tk.map fun y=>-y) (j:Int).toNat*Lt.g ((gw::rows).getD (j:Int).toNat []) c).natAbs<=_
   rw[ae,aM];refine cI (d5 (bc _ (Rx.nV (by rw[bw,aa,K4];lia)))) ?_;have rm:(gw::rows).getD j []∈gw::rows:=Rx.lh (by rw[bw,yr];lia);have rl:((gw::rows).getD j []).length=k/\Bd (2*N) ((gw::rows).getD j []):=by
    rcases List.mem_cons.mp rm with e | e
    .rw[e];exact⟨KZ,XT⟩
    .exact ZS _ e
   exact d5 (rl.2 _ (Rx.nV J))
  have e3:2^(3*N+12)=2048*(2^(N+1)*2^(2*N)):=by rw[<-gK,show 3*N+12=11+(N+1+2*N) by lia,gK]
  have p3:0<2^(N+1)*2^(2*N):=fK (e8 O) (e8 O);generalize 2^(N+1)*2^(2*N)=zfI at b e3 p3;have:(os.length+1)*zfI<=421*zfI:=cS _ J;rw[e3];lia
 -- counts
 obtain⟨sq,Sk⟩:∃sq:List Int,sq=pA.map fun y=>y/M:=⟨_,Z⟩;have Sl:sq.length=k:=by rw[Sk,aa,ZX]
 have Q7:=Q5 _ _ (w9 _ _ Nn);refine⟨_,Z,_,Z,sp,Z,⟨_,jV.of hsp⟩,?_⟩;refine lB (K:=K) (xs:=pA.map V.int) sq (by rw[Sl,aa,ZX]) zfM (jV.of hsp) ?_ ?_
 .intro i y Sm hy Np R kk;obtain⟨u,rfl,hu⟩:=int_at hy;exact⟨_,Z,_,Z,_,_,Z,Z,sW J (show M.natAbs<2^N by lia) N2,kk _ _ (jM.refl _) (by rw[Sk,af,hu];rfl)⟩
 intro sqa Sm Np _ X3;refine⟨ZW,sqa,_,_,Z,Z,Np _ _ Q7,X3,by rw[aa,aa,K4,Sl];exact mW J,fun ca RX=>?_⟩;have Q8:=jK (o:=.lst (tk.map V.int++sq.map V.int)) (jM.refl Sm) RX;have K9:upd Sm ca (.lst (tk.map V.int++sq.map V.int)) ca=some (.lst ((tk++sq).map V.int)):=by rw[jG,aQ]
 generalize upd Sm ca (.lst (tk.map V.int++sq.map V.int))=H17 at Q8 K9 ⊢;have Be:=(((Q0.trans w9).trans Q5).trans Np).trans Q8
 -- the way
 obtain⟨dx,ff,ch,co,ro',un,hx,hf,zX,_⟩:=(fa.same Be).ex;have Q9:=Be _ _ h1;refine⟨_,Z,s',_,Z,.inl (jV.of (Be _ _ QO)),_,Z,r,Z,⟨_,jV.of Q9⟩,?_⟩;refine lB (K:=K) (xs:=as.map V.ref) (ni (os.map fun o=>o.1)) (by rw[aa,aa,aa,la]) zfM (jV.of Q9) ?_ ?_
 .intro i y Sn hy EX R kk;obtain⟨a,rfl,ha⟩:=oh hy;obtain⟨o,ho,t,tt,Kb,ht,qj⟩:=kQ pa ha;exact⟨a,_,Z,kJ.of (EX _ _ (Be _ _ Kb)),Z,_,_,Z,_,_,Z,Z,_,Z,kk _ _ (jM.refl _) (by rw[af,af,ho];rfl)⟩
 intro na Sn EX _ hna;refine⟨_,Z,x,CF,dx,_,_,Z,EX _ _ hx,T.cl_Frame,T.na_chosen,ye _ _ _ _ _ _ _ _,na,ch,_,_,Z,Z,hna,EX _ _ zX,by rw[aa,aa,aa,aa,aa];unfold Rx.numsOf;rw[List.length_map];exact mW J,fun So X4=>?_⟩;have Nq:=jK (o:=.lst ((ni (os.map fun o=>o.1)).map V.int++(ni (Rx.numsOf fs)).map V.int)) (jM.refl Sn) X4;have Lc:upd Sn So (.lst ((ni (os.map fun o=>o.1)).map V.int++(ni (Rx.numsOf fs)).map V.int)) So=some (.lst ((ni (os.map (fun o=>o.1)++Rx.numsOf fs)).map V.int)):=by rw[jG];simp only[ni,List.map_append]
 generalize upd Sn So (.lst ((ni (os.map fun o=>o.1)).map V.int++(ni (Rx.numsOf fs)).map V.int))=H19 at Nq Lc ⊢;have J9:(Rx.numsOf fs).length=k:=by unfold Rx.numsOf;rw[List.length_map,hk]
 have ZZ:∀n∈os.map (fun o=>o.1)++Rx.numsOf fs,n<steps.length:=fun n hn=>by
  rcases List.mem_append.mp hn with c | c
  .obtain⟨o,ho,rfl⟩:=List.mem_map.mp c;exact(mo o ho).1
  .exact Rx.vm fo.crn n c
 refine⟨_,Z,steps.length,So,ca,os.map (fun o=>o.1)++Rx.numsOf fs,tk++sq,(by rw[aa,Nj];rfl),Lc,Nq _ _ (EX _ _ K9),by rw[aJ,aJ,aa,K4,Sl,J9],ZZ,sz,fun cn H20 X5 _ hcn=>?_⟩;refine⟨jI,fun tw Z0=>?_⟩;refine qw tw cn _ _ (jK (((Be.trans EX).trans Nq).trans X5) Z0) jG (jK (jM.refl _) Z0 _ _ hcn) (Rx.nX ..) (fun y hy=>?_) fun i hi=>?_
 .rcases Rx.C7 hy with e | e
  .rw[e];exact e8 O
  .rcases List.mem_append.mp e with c | c
   .exact qC ZV J y c
   .rw[Sk] at c;obtain⟨z,hz,rfl⟩:=List.mem_map.mp c;obtain⟨j,hj,rfl⟩:=Rx.sw hz;have e:=f7 (ZY j J);have n:(Lt.g pA j/M).natAbs*M.natAbs=(Lt.g pA j).natAbs:=by rw[<-aM,e]
    have:=dO (Lt.g pA j/M).natAbs (show 1<=M.natAbs by lia);have b:=spb _ hz;exact bj (show (Lt.g pA j/M).natAbs<2^(3*N+12) by lia) (bS O J)
 .have e:=Rx.Pd (n:=steps.length) (F:=fun j=>Rx.st steps j.toNat (Rx.cl fs i)) (os:=os.map fun o=>o.1) (cs:=Rx.numsOf fs) (by rw[aa]) J9 K4 Sl QN ZZ;rw[e];have we:=Rx.Ms (k:=k) (r:=os.length) (U:=fun j t=>Rx.st steps (Rx.nm fs j) (Rx.cl fs t)) (M:=M) (gv:=Rx.fn goal (Rx.cl fs i)) (t:=i) (goalw:=Rx.fn gw) (R:=Rx.si rows) (sv:=fun j=>Rx.st steps ((os.map fun o=>o.1).getD j 0) (Rx.cl fs i)) (tk:=Rx.fn tk) (sp:=Rx.fn sq) M1 (by
    rw[QP,hk];exact Rx.DM (U:=fun j t=>Rx.st steps (Rx.nm fs j) (Rx.cl fs t)) zZ.len zZ.b1 gM (zZ.eq i hi)) (fun j hj=>by
    obtain⟨o,ho⟩:∃o,os[j]?=some o:=⟨_,List.getElem?_eq_getElem hj⟩;have m:=mo o (ah ho);have er:rows.getD j []=Rx.wh o.2.1 (M/o.2.2):=Rx.tq (by rw[yq,af,ho];rfl);have en:(os.map fun o=>o.1).getD j 0=o.1:=by rw[ao,af,ho];rfl
    have a:(Ld.S k fun i'=>Rx.st steps (Rx.nm fs i'.toNat) (Rx.cl fs i)*Rx.si rows j i')=Ld.S k fun i'=>Rx.st steps (Rx.nm fs i'.toNat) (Rx.cl fs i)*Rx.fn (Rx.wh o.2.1 (M/o.2.2)) i':=Ld.jO fun i' _=>by
     unfold Rx.si Rx.fn;rw[er]
    try dsimp only
    rw[a,en,hk];exact Rx.DM (U:=fun j t=>Rx.st steps (Rx.nm fs j) (Rx.cl fs t)) m.2.len m.2.b1 (ZP o (ah ho)) (m.2.eq i hi)) (fun c hc=>by
    have e1:Rx.fn sq c=Lt.g pA c/M:=by
     unfold Rx.fn;rw[ae,Sk,Rx.qP J]
    have e2:Rx.fn gw c=Lt.g gw c:=by unfold Rx.fn;rw[Int.toNat_natCast]
    rw[e1,e2,cR (ZY c hc),Q6 c hc])
  have f1:Rx.fn goal (Rx.cl fs i)=Lt.g goal (Rx.cl fs i):=by unfold Rx.fn;rw[Int.toNat_natCast]
  rw[<-f1,<-we];congr 1
  .refine Ld.jO fun j hj=>?_;unfold Rx.fn
   try dsimp only
   rw[ae,ae,aB]
  .refine Ld.jO fun j hj=>?_;unfold Rx.fn
   try dsimp only
   rw[ae,ae,aB,ao,Rx.DP J];rfl
theorem JP {H:Hp}{zfK a t tt:Addr}{os:List Ot}{o:Ot}(hO:H zfK=some (.lst (as.map V.ref)))(pa:Paired (GI H) as os)(ne:∀o∈os,o.2.1≠[])(ha:H a=some (.tup [.int o.1,.ref t]))(ht:H t=some (.tup [.ref tt,.int o.2.2]))(qj:H tt=some (.lst (o.2.1.map V.int)))(nl:o.2.1≠[]):EB (upd H zfK (.lst (as.map V.ref++[.ref a]))) zfK (os++[o]):=by
 have ne1:∀(b:Addr)(x:List Int),x≠[]->H b=some (.lst (x.map V.int))->b≠zfK:=fun b x hx hb=>nK hb hO fun z=>by
  injection z with z;cases x with
  | nil=>exact hx Z
  | cons y ys=>cases as with
   | nil=>cases z
   | cons a0 RN=>injection z with z1;cases z1
 have keep:∀(a:Addr)(x:Ot),x.2.1≠[]->GI H a x->GI (upd H zfK (.lst (as.map V.ref++[.ref a]))) a x->ia:=fun _ _ _ _ _=>trivial;have k2:∀{o':HO}(a:Addr)(x:Ot),x.2.1≠[]->GI H a x->GI (upd H zfK o') a x:=fun a x hx ⟨t,tt,u,v,y⟩ =>
  ⟨t,tt,(jW (nK u hO (by intro z;cases z))).trans u,(jW (nK v hO (by intro z;cases z))).trans v,(jW (ne1 _ _ hx y)).trans y⟩
 have go:∀{tZ:List Addr}{NJ:List Ot}{o':HO},(∀o∈NJ,o.2.1≠[])->Paired (GI H) tZ NJ->Paired (GI (upd H zfK o')) tZ NJ:=fun {tZ NJ o'} hn p=>by
  induction p with
  | nil=>exact .nil
  | cons h _ ih=>exact .cons (k2 _ _ (hn _ av) h) (ih fun o ho=>hn o (ar _ ho))
 exact⟨as++[a],by rw[jG,aQ];rfl,L2.Paired.BV (go ne pa) (.cons (k2 _ _ nl ⟨t,tt,ha,ht,qj⟩) .nil)⟩
def YA (w N:Nat)(steps:List (List Int))(fs:List Rx.Fd)(os:List Ot)(goal:List Int)(H1:Hp)(t:Addr):Prop:=(∃wt W s,H1 t=some (.tup [.str "bar",.ref wt,.int s])/\H1 wt=some (.lst (W.map V.int))/\KH w fs.length N steps fs os goal W s)\/(∃ct kS,H1 t=some (.tup [.str "way",.ref ct])/\H1 ct=some (.lst (kS.map V.int))/\kS.length=steps.length/\Bd 40000 kS/\∀i:Nat,i<fs.length->(Ld.S steps.length fun j=>Rx.st steps j.toNat (Rx.cl fs i)*Lt.g kS j.toNat)=Lt.g goal (Rx.cl fs i))
inductive Oo (C:Addr)(vs:List V)(H:Hp)(Q:VK)(E_:XK):Prop
 | mk (r s x gm gt:Addr)(os:List Ot)(steps:List (List Int))(fs:List Rx.Fd)(us:List (List Int))(goal ow:List Int)(gb p:Int)(w N D Cc G B:Nat)(_:vs=[.ref r,.ref s,.ref x,.ref gm])(_:EB H r os)(_:k9 H s steps)(_:wf C H x p w steps fs us)(_:Kq p w N steps fs us)(_:Rx.xp p w steps fs us D Cc)(_:Nb p fs.length D Cc G B N)(_:D<=G)(_:∀y∈steps,y.length=w/\Bd N y)(_:w<=420)(_:1000<=p)(_:steps.length<=20000)(_:fs.length+os.length<=420)(_:H gm=some (.tup [.ref gt,.int gb]))(_:H gt=some (.lst (ow.map V.int)))(_:goal.length=w)(_:Rx.Ip steps fs D N (Rx.fn goal) ow gb)(_:∀o∈os,o.1<steps.length/\Rx.Ip steps fs D N (Rx.st steps o.1) o.2.1 o.2.2)(_:(os.map (fun o=>o.1)++Rx.numsOf fs).Nodup)(_:∀t H',jM H H'->YA w N steps fs os goal H' t->Q (.ref t) H')
theorem qT (T:Txt K mg CF tL tF tM):Df P w K mg base 9 "sought_with" ["others","steps","frame","goal_made"] (Oo CF):=by
 obtain⟨f,fd,F,rr⟩:=(v8 (P:=P) (w:=w) (base:=base) T).ex;refine⟨f,fd,F.imp fun vs H Q E h=>?_,rr⟩;obtain⟨r,s,x,gm,gt,os,steps,fs,us,goal,ow,gb,p,w',N,D,Cc,G,B,e,a1,a2,a3,a4,a5,a6,a7,a8,a9,Mv,L5,LV,Mh,LX,MQ,OX,Pi,Pr,q⟩:=h;exact⟨r,s,x,gm,gt,os,steps,fs,us,goal,ow,gb,p,w',N,D,Cc,G,B,e,a1,a2,a3,a4,a5,a6,a7,a8,a9,Mv,L5,LV,Mh,LX,MQ,OX,Pi,Pr,fun t wt H2 W s lE h1 h2 sb=>q t H2 lE (.inl ⟨wt,W,s,h1,h2,sb⟩),fun t ct H2 kS lE h1 h2 l b e=>q t H2 lE (.inr ⟨ct,kS,h1,h2,l,b,e⟩)⟩
structure FT (C:Addr)(H:Hp)(s x:Addr)(p:Int)(w N D Cc G B:Nat)(steps:List (List Int))(fs:List Rx.Fd)(us:List (List Int)):Prop where
 hS:k9 H s steps
 fa:wf C H x p w steps fs us
 fo:Kq p w N steps fs us
 fm:Rx.xp p w steps fs us D Cc
 nb:Nb p fs.length D Cc G B N
 DG:D<=G
 CG:Cc<=G
 lw:∀y∈steps,y.length=w/\Bd N y
 w4:w<=420
 p3:1000<=p
 sz:steps.length<=420
theorem FT.same {C:Addr}{H H':Hp}{s x:Addr}{p:Int}{w N D Cc G B:Nat}{steps:List (List Int)}{fs:List Rx.Fd}{us:List (List Int)}(h:FT C H s x p w N D Cc G B steps fs us)(sm:jM H H'):FT C H' s x p w N D Cc G B steps fs us :=
 ⟨h.hS.same sm,h.fa.same sm,h.fo,h.fm,h.nb,h.DG,h.CG,h.lw,h.w4,h.p3,h.sz⟩
inductive PD (C:Addr)(vs:List V)(H:Hp)(Q:VK)(E_:XK):Prop
 | mk (s x gm gt:Addr)(steps:List (List Int))(fs:List Rx.Fd)(us:List (List Int))(goal ow:List Int)(gb p:Int)(w N D Cc G B:Nat)(_:vs=[.ref s,.ref x,.ref gm])(_:FT C H s x p w N D Cc G B steps fs us)(_:H gm=some (.tup [.ref gt,.int gb]))(_:H gt=some (.lst (ow.map V.int)))(_:goal.length=w)(_:Rx.Ip steps fs D N (Rx.fn goal) ow gb)(_:∀t wt H' W s,jM H H'->H' t=some (.tup [.str "bar",.ref wt,.int s])->H' wt=some (.lst (W.map V.int))->W.length=w->1<=s->Bd N W->Rx.Iq steps goal W s->Q (.ref t) H')(_:∀t ct H' kS,jM H H'->H' t=some (.tup [.str "way",.ref ct])->H' ct=some (.lst (kS.map V.int))->kS.length=steps.length->Bd 40000 kS->(∀i:Nat,i<fs.length->(Ld.S steps.length fun j=>Rx.st steps j.toNat (Rx.cl fs i)*Lt.g kS j.toNat)=Lt.g goal (Rx.cl fs i))->Q (.ref t) H')
theorem ug (T:Txt K mg CF tL tF tM):Df P w K mg base 10 "sought_within" ["steps","frame","goal_made"] (PD CF):=by
 refine kN T.d_sought_within t6 fun f cdv A outer s H vs Q E hr nd h=>?_;obtain⟨s',x,gm,gt,steps,fs,us,goal,ow,gb,p,w',N,D,Cc,G,B,rfl,e0,QM,Se,Sf,zZ,qb,qw⟩:=h;have nb:=e0.nb;have N1:=nb.N1;have N2:=nb.N2;have eN:=nT N;refine⟨_,(jE (j8 3 nd (lD j5)) (jE (j8 4 nd (j7 (qT T) hr (jF (pv 3) (jF (pv 0) (jF (pv 1) (jF (pv 2) j5)))))) (jE (mF aI (k7 m7 (j9 jZ (pv 4) jH) oa) (jE (j8 5 nd (j7 (nR T) hr (ke (pv 0) (pv 4)))) (jE (kP (k7 zN (pv 5) rQ) (jJ (jT (pv 4))) kh) (jE (mX (uV cO cK cL nw (pv 3) (kD (lI (ke (pv 5) (vS (pv 1) T.cl_Frame (qR T) (hr.mono O) (kD (j9 kC (pv 0) (pv 5))))))))) (jJ (j8 4 nd (j7 (qT T) hr (jF (pv 3) (jF (pv 0) (jF (pv 1) (jF (pv 2) j5))))))))))) (jJ (jT (pv 4)))))),?_⟩;refine⟨mW O,fun zfK hO=>?_⟩;have Ka:jM H (upd H zfK (.lst [])):=jK (jM.refl _) hO;have QE:upd H zfK (.lst []) zfK=some (.lst (([]:List Addr).map V.ref)):=jG;generalize upd H zfK (.lst [])=H0 at Ka QE ⊢;have Z1:∀os:List Ot,(∀o∈os,o.1<steps.length/\Rx.Ip steps fs D N (Rx.st steps o.1) o.2.1 o.2.2)->(os.map (fun o=>o.1)++Rx.numsOf fs).Nodup->fs.length+os.length<=420:=fun os mo QN=>by
  have lt:∀n∈os.map (fun o=>o.1)++Rx.numsOf fs,n<steps.length:=fun n hn=>by
   rcases List.mem_append.mp hn with c | c
   .obtain⟨o,ho,rfl⟩:=List.mem_map.mp c;exact(mo o ho).1
   .exact Rx.vm e0.fo.crn n c
  have ln:=Rx.Hz QN lt;rw[aJ,aa] at ln;have J9:(Rx.numsOf fs).length=fs.length:=by unfold Rx.numsOf;rw[List.length_map]
  have sz:=e0.sz;lia
 have Ra:steps.length<=20000:=by have:=e0.sz;lia
 have Kc:=e0.same Ka;have Rb:(([]:List Ot).map (fun o=>o.1)++Rx.numsOf fs).Nodup:=by rw[iB,hI];exact e0.fo.crn.Dm
 have Z2:∀o∈([]:List Ot),o.1<steps.length/\Rx.Ip steps fs D N (Rx.st steps o.1) o.2.1 o.2.2:=fun o ho=>(nomatch ho);refine⟨_,Z,_,Z,_,Z,_,Z,zfK,s',x,gm,gt,[],steps,fs,us,goal,ow,gb,p,w',N,D,Cc,G,B,Z,⟨[],QE,.nil⟩,Kc.hS,Kc.fa,Kc.fo,Kc.fm,Kc.nb,Kc.DG,Kc.lw,Kc.w4,Kc.p3,Ra,Z1 [] Z2 Rb,Ka _ _ QM,Ka _ _ Se,Sf,zZ,Z2,Rb,fun t0 H1 lH td0=>?_⟩;refine⟨fun mm σ H'=>jM H H'/\∃(os:List Ot)(as:List Addr)(t:Addr)(o1:Option V),σ=[some (.ref s'),some (.ref x),some (.ref gm),some (.ref zfK),some (.ref t),o1]/\H' zfK=some (.lst (as.map V.ref))/\Paired (GI H') as os/\(∀o∈os,o.1<steps.length/\Rx.Ip steps fs D N (Rx.st steps o.1) o.2.1 o.2.2)/\(os.map (fun o=>o.1)++Rx.numsOf fs).Nodup/\YA w' N steps fs os goal H' t/\mm=steps.length-os.length,
  ⟨_,Ka.trans lH,[],[],t0,none,Z,lH _ _ QE,.nil,fun o ho=>(nomatch ho),by rw[iB,hI];exact e0.fo.crn.Dm,td0,Z⟩,?_⟩
 rintro mm σ H' ⟨sm,os,as,t,o1,rfl,NZ,pa,mo,QN,td,rfl⟩;rcases td with ⟨wt,W,s0,ht,Sj,sb⟩ | ⟨ct,kS,ht,hct,lc,bc,X6⟩
 rotate_left
 .have i0:lY [V.str "way",V.ref ct] 0=some (.str "way"):=Z;refine⟨_,Z,t,_,_,_,Z,Z,kJ.of ht,i0,Z,_,Z,lP L ?_⟩;exact⟨_,Z,qw t ct H' kS sm ht hct lc bc X6⟩
 have i0:lY [V.str "bar",V.ref wt,V.int s0] 0=some (.str "bar"):=Z;refine⟨_,Z,t,_,_,_,Z,Z,kJ.of ht,i0,Z,_,Z,p8 L ⟨_,fun _ _ h=>h,?_⟩⟩;have Wb:Bd N W:=wG sb.sN sb.AC;have e1:=e0.same sm;have s1:=sb.s1;have w4:=e0.w4;refine⟨_,Z,_,Z,s',t,wt,_,steps,W,s0,w',N,N,Z,e1.hS,ht,Sj,sb.len,e0.lw,Wb,J,J,J,J,fun n H2 lE hn ndv=>?_,fun H2 lE al=>?_⟩
 .-- one more
  refine⟨_,Z,Z,_,Z,lP jB ?_⟩;have e2:=e1.same lE;obtain⟨ZN,QI,hs2⟩:=e2.hS;obtain⟨dx,ff,ch,co,ro,un,hx,_⟩:=e2.fa.ex;obtain⟨a,J6,ha⟩:=wI hs2 (Rx.ma hn);have ll:=e0.lw _ (Rx.lh (rows:=steps) hn);have Z3:∀c:Nat,Lt.g (steps.getD n []) c=Rx.st steps n c:=fun c=>by unfold Rx.st;rw[Int.toNat_natCast]
  refine⟨_,Z,.inl ⟨Z,_,jV.of (lE _ _ NZ)⟩,_,Z,_,Z,x,dx,_,Z,hx,xO _ _ _ _ _ _ _ _,_,Z,_,Z,s',_,_,_,Z,Z,jV.of QI,J6,x,a,steps,fs,us,steps.getD n [],p,w',N,D,Cc,G,B,Z,e2.fa,e2.fo,e2.fm,e2.nb,e2.lw,w4,e0.p3,ha,ll.1,fun c hc=>?_,fun tm tt H3 tops b kT htm qj lt b1 bD bN bt sol=>?_⟩
  .rw[Z3];exact bR (e0.fm.bd n c hn hc) e0.CG
  have mad:Rx.Ip steps fs D N (Rx.st steps n) tops b:=⟨lt,b1,bD,bN,bt,fun i hi=>by rw[<-Z3];exact sol i hi⟩;refine⟨jI,fun tn htn=>?_⟩;have X7:=jK (o:=.tup [.int (n:Nat),.ref tm]) (jM.refl H3) htn;have CP:=(lE.trans kT).trans X7;have Ni:=CP _ _ NZ;have lno:n∉os.map (fun o=>o.1)++Rx.numsOf fs:=fun hm=>by
   rcases List.mem_append.mp hm with c | c
   .obtain⟨o,ho,e⟩:=List.mem_map.mp c;exact ndv (by have:=sb.ot o ho;rwa [e] at this)
   .unfold Rx.numsOf at c;obtain⟨f,hf,e⟩:=List.mem_map.mp c;obtain⟨j,hj,ej⟩:=List.getElem_of_mem hf;have:=sb.ch j hj;have en:Rx.nm fs j=n:=by unfold Rx.nm;rw[Rx.getD_at (List.getElem?_eq_getElem hj),ej,e]
    rw[en] at this;exact ndv this
  have nd2:((os++[((n:Nat),tops,b)]).map (fun o=>o.1)++Rx.numsOf fs).Nodup:=by
   rw[aQ,gh];have Nr:=gZ.mp QN;rw[gZ];refine⟨Nr.1,?_,fun a ha b hb=>?_⟩
   .show (n::Rx.numsOf fs).Nodup
    rw[eQ];exact⟨fun hm=>lno (bp _ hm),Nr.2.1⟩
   .rcases List.mem_cons.mp (show b∈n::Rx.numsOf fs from hb) with e | e
    .rw[e];exact fun z=>lno (cD _ (z▸ha))
    .exact Nr.2.2 a ha b e
  have Rc:∀o∈os++[((n:Nat),tops,b)],o.1<steps.length/\Rx.Ip steps fs D N (Rx.st steps o.1) o.2.1 o.2.2:=fun o ho=>by
   rcases List.mem_append.mp ho with c | c
   .exact mo o c
   .rw[b3.mp c];exact⟨hn,mad⟩
  have YX:∀m∈(os++[((n:Nat),tops,b)]).map (fun o=>o.1)++Rx.numsOf fs,m<steps.length:=fun m hm=>by
   rcases List.mem_append.mp hm with c | c
   .obtain⟨o,ho,rfl⟩:=List.mem_map.mp c;exact(Rc o ho).1
   .exact Rx.vm e0.fo.crn m c
  have ln:=Rx.Hz nd2 YX;rw[aJ,aa,aJ] at ln;have ln':os.length+1<=steps.length:=by have:os.length + [((n:Nat),tops,b)].length+(Rx.numsOf fs).length<=steps.length:=ln;rw[dr] at this;lia
  have sz:=e0.sz;have k0:=sb.k0;have nonil:∀o∈os++[((n:Nat),tops,b)],o.2.1≠[]:=fun o ho z=>by
   have:=(Rc o ho).2.len;rw[z] at this;simp at this;lia
  refine⟨zfK,_,_,Z,Z,Ni,by rw[aa,jY pa];exact mD J,?_⟩;have push:=JP (o:=((n:Nat),tops,b)) Ni (Ad CP pa) (fun o ho=>nonil o (cD _ ho)) jG (X7 _ _ htm) (X7 _ _ qj) (nonil _ (bp _ av));have E7:jM H (upd (upd H3 tn (.tup [.int (n:Nat),.ref tm])) zfK (.lst (as.map V.ref++[.ref tn]))):=ku (sm.trans CP) hO;generalize upd (upd H3 tn (.tup [.int (n:Nat),.ref tm])) zfK (.lst (as.map V.ref++[.ref tn]))=H5 at push E7 ⊢;have e5:=e0.same E7;refine⟨_,Z,_,Z,_,Z,_,Z,zfK,s',x,gm,gt,_,steps,fs,us,goal,ow,gb,p,w',N,D,Cc,G,B,Z,push,e5.hS,e5.fa,e5.fo,e5.fm,e5.nb,e5.DG,e5.lw,e5.w4,e5.p3,Ra,Z1 _ Rc nd2,E7 _ _ QM,E7 _ _ Se,Sf,zZ,Rc,nd2,fun t2 H6 qZ td6=>?_⟩;obtain⟨as2,p1,p2⟩:=push.same qZ;exact⟨steps.length-(os.length+1),J,E7.trans qZ,_,as2,t2,_,Z,p1,p2,Rc,nd2,td6,by rw[aJ];rfl⟩
 .refine⟨_,Z,Z,_,Z,p8 jB ?_⟩;exact⟨_,Z,qb t wt H2 W s0 (sm.trans lE) (lE _ _ ht) (lE _ _ Sj) sb.len sb.s1 Wb ⟨al,sb.go⟩⟩
structure Nk (k C Cg N B G:Nat):Prop where
 a1:(2*(k*C)+1)^k<=B
 a2:(2*(k*C)+1)^k<=G
 a3:k*((2*(k*C)+1)^k*(Sg.t7 k C*G))<=B
 a4:1<=B
 a5:128*(B*B)*(128*(B*B))*2^480<=2^N
 a6:G<2^N
 a7:C<=G
 a8:Cg<=G
theorem Mu {p:Int}(p0:0<=p)(IA:p<2^30):p^16<=2^480:=by
 have a:=gO (show p.toNat<=2^30 by lia) 16;have c:((p.toNat^16:Nat):Int)=p^16:=by rw[dM,show ((p.toNat:Nat):Int)=p by lia]
 have d:(2^30)^16=2^480:=by rw[<-Nat.pow_mul]
 rw[d] at a;have e:=nT 480;lia
theorem PX {p:Int}{k D C Cg N B G:Nat}(p0:0<=p)(IA:p<2^30)(Db:D<=(2*(k*C)+1)^k)(h:Nk k C Cg N B G)(N1:480<=N)(N2:N<=9000):Nb p k D C G B N/\D<=G:=by
 refine⟨⟨bR Db h.a1,bR (dO _ (cS _ Db)) h.a3,h.a4,?_,h.a6,N1,N2⟩,bR Db h.a2⟩;have a:=Mu p0 IA;have b:(0:Int)<=128*((B:Int)*B)*(128*((B:Int)*B)):=by
  have:(0:Int)<=(B:Int)*B:=bx J J;exact bx J J
 have c:=ay a b;have d:((128*(B*B)*(128*(B*B))*2^480:Nat):Int)=128*((B:Int)*B)*(128*((B:Int)*B))*2^480:=by
  simp only[Int.natCast_mul,Int.natCast_pow];rfl
 have e:=nT N;have f:=h.a5;lia
theorem HI {H:Hp}{as:List Addr}{rows:List (List Int)}(pa:Paired (fun a (x:List Int)=>H a=some (.lst (x.map V.int))) as rows):∀{ps:List Nat},(∀q∈ps,q<rows.length)->∃bs:List Addr,pk (as.map V.ref) ps=bs.map V.ref/\Paired (fun a (x:List Int)=>H a=some (.lst (x.map V.int))) bs (ps.map fun q=>rows.getD q [])
 | [],_=>⟨[],Z,.nil⟩
 | q::ps,h=>by
  obtain⟨bs,e,p⟩:=HI pa (ps:=ps) fun z hz=>h z (List.mem_cons_of_mem _ hz);have ql:=h q av;have la:=jY pa;have ha:as[q]?=some (as[q]'J):=aA J;obtain⟨row,hr,hh⟩:=kQ pa ha;refine⟨as[q]'J::bs,?_,.cons (by dsimp only;rw[Rx.tq hr];exact hh) p⟩;show (as.map V.ref).getD q .non::pk (as.map V.ref) ps=_
  rw[e,ao,af,ha];rfl
inductive Tj (C:Addr)(vs:List V)(H:Hp)(Q:VK)(E_:XK):Prop
 | mk (s gl:Addr)(steps:List (List Int))(goal:List Int)(p:Int)(w N Cc Cg:Nat)(_:vs=[.ref s,.ref gl,.int p])(_:k9 H s steps)(_:H gl=some (.lst (goal.map V.int)))(_:∀y∈steps,y.length=w/\Bd N y)(_:goal.length=w)(_:w<=420)(_:steps.length<=420)(_:Pt.mR p)(_:1000<=p)(_:p<2^30)(_:480<=N)(_:N<=9000)(_:1<=Cc)(_:∀j c:Nat,j<steps.length->c<w->(Rx.st steps j c).natAbs<=Cc)(_:∀c,c<w->(Lt.g goal c).natAbs<=Cg)(_:∀k,k<=steps.length->k<=w->∃B G,Nk k Cc Cg N B G)(_:∀t wt H' W s,jM H H'->H' t=some (.tup [.str "bar",.ref wt,.int s])->H' wt=some (.lst (W.map V.int))->W.length=w->0<=s->Bd (N+1) W->(Mx.Good p w steps.length (Rx.st steps) (Rx.fn goal)->Rx.Iq steps goal W s)->Q (.ref t) H')(_:∀t ct H' kS,jM H H'->H' t=some (.tup [.str "way",.ref ct])->H' ct=some (.lst (kS.map V.int))->kS.length=steps.length->Bd 40000 kS->(Mx.Good p w steps.length (Rx.st steps) (Rx.fn goal)->Rx.Jh w steps goal kS)->Q (.ref t) H')
theorem EL (T:Txt K mg CF tL tF tM):Df P w K mg base 11 "sought" ["steps","goal","prime"] (Tj CF):=by
 refine kN T.d_sought EQ fun f cdv A outer s H vs Q E hr nd h=>?_;obtain⟨s',gl,steps,goal,p,w',N,Cc,Cg,rfl,hS,hg,lw,lg,w4,s4,hp,p3,IA,N1,N2,C1,bs,bg,num,qb,qw⟩:=h;have eN:=nT N;have lw1:∀y∈steps,y.length=w':=fun y hy=>(lw y hy).1;refine⟨_,(jE (j8 3 nd (LJ (xr T) (hr.mono O) jC (jF (pv 0) (jF (nI T.b_len (pv 1)) (jF (pv 2) j5))))) (jE (j8 4 nd (vS (pv 3) T.cl_Frame (vd T) (hr.mono O) (kD (pv 1)))) (jE (kP (k7 zN (pv 4) rQ) (jJ (jT (j7 (ug T) hr (jF (pv 0) (jF (pv 3) (jF (vS (pv 3) T.cl_Frame (qR T) (hr.mono O) (kD (pv 1))) j5)))))) kh) (jE (j8 5 nd (vS (pv 3) T.cl_Frame (p9 T) (hr.mono O) (kD (j7 (tX T) hr (ke (j7 (uF T) hr (ke (pv 0) (mw (pv 3) Z))) (pv 4)))))) (jE (sM 6 [] ["number"] nd (ki (j9 jZ (pv 5) jH)) (fun C s H fp=>⟨(nB 0),kd,(rq oO (pv 0))⟩)) (jE (oY (j9 jZ (pv 5) jH) (oR (pv 6) (pv 4) set_list)) (jJ (jT (lI (jF oa (jF (pv 6) (jF jH j5)))))))))))),?_⟩;refine⟨_,Z,_,Z,gl,_,Z,.inl (jV.of hg),_,Z,fun x dx nx ndx ne=>?_⟩;have qM:jM H (upd (upd H dx (.own x)) x (.ins CF dx [])):=fun b o e=>by
  rw[jW (jX e nx),jW (jX e ndx)];exact e
 refine⟨x,s',dx,steps,p,w',N,(by rw[aa,lg];rfl),jG,hS.same qM,lw,w4,J,hp,IA,N1,N2,fun H1 fs us kx fa fo=>⟨Z,?_⟩⟩;have lH:jM H H1:=fun b o e=>kx b o (qM b o e) (jX e nx);have kl:=fo.crn.fr.Ea hp;obtain⟨D,fm⟩:=Rx.xp.mk' hp fo.crn fo.ul (fun u hu=>(fo.uw u hu).1) fo.li C1 bs;obtain⟨B,G,nk⟩:=num fs.length kl.1 kl.2;obtain⟨nb,DG⟩:=PX J IA fm.Db nk N1 N2;obtain⟨Sq,ff,ch,co,ro,un,hx,hff,zX,_⟩:=fa.ex;have Z4:=lH _ _ hg;have e0:FT CF H1 s' x p w' N D Cc G B steps fs us:=⟨hS.same lH,fa,fo,fm,nb,DG,nk.a7,lw,w4,p3,s4⟩;refine⟨_,Z,x,Sq,_,Z,hx,Ed _ _ _ _ _ _ _ _,_,Z,x,gl,steps,fs,us,goal,p,w',N,Z,fa,fo,hp,IA,N1,N2,w4,Z4,lg,fun c H2 lE hc nz=>?_,fun H2 lE z=>?_⟩
 .refine⟨_,Z,Z,_,Z,lP jB ?_⟩;have mC:=lH.trans lE;obtain⟨ZN,QI,hs2⟩:=hS.same mC;have Nj:=jY hs2;have Sr:=lE _ _ hx;have nl:=Rx.vm fo.crn;have J9:(Rx.numsOf fs).length=fs.length:=by unfold Rx.numsOf;rw[List.length_map]
  refine⟨_,Z,x,Sq,_,Z,Sr,wd _ _ _ _ _ _ _ _,_,Z,_,Z,x,CF,Sq,_,_,Z,Sr,T.cl_Frame,T.na_chosen,ye _ _ _ _ _ _ _ _,s',ch,_,Rx.numsOf fs,Z,jV.of QI,lE _ _ zX,fun q hq=>by rw[aa,Nj];exact nl q hq,J,fun t1 H3 kT _ h3=>?_⟩;obtain⟨bs3,e3,XN⟩:=HI (kL kT hs2) (ps:=Rx.numsOf fs) nl;rw[e3] at h3;have lpk:∀row∈(Rx.numsOf fs).map fun q=>steps.getD q [],c<row.length:=fun row kX=>by
   obtain⟨q,hq,rfl⟩:=List.mem_map.mp kX;rw[(lw _ (Rx.lh (rows:=steps) (nl q hq))).1];exact hc
  refine⟨_,Z,t1,(Rx.numsOf fs).map (fun q=>steps.getD q []),c,Z,⟨bs3,h3,XN⟩,lpk,by rw[aa];lia,fun t2 H4 lZ _ h4=>?_⟩;obtain⟨am,QY⟩:∃am:List Int,am=((Rx.numsOf fs).map fun q=>steps.getD q []).map fun row=>Lt.g row c:=⟨_,Z⟩;rw[<-QY] at h4;have lam:am.length=fs.length:=by rw[QY,aa,aa,J9]
  have RT:∀i,i<fs.length->Lt.g am i=Lt.g (steps.getD (Rx.nm fs i) []) c:=fun i hi=>Rx.lJ (by rw[QY,af,af,Rx.DP hi];rfl);have Re:=(lE.trans kT).trans lZ;have XW:∀i,i<fs.length->(Lt.g am i).natAbs<=G:=fun i hi=>by
   rw[RT i hi];have:=bs (Rx.nm fs i) c (fo.crn.se hi) hc;unfold Rx.st at this;rw[ae] at this;exact bR this nk.a7
  have e4:=e0.same Re;refine⟨x,t2,steps,fs,us,am,p,w',N,D,Cc,G,B,Z,e4.fa,fo,fm,nb,lw,w4,p3,h4,lam,XW,fun tt W0 H5 tops b mJ qj Z5 _ lt b1 bD bN bt sol=>?_⟩;have i0:lY [V.ref W0,V.int b] 0=some (.ref W0):=Z;have i1:lY [V.ref W0,V.int b] 1=some (.int b):=Z;refine⟨_,Z,tt,_,_,_,Z,Z,kJ.of qj,i0,W0,Z,⟨_,jV.of Z5⟩,?_⟩;refine lB (K:=K) (xs:=(Rx.uk w' (Rx.kf fs) tops).map V.int) ((Rx.uk w' (Rx.kf fs) tops).map fun y=>-y) zfP zfR (jV.of Z5) ?_ ?_
  .intro i y H6 hy qZ R kk;obtain⟨u,rfl,hu⟩:=int_at hy;exact⟨_,Z,_,Z,kk _ _ (jM.refl _) (by rw[af,hu];rfl)⟩
  intro wa H6 qZ nwa hwa;refine⟨_,Z,tt,_,_,_,Z,Z,kJ.of (qZ _ _ qj),i1,_,Z,_,Z,wa,_,_,_,Z,Z,hwa,pZ J (by rw[aa,aa,Rx.nX];lia),?_⟩;rw[ae,set_int];have xg:=((lH.trans Re).trans mJ);have E7:jM H (upd H6 wa (.lst ((((Rx.uk w' (Rx.kf fs) tops).map fun y=>-y).set c b).map V.int))):=ku (xg.trans qZ) (xg.free nwa);have hU:upd H6 wa (.lst ((((Rx.uk w' (Rx.kf fs) tops).map fun y=>-y).set c b).map V.int)) wa=some (.lst ((((Rx.uk w' (Rx.kf fs) tops).map fun y=>-y).set c b).map V.int)):=jG;generalize upd H6 wa (.lst ((((Rx.uk w' (Rx.kf fs) tops).map fun y=>-y).set c b).map V.int))=H7 at E7 hU ⊢;refine⟨_,Z,jU,fun tr R3=>?_⟩;refine qb tr wa _ _ 0 (jK E7 R3) jG (jK (jM.refl _) R3 _ _ hU) (by rw[cf,aa,Rx.nX]) (dW 0) (fun y hy=>?_) fun gd=>?_
  .rw[dE];rcases List.mem_or_eq_of_mem_set hy with z | z
   .obtain⟨u,hu,rfl⟩:=List.mem_map.mp z;rw[gJ];rcases Rx.C7 hu with e | e
    .rw[e];have:=e8 (n:=N) (show 0<2 by decide);show 0<_;lia
    .have:=bt u e;lia
   .rw[z];lia
  .exact Rx.HD hp fo.crn fm.YC lw1 lg lt hc nz b1 RT sol gd
 .refine⟨_,Z,Z,_,Z,p8 jB ?_⟩;have Sr:=lE _ _ hx;have e2:=e0.same lE;have mC:=lH.trans lE;have hm:Mx.Hm p w' (Rx.st steps) fs.length (Rx.nm fs) (Rx.fn goal):=fo.crn.hm J lg z;refine⟨_,Z,_,Z,_,Z,x,Sq,_,Z,Sr,xO _ _ _ _ _ _ _ _,_,Z,x,gl,steps,fs,us,goal,p,w',N,D,Cc,G,B,Z,e2.fa,fo,fm,nb,lw,w4,p3,lE _ _ Z4,lg,fun c hc=>bR (bg c hc) nk.a8,fun t tt H3 tops b kT ht qj lt b1 bD bN bt sol=>?_⟩;have e3:=e2.same kT;refine⟨s',x,t,tt,steps,fs,us,goal,tops,b,p,w',N,D,Cc,G,B,Z,e3,ht,qj,lg,⟨lt,b1,bD,bN,bt,fun i hi=>by rw[sol i hi];unfold Rx.fn;rw[Int.toNat_natCast]⟩,fun t wt H4 W s lZ h1 h2 lW s1 bW sh=>?_,fun t ct H4 kS lZ h1 h2 lc bc X6=>?_⟩
  .exact qb t wt H4 W s ((mC.trans kT).trans lZ) h1 h2 lW J (qC bW J) fun _=>sh
  .exact qw t ct H4 kS ((mC.trans kT).trans lZ) h1 h2 lc bc fun gd=>Rx.Es hp fo.crn gd hm X6
def O8 (w:Nat)(steps:List (List Int))(goal:List Int)(H:Hp)(t:Addr)(Q:VK):Prop :=
 (∃wt W s N,H t=some (.tup [.str "bar",.ref wt,.int s])/\H wt=some (.lst (W.map V.int))/\W.length=w/\0<=s/\Bd N W/\N<=1000000/\(∀H',jM H H'->Rx.Iq steps goal W s->Q (.bl true) H')/\∀H',jM H H'->¬Rx.Iq steps goal W s->Q (.bl false) H') \/
 ∃ct kS,H t=some (.tup [.str "way",.ref ct])/\H ct=some (.lst (kS.map V.int))/\kS.length=steps.length/\Bd 40000 kS/\(∀H',jM H H'->Rx.Jh w steps goal kS->Q (.bl true) H')/\∀H',jM H H'->¬Rx.Jh w steps goal kS->Q (.bl false) H'
inductive Vo (K:PySem.W.Frag)(vs:List V)(H:Hp)(Q:VK)(E_:XK):Prop
 | mk (s gl t:Addr)(steps:List (List Int))(goal:List Int)(w N:Nat)(_:vs=[.ref s,.ref gl,.ref t])(_:k9 H s steps)(_:H gl=some (.lst (goal.map V.int)))(_:∀y∈steps,y.length=w/\Bd N y)(_:goal.length=w)(_:Bd N goal)(_:w<=420)(_:steps.length<=420)(_:N<=1000000)(_:O8 w steps goal H t Q)
theorem AF (T:Txt K mg CF tL tF tM):Df P w K mg base 4 "is_shown" ["steps","goal","told"] (Vo K):=by
 refine kN T.d_is_shown Bb fun f cdv A outer s H vs Q E hr nd h=>?_;obtain⟨s',gl,t,steps,goal,w',N,rfl,hS,hg,lw,lg,bg,w4,s4,N1,tl⟩:=h;refine⟨_,(jE (kP (k7 m7 (j9 jZ (pv 2) jH) oa) (jJ (jT (nZ (FZ (D4 hr)) (j7 (xV T) hr (jF (pv 0) (jF (j9 jZ (pv 2) jH) (jF (nI T.b_len (pv 1)) j5)))) (pv 1) (oZ _)))) kh) (jJ (jT (B6 (nZ zN (j7 (nR T) hr (ke (pv 0) (pv 2))) rQ (oZ _)) (yT (nZ m7 (j7 (nR T) hr (ke (lD (kD (pv 1))) (pv 2))) jH (oZ _))))))),?_⟩;rcases tl with ⟨wt,W,s0,M,ht,hw,lW,s1,bW,M1,qt,qf⟩ | ⟨ct,kS,ht,hc,lc,bc,qt,qf⟩
 .have i0:lY [V.str "bar",V.ref wt,V.int s0] 0=some (.str "bar"):=Z;refine⟨_,Z,t,_,_,_,Z,Z,kJ.of ht,i0,Z,_,Z,lP L ?_⟩;have fin:∀H1:Hp,jM H H1->(∀j,j<steps.length->s0∣Rx.dot (steps.getD j []) W)->ia:=fun _ _ _=>trivial;refine⟨_,Z,_,Z,s',t,wt,_,steps,W,s0,w',N,M,Z,hS,ht,hw,lW,lw,bW,J,N1,M1,s1,fun n H1 lH hn ndv=>?_,fun H1 lH al=>?_⟩
  .refine⟨Z,_,Z,lP jB ?_⟩;exact qf H1 lH fun sh=>ndv (sh.1 n hn)
  .refine⟨Z,_,Z,p8 jB ?_⟩;refine⟨_,Z,jL,fun l1 E6=>?_⟩;have lE:=jK (o:=.lst [V.ref gl]) (jM.refl H1) E6;have mC:=lH.trans lE;have hl:upd H1 l1 (.lst [V.ref gl]) l1=some (.lst ([gl].map V.ref)):=jG;generalize upd H1 l1 (.lst [V.ref gl])=H2 at lE mC hl ⊢;refine⟨_,Z,l1,t,wt,_,[goal],W,s0,w',N,M,Z,⟨[gl],hl,.cons (mC _ _ hg) .nil⟩,mC _ _ ht,mC _ _ hw,lW,fun y hy=>by rw[b3.mp hy];exact⟨lg,bg⟩,bW,J,N1,M1,s1,fun n H3 kT hn ndv=>?_,fun H3 kT al2=>?_⟩
   .have n0:n=0:=by rw[dr] at hn;lia
    subst n0;refine⟨Z,?_⟩;exact qt H3 (mC.trans kT) ⟨al,ndv⟩
   .refine⟨Z,?_⟩;exact qf H3 (mC.trans kT) fun sh=>sh.2 (al2 0 (by rw[dr];exact Nat.one_pos))
 .have i0:lY [V.str "way",V.ref ct] 0=some (.str "way"):=Z;have i1:lY [V.str "way",V.ref ct] 1=some (.ref ct):=Z;refine⟨_,Z,t,_,_,_,Z,Z,kJ.of ht,i0,Z,_,Z,p8 L ?_⟩;refine⟨_,Z,_,Z,t,_,_,_,Z,Z,kJ.of ht,i1,_,Z,gl,_,Z,.inl (jV.of hg),s',ct,steps,kS,w',steps.length,N,40000,(by rw[aa,lg];rfl),hS,hc,Z,lc,lw,bc,J,J,N1,O,fun o H1 out lH ho lo eqs=>?_⟩;refine⟨_,Z,F9 (jV.of ho) (jV.of (lH _ _ hg)) ?_⟩
  by_cases e:out=goal
  .rw[b9 e];exact qt H1 lH fun c hc=>by rw[<-eqs c hc,e]
  .rw[d4 e];exact qf H1 lH fun sh=>e (Rx.PU (by rw[lo,lg]) fun c hc=>by rw[eqs c J];exact sh c J)
theorem FR {a b:Int}(h1:-1000000000000<=a)(h2:a<=1000000000000):IntMulOk a b:=tu h1 h2
inductive OJ (vs:List V)(H:Hp)(Q:VK)(E_:XK):Prop
 | mk (n p:Int)(_:vs=[.int n,.int p])(_:1<=n)(_:n<=1000010000)(_:2<=p)(_:p<=31625)(_:∀q,Pt.B7 n p q->Q (.int q) H)
inductive Hj (vs:List V)(H:Hp)(Q:VK)(E_:XK):Prop
 | mk (n:Int)(_:vs=[.int n])(_:1<=n)(_:n<=1000010000)(_:∀r H' ps,jM H H'->H r=none->Hs H' r ps->Pt.Parts n ps->Q (.ref r) H')
theorem u5 (T:Txt K mg CF tL tF tM):Df P w K mg base 1 "prime_power" ["n","p"] OJ:=by
 refine kN T.d_prime_power vE fun f cdv A outer s H vs Q E hr nd h=>?_;obtain⟨n,p,rfl,n1,n2,p1,p2,q⟩:=h;refine⟨_,(jE (j8 2 nd jH) (jE (mF aI (k7 m7 (jR ky (pv 0) (jR ko (pv 2) (pv 1))) jH) (jJ (j8 2 nd (jR ko (pv 2) (pv 1))))) (jJ (jT (pv 2))))),?_⟩;refine⟨fun m σ H'=>H'=H/\∃q,σ=[some (.int n),some (.int p),some (.int q)]/\Pt.yY n p q/\m=(n-q).toNat,⟨_,Z,1,Z,Pt.q0 n p,Z⟩,?_⟩;rintro m σ H' ⟨rfl,z,rfl,hz,rfl⟩;have z1:=hz.pos;have z2:=Pt.Jf n1 hz;have zp:=Pt.FO p1 z1;refine⟨_,Z,_,Z,_,Z,_,_,Z,Z,FR J J,_,_,Z,Z,(show 0<z*p by lia),Z,_,Z,?_⟩;refine mM (fun c=>?_) (fun c=>?_)
 .have hq:=Pt.q1 p1 hz (uK c);have hl:=Pt.Jf n1 hq;refine⟨_,fun _ _ h=>h,?_⟩;refine⟨_,Z,_,Z,_,_,Z,Z,FR J J,?_⟩;exact⟨(n-z*p).toNat,J,Z,_,Z,hq,Z⟩
 .exact⟨_,Z,q z (Pt.q2 hz (wQ c))⟩
theorem r8 (T:Txt K mg CF tL tF tM):Df P w K mg base 2 "parts" ["n"] Hj:=by
 refine kN T.d_parts G8 fun f cdv A outer s H vs Q E hr nd h=>?_;obtain⟨n,rfl,n1,n2,q⟩:=h;refine⟨_,(jE (j8 1 nd (lD j5)) (jE (j8 2 nd (pv 0)) (jE (j8 3 nd jH) (jE (mF aI (k7 DC (jR ko (pv 3) (pv 3)) (pv 2)) (jE (j8 4 nd (j7 (u5 T) hr (ke (pv 2) (pv 3)))) (jE (kP (k7 wu (pv 4) jH) (jE (mX (uV cO cK cL nw (pv 1) (kD (lI (ke (pv 3) (pv 4)))))) (jJ (j8 2 nd (jR kq (pv 2) (pv 4))))) kh) (jJ (j8 3 nd (jR kG (pv 3) jH)))))) (jE (kP (k7 wu (pv 2) jH) (jJ (mX (uV cO cK cL nw (pv 1) (kD (lI (ke (pv 2) (pv 2))))))) kh) (jJ (jT (pv 1)))))))),?_⟩;refine⟨dH _,fun r xD=>?_⟩;refine⟨_,Z,?_⟩;refine⟨fun m σ H'=>jM H H'/\∃(as:List Addr)(ps:List (Int×Int))(left p:Int)(qv:Option V),σ=[some (.int n),some (.ref r),some (.int left),some (.int p),qv] /\
   H' r=some (.lst (as.map V.ref))/\Paired (fun a (x:Int×Int)=>H' a=some (.tup [.int x.1,.int x.2])) as ps/\Pt.xo n ps left p/\1<=left/\left<=1000010000/\2<=p/\p<=31625/\(ps.length:Int)+2<=p/\m=(40000-p).toNat,
  ⟨_,ku (jM.refl H) xD,[],[],n,2,none,Z,jG,.nil,Pt.start n,n1,n2,J,J,jB,Z⟩,?_⟩
 rintro m σ H' ⟨sm,as,ps,left,p,qv,rfl,hl,pr,inv,l1,l2,p1,p2,hlen,rfl⟩;have al:=e9 pr;refine⟨_,Z,_,Z,_,_,Z,Z,FR J J,_,Z,_,_,Z,Z,_,Z,?_⟩;refine mM (fun c=>?_) (fun c=>?_)
 .have hd:=dec c;have a:p<=31624:=by
   rcases Int.lt_or_le 31624 p with y | y
   .have:=cH (show 31625<=p by lia) (show 31625<=p by lia) O J;lia
   .exact y
  refine⟨_,fun _ _ h=>h,?_⟩;refine⟨_,Z,_,Z,left,p,Z,l1,l2,p1,J,fun z hz=>?_⟩;refine⟨_,Z,_,_,Z,Z,_,Z,?_⟩;refine mM (fun c=>?_) (fun c=>?_)
  .have z1:=dec c;have zl:=Pt.Jf l1 hz.inv;have lp:=Pt.AO l1 hz.inv.dv hz.inv.pos;refine⟨_,Z,.inl ⟨Z,_,jV.of hl⟩,_,Z,_,Z,jI,fun t ht=>?_⟩;have rt:r≠t:=jX hl ht;refine⟨r,_,_,Z,Z,(jW rt).trans hl,by rw[aa];exact bZ (show as.length<=40000 by lia) O,?_⟩;refine⟨_,Z,_,Z,_,_,Z,Z,sW J (show z.natAbs<2^40 by lia) O,?_⟩;refine⟨_,Z,_,_,Z,Z,?_⟩;refine⟨(40000-(p+1)).toNat,J,ku (ku sm (sm.free ht)) xD,as++[t],ps++[(p,z)],left/z,p+1,some (.int z),Z,?_,?_,Pt.GG p1 inv hz z1,lp.1,J,J,J,by rw[aJ,dr];lia,Z⟩
   .rw[jG,aQ];rfl
   .refine ix (Paired.za pr fun a x e=>?_) ?_
    .rw[jW (nK e hl (fun z=>by cases z)),jW (jX e ht)];exact e
    .rw[jW (c7 rt)];exact jG
  .refine⟨_,Z,_,_,Z,Z,?_⟩;exact⟨(40000-(p+1)).toNat,J,sm,as,ps,left,p+1,some (.int z),Z,hl,pr,Pt.HJ inv hz (xj c),l1,l2,J,J,J,Z⟩
 .have hd:=xj c;refine⟨_,Z,_,_,Z,Z,_,Z,?_⟩;refine mM (fun c=>?_) (fun c=>?_)
  .have z1:=dec c;refine⟨_,Z,.inl ⟨Z,_,jV.of hl⟩,_,Z,_,Z,jI,fun t ht=>?_⟩;have rt:r≠t:=jX hl ht;refine⟨r,_,_,Z,Z,(jW rt).trans hl,by rw[aa];exact bZ (show as.length<=40000 by lia) O,?_⟩;refine⟨_,Z,?_⟩;refine q r _ (ps++[(left,left)]) (ku (ku sm (sm.free ht)) xD) xD ⟨as++[t],?_,?_⟩ (Pt.Pu p1 inv hd z1)
   .rw[jG,aQ];rfl
   .refine ix (Paired.za pr fun a x e=>?_) ?_
    .rw[jW (nK e hl (fun z=>by cases z)),jW (jX e ht)];exact e
    .rw[jW (c7 rt)];exact jG
  .exact⟨_,Z,q r H' ps sm xD ⟨as,hl,pr⟩ (Pt.LH inv l1 (xj c))⟩
inductive Wu (vs:List V)(H:Hp)(Q:VK)(E_:XK):Prop
 | mk (n P0:Int)(_:vs=[.int n])(_:1<=n)(_:n<P0)(_:P0<=1000010000)(_:Pt.mR P0)(_:∀(q:Int) H',jM H H'->Pt.mR q->n<q->q<=P0->Q (.int q) H')
theorem xz (T:Txt K mg CF tL tF tM):Df P w K mg base 3 "next_prime" ["number"] Wu:=by
 refine kN T.d_next_prime xu fun f cdv A outer s H vs Q E hr nd h=>?_;obtain⟨n,P0,rfl,n1,nP,Pz,hP,q⟩:=h;refine⟨_,(jE (j8 1 nd (jR kG (pv 0) jH)) (jE (mF aI (k7 (zg (D4 hr)) (j7 (r8 T) hr (kD (pv 1))) (lD (kD (lI (ke (pv 1) (pv 1)))))) (jJ (j8 1 nd (jR kG (pv 1) jH)))) (jJ (jT (pv 1))))),?_⟩;refine⟨_,Z,_,_,Z,Z,?_⟩;refine⟨fun m σ H'=>jM H H'/\∃f:Int,σ=[some (.int n),some (.int f)]/\n<f/\f<=P0/\m=(P0-f).toNat,⟨_,jM.refl _,n+1,Z,J,J,Z⟩,?_⟩;rintro m σ H' ⟨sm,f,rfl,nf,fP,rfl⟩;refine⟨_,Z,f,Z,J,J,fun r H1 ps lH _ pr pt=>?_⟩;refine⟨_,Z,_,Z,jI,fun t ht=>⟨jL,fun l hl=>?_⟩⟩;have Rf:=jK (o:=.tup [V.int f,V.int f]) (jM.refl H1) ht;have sml:=jK (o:=.lst [V.ref t]) Rf hl;have pl:Hs (upd (upd H1 t (.tup [V.int f,V.int f])) l (.lst [V.ref t])) l [(f,f)]:=⟨[t],jG,.cons (jK (jM.refl _) hl _ _ jG) .nil⟩;have pr':Hs (upd (upd H1 t (.tup [V.int f,V.int f])) l (.lst [V.ref t])) r ps:=by
  obtain⟨as,e1,e2⟩:=pr;exact⟨as,sml _ _ e1,mY e2 fun _ _ z=>sml _ _ z⟩
 refine JD pr' pl ⟨_,Z,mM (fun c=>?_) (fun c=>?_)⟩
 .have ne:ps≠[(f,f)]:=fun z=>by rw[b9 z] at c;cases c
  have lt:f≠P0:=fun z=>ne (by rw[z];exact Rx.D8 (z▸pt) hP);refine⟨_,fun _ _ h=>h,?_⟩;refine⟨_,Z,_,_,Z,Z,?_⟩;exact⟨(P0-(f+1)).toNat,J,(sm.trans lH).trans sml,f+1,Z,J,J,Z⟩
 .have e:ps=[(f,f)]:=by
   rcases Decidable.em (ps=[(f,f)]) with z | z
   .exact z
   .rw[d4 z] at c;exact absurd Z c
  exact⟨_,Z,q f _ ((sm.trans lH).trans sml) (Rx.Eg pt e) nf fP⟩
inductive T5 (C:Addr)(vs:List V)(H:Hp)(Q:VK)(E_:XK):Prop
 | mk (s gl:Addr)(steps:List (List Int))(goal:List Int)(w N Cc Cg:Nat)(_:vs=[.ref s,.ref gl])(_:k9 H s steps)(_:H gl=some (.lst (goal.map V.int)))(_:∀y∈steps,y.length=w)(_:goal.length=w)(_:w<=420)(_:steps.length<=420)(_:480<=N)(_:N<=9000)(_:1<=Cc)(_:Cc<=Cg)(_:Cg<2^N)(_:∀y∈steps,∀z∈y,z.natAbs<=Cc)(_:∀z∈goal,z.natAbs<=Cg)(_:∀k,k<=steps.length->k<=w->∃B G,Nk k Cc Cg N B G)(_:∀k,k<=steps.length->k<=w->(2*(k*Cc)+1)^k*((k+1)*(Sg.t7 k Cg*Cg))<Pq.pd Pq.S)(_:∀t wt H' W s,jM H H'->H' t=some (.tup [.str "bar",.ref wt,.int s])->H' wt=some (.lst (W.map V.int))->W.length=w->0<=s->Bd (N+1) W->Rx.Iq steps goal W s->Q (.ref t) H')(_:∀t ct H' kS,jM H H'->H' t=some (.tup [.str "way",.ref ct])->H' ct=some (.lst (kS.map V.int))->kS.length=steps.length->Bd 40000 kS->Rx.Jh w steps goal kS->Q (.ref t) H')
def Yr (w N:Nat)(steps:List (List Int))(goal:List Int)(p:Int)(H1:Hp)(t:Addr):Prop:=(∃wt W s,H1 t=some (.tup [.str "bar",.ref wt,.int s])/\H1 wt=some (.lst (W.map V.int))/\W.length=w/\0<=s/\Bd (N+1) W/\(Mx.Good p w steps.length (Rx.st steps) (Rx.fn goal)->Rx.Iq steps goal W s))\/∃ct kS,H1 t=some (.tup [.str "way",.ref ct])/\H1 ct=some (.lst (kS.map V.int))/\kS.length=steps.length/\Bd 40000 kS/\(Mx.Good p w steps.length (Rx.st steps) (Rx.fn goal)->Rx.Jh w steps goal kS)
inductive Pm (C:Addr)(vs:List V)(H:Hp)(Q:VK)(E_:XK):Prop
 | mk (s gl:Addr)(steps:List (List Int))(goal:List Int)(p:Int)(w N Cc Cg:Nat)(_:vs=[.ref s,.ref gl,.int p])(_:k9 H s steps)(_:H gl=some (.lst (goal.map V.int)))(_:∀y∈steps,y.length=w/\Bd N y)(_:goal.length=w)(_:w<=420)(_:steps.length<=420)(_:Pt.mR p)(_:1000<=p)(_:p<2^30)(_:480<=N)(_:N<=9000)(_:1<=Cc)(_:∀j c:Nat,j<steps.length->c<w->(Rx.st steps j c).natAbs<=Cc)(_:∀c,c<w->(Lt.g goal c).natAbs<=Cg)(_:∀k,k<=steps.length->k<=w->∃B G,Nk k Cc Cg N B G)(_:∀t H',jM H H'->Yr w N steps goal p H' t->Q (.ref t) H')
theorem wg (T:Txt K mg CF tL tF tM):Df P w K mg base 11 "sought" ["steps","goal","prime"] (Pm CF):=by
 obtain⟨f,fd,F,rr⟩:=(EL (P:=P) (w:=w) (base:=base) T).ex;refine⟨f,fd,F.imp fun vs H Q E h=>?_,rr⟩;obtain⟨s,gl,steps,goal,p,w',N,Cc,Cg,e,a1,a2,a3,a4,a5,a6,a7,a8,a9,Mv,L5,LV,Mh,LX,MQ,q⟩:=h;exact⟨s,gl,steps,goal,p,w',N,Cc,Cg,e,a1,a2,a3,a4,a5,a6,a7,a8,a9,Mv,L5,LV,Mh,LX,MQ,fun t wt H2 W s lE h1 h2 l z b sh=>q t H2 lE (.inl ⟨wt,W,s,h1,h2,l,z,b,sh⟩),fun t ct H2 kS lE h1 h2 l b sh=>q t H2 lE (.inr ⟨ct,kS,h1,h2,l,b,sh⟩)⟩
theorem FB (T:Txt K mg CF tL tF tM):Df P w K mg base 12 "reach" ["steps","goal"] (T5 CF):=by
 refine kN T.d_reach Hq fun f cdv A outer s H vs Q E hr nd h=>?_;obtain⟨s',gl,steps,goal,w',N,Cc,Cg,rfl,hS,hg,lw,lg,w4,s4,N1,N2,C1,CC,CN,bs,bg,num,big,qb,qw⟩:=h;have X8:∀y∈steps,y.length=w'/\Bd N y:=fun y hy=>⟨lw y hy,fun z hz=>by have:=bs y hy z hz;lia⟩;have gB:Bd N goal:=fun z hz=>by have:=bg z hz;lia
 have X9:∀j c:Nat,j<steps.length->c<w'->(Rx.st steps j c).natAbs<=Cc:=fun j c hj hc=>by
  unfold Rx.st;rw[ae];have m:=Rx.lh (rows:=steps) hj;exact bs _ m _ (Rx.nV (by rw[lw _ m];exact hc))
 have Yb:∀c:Nat,c<w'->(Lt.g goal c).natAbs<=Cg:=fun c hc=>bg _ (Rx.nV J);obtain⟨P0,PS,good⟩:=Mx.JQ (S:=Pq.S) O (fun q hq=>(Pq.Hr hq).1) Pq.Mr (w:=w') (n:=steps.length) (stp:=Rx.st steps) (goal:=Rx.fn goal) C1 CC X9 (fun c hc=>by unfold Rx.fn;rw[Int.toNat_natCast];exact Yb c hc) big;have hP:=Pq.Hr PS;have first:=Pq.Hr (p:=1000000007) O;have Ie:Pt.mR 1000000007:=first.1;have IA:(1000010000:Int)<2^30:=O;refine⟨_,(jE (j8 2 nd (vg (v:=.int 1000000007) jC T.g_FIRST_PRIME ⟨_,Z⟩)) (jE (j8 3 nd (j7 (wg T) hr (jF (pv 0) (jF (pv 1) (jF (pv 2) j5))))) (jE (mF aI (mZ (mT (j7 (AF T) hr (jF (pv 0) (jF (pv 1) (jF (pv 3) j5)))))) (jE (j8 2 nd (j7 (xz T) hr (kD (pv 2)))) (jJ (j8 3 nd (j7 (wg T) hr (jF (pv 0) (jF (pv 1) (jF (pv 2) j5)))))))) (jJ (jT (pv 3)))))),?_⟩;refine⟨_,Z,_,Z,_,Z,s',gl,steps,goal,1000000007,w',N,Cc,Cg,Z,hS,hg,X8,lg,w4,s4,Ie,O,O,N1,N2,C1,X9,Yb,num,fun t0 H1 lH td=>?_⟩;refine⟨fun m σ H'=>jM H H'/\∃(p:Int)(t:Addr),σ=[some (.ref s'),some (.ref gl),some (.int p),some (.ref t)]/\Pt.mR p/\1000000007<=p/\p<=P0/\Yr w' N steps goal p H' t/\m=((P0:Int)-p).toNat,⟨_,lH,1000000007,t0,Z,Ie,dW _,J,td,Z⟩,?_⟩;rintro m σ H' ⟨sm,p,t,rfl,pp,p1,p2,td,rfl⟩;have next:∀H2:Hp,jM H' H2->¬Mx.Good p w' steps.length (Rx.st steps) (Rx.fn goal)->p<P0:=fun H2 _ ng=>by
  have:p≠P0:=fun z=>ng (by rw[z];exact good);lia
 have CM:∀Qq:VK,(∀H2,jM H' H2->p<P0->Qq (.bl false) H2)->(∀H2,jM H' H2->((∃wt W s,H' t=some (.tup [.str "bar",.ref wt,.int s])/\H' wt=some (.lst (W.map V.int))/\W.length=w'/\0<=s/\Bd (N+1) W/\Rx.Iq steps goal W s)\/∃ct kS,H' t=some (.tup [.str "way",.ref ct])/\H' ct=some (.lst (kS.map V.int))/\kS.length=steps.length/\Bd 40000 kS/\Rx.Jh w' steps goal kS)->Qq (.bl true) H2)->O8 w' steps goal H' t Qq:=fun Qq F Y=>by
  rcases td with ⟨wt,W,s0,h1,h2,lW,s1,bW,sh⟩ | ⟨ct,kS,h1,h2,lc,bc,sh⟩
  .exact .inl ⟨wt,W,s0,N+1,h1,h2,lW,s1,bW,J,fun H2 s2 y=>Y H2 s2 (.inl ⟨wt,W,s0,h1,h2,lW,s1,bW,y⟩),fun H2 s2 y=>F H2 s2 (next H2 s2 fun gd=>y (sh gd))⟩
  .exact .inr ⟨ct,kS,h1,h2,lc,bc,fun H2 s2 y=>Y H2 s2 (.inr ⟨ct,kS,h1,h2,lc,bc,y⟩),fun H2 s2 y=>F H2 s2 (next H2 s2 fun gd=>y (sh gd))⟩
 refine⟨_,Z,_,Z,_,Z,s',gl,t,steps,goal,w',N,Z,hS.same sm,sm _ _ hg,X8,lg,gB,w4,s4,J,CM _ (fun H2 lE lt=>?_) (fun H2 lE y=>?_)⟩
 .refine⟨_,Z,p8 O ⟨_,fun _ _ h=>h,?_⟩⟩;refine⟨_,Z,p,P0,Z,J,lt,J,hP.1,fun q H3 kT hq lq ql=>?_⟩;have CP:=(sm.trans lE).trans kT;refine⟨_,Z,_,Z,_,Z,s',gl,steps,goal,q,w',N,Cc,Cg,Z,hS.same CP,CP _ _ hg,X8,lg,w4,s4,hq,J,J,N1,N2,C1,X9,Yb,num,fun t2 H4 lZ td4=>?_⟩;exact⟨((P0:Int)-q).toNat,J,CP.trans lZ,q,t2,Z,hq,J,J,td4,Z⟩
 .refine⟨_,Z,lP O ?_⟩;rcases y with ⟨wt,W,s0,h1,h2,lW,s1,bW,sh⟩ | ⟨ct,kS,h1,h2,lc,bc,sh⟩
  .exact⟨_,Z,qb t wt H2 W s0 (sm.trans lE) (lE _ _ h1) (lE _ _ h2) lW s1 bW sh⟩
  .exact⟨_,Z,qw t ct H2 kS (sm.trans lE) (lE _ _ h1) (lE _ _ h2) lc bc sh⟩
inductive LB (vs:List V)(H:Hp)(Q:VK)(E_:XK):Prop
 | mk (st n:Int)(_:vs=[.int st,.int n])(_:1<=n)(_:n<=10000)(_:Eh.G st n=1)(_:∀(u:Int) H',1<=u->u<=n->(st*u-1)%n=0->jM H H'->Q (.int u) H')
theorem v9 (T:Txt K mg CF tL tF tM):Df P w K mg base 4 "back" ["step","n"] LB:=by
 obtain⟨f,fd,F,rr⟩:=(yu (P:=P) (w:=w) (base:=base) T).ex;refine⟨f,fd,F.imp fun vs H Q E h=>?_,rr⟩;obtain⟨st,n,e,n1,n2,g,q⟩:=h;exact⟨st,n,14,e,n1,O,O,J,fun d d1 dn ds=>Rs.Lk g d1 ds dn,fun u H' u1 u2 hu sm=>q u H' u1 u2 (bP hu) sm⟩
inductive IL (vs:List V)(H:Hp)(Q:VK)(E_:XK):Prop
 | mk (n q hole:Int)(ps:List (Int×Int))(p:Int)(_:vs=[.int n,.int q,.int hole])(_:1<=n)(_:n<=420)(_:Pt.Parts n ps)(_:(p,q)∈ps)(_:∀c H',Rs.Sh n q hole c->jM H H'->Q (.int c) H')
theorem Ao (T:Txt K mg CF tL tF tM):Df P w K mg base 5 "share" ["n","q","hole"] IL:=by
 refine kN T.d_share Fw fun f cdv A outer s H vs Q E hr nd h=>?_;obtain⟨n,q,hole,ps,p,rfl,n1,n2,hp,mem,k⟩:=h;have q2:2<=q:=by obtain⟨_,_,_,_,z,_⟩:=Rs.mE hp mem;exact z
 have qn:q<=n:=by have:=Pt.Bj ps hp.row _ mem;rw[hp.prd] at this;exact this
 refine⟨_,(jJ (jT (jR ky (jR ko (pv 2) (j7 (v9 T) hr (ke (jR kq (pv 0) (pv 1)) (pv 1)))) (pv 1)))),?_⟩;refine⟨_,Z,_,Z,_,Z,_,_,Z,Z,kK jD jD,_,Z,_,q,Z,jD,jD,Rs.zf hp mem,fun u H1 u1 u2 hu lH=>?_⟩;refine⟨_,_,Z,Z,ic (fO jD jD),_,Z,_,_,Z,Z,(show 0<q by omega),?_⟩;exact k _ _ (Rs.wj jD hu) lH
inductive Gv (vs:List V)(H:Hp)(Q:VK)(E_:XK):Prop
 | mk (n:Nat)(_:vs=[.int n])(_:1<=n)(_:n<=420)(_:∀r H' ps,jM H H'->H r=none->H' r=some (.lst ((ps.map Prod.fst).map V.int))->Pt.Parts n ps->Q (.ref r) H')
theorem sk (T:Txt K mg CF tL tF tM):Df P w K mg base 1 "_law_primes" ["n"] Gv:=by
 refine kN T.d_law_primes xl fun f cdv A outer s H vs Q E hr nd h=>?_;obtain⟨n,rfl,n1,n2,q⟩:=h;refine⟨_,(jE (j8 1 nd (lD j5)) (jE (j8 2 nd jH) (jE (mF aI (k7 wu (pv 0) jH) (jE (kP (k7 m7 (jR ky (pv 0) (pv 2)) jH) (jJ (mX (uV cO cK cL nw (pv 1) (kD (pv 2))))) kh) (jE (mF aI (k7 m7 (jR ky (pv 0) (pv 2)) jH) (jJ (j8 0 nd (jR kq (pv 0) (pv 2))))) (jJ (j8 2 nd (jR kG (pv 2) jH)))))) (jJ (jT (pv 1)))))),?_⟩;refine⟨dH _,fun r xD=>?_⟩;refine⟨fun m σ H'=>jM H H'/\∃(left p:Int)(ps:List (Int×Int)),σ=[some (.int left),some (.ref r),some (.int p)]/\H' r=some (.lst ((ps.map Prod.fst).map V.int))/\Pt.xo n ps left p/\2<=p/\p<=n+2/\1<=left/\left<=n/\(ps.length:Int)<=p/\m=(n+2-p).toNat,
  ⟨_,ku (jM.refl H) xD,n,2,[],Z,jG,Pt.start n,jD,jD,jD,jD,jB,Z⟩,?_⟩
 rintro m σ H' ⟨sm,left,p,ps,rfl,HX,pi,p2,pn,l1,ln,pl,rfl⟩;refine⟨_,Z,_,_,Z,Z,_,Z,?_⟩;refine mM (fun c=>?_) (fun c=>?_)
 .have lg:=dec c;have Z6:p<=left:=by
   rcases Int.lt_or_le left p with z | z
   .exact absurd (cT left) (pi.Mr left jD z)
   .exact z
  refine⟨_,fun _ _ h=>h,?_⟩;refine⟨_,Z,_,Z,_,_,Z,Z,(show 0<p by omega),Z,_,Z,?_⟩;refine mM (fun d=>?_) (fun d=>?_)
  .have d0:=uK d;refine⟨_,Z,.inl ⟨Z,_,jV.of HX⟩,_,Z,r,_,_,Z,Z,HX,by rw[aa,aa];exact mD jD,?_⟩;have HY:upd H' r (.lst ((ps.map Prod.fst).map V.int++[.int p])) r=some (.lst (((ps.map Prod.fst)++[p]).map V.int)):=by rw[jG,aQ];rfl
   have lE:jM H (upd H' r (.lst ((ps.map Prod.fst).map V.int++[.int p]))):=ku sm xD;generalize upd H' r (.lst ((ps.map Prod.fst).map V.int++[.int p]))=H2 at HY lE ⊢;refine⟨fun m σ H3=>H3=H2/\∃(l2 z:Int),σ=[some (.int l2),some (.ref r),some (.int p)]/\Pt.yY left p z/\l2*z=left/\1<=l2/\l2<=left/\m=l2.toNat,
    ⟨_,Z,left,1,Z,Pt.q0 left p,jD,l1,jD,Z⟩,?_⟩
   rintro m' σ H3 ⟨rfl,l2,z,rfl,qi,e,l21,l2l,rfl⟩;refine⟨_,Z,_,Z,_,_,Z,Z,(show 0<p by omega),Z,_,Z,?_⟩;refine mM (fun d2=>?_) (fun d2=>?_)
   .have d2':=uK d2;obtain⟨t,ht⟩:=Int.dvd_of_emod_eq_zero d2';have et:l2/p=t:=by rw[ht];exact aG _ jD
    have t1:1<=t:=by
     rcases Int.lt_or_le t 1 with y | y
     .have:=ay (show t<=0 by omega) (show 0<=p by omega);omega
     .exact y
    have tl:t<l2:=by have:=aq p2 (show 0<=t by omega);omega
    have dz:left%(z*p)=0:=bP ⟨t,by rw[<-e,ht,aB (p*t) z,aK]⟩;refine⟨_,fun _ _ h=>h,?_⟩;refine⟨_,Z,_,Z,_,_,Z,Z,kK jD jD,?_⟩;dsimp only;rw[et];exact⟨t.toNat,jD,Z,t,z*p,Z,Pt.q1 p2 qi dz,by rw[<-e,ht,aB z p,<-aK,aB t p],t1,jD,Z⟩
   .have nd2:=wQ d2;have zp:=qi.pos;have qe:Pt.B7 left p z:=Pt.q2 qi fun y=>nd2 (by
     obtain⟨t,ht⟩:=Int.dvd_of_emod_eq_zero y;rw[<-e,aB l2 z,aK] at ht;have:=aS (show z≠0 by omega) ht;rw[this];exact i6 _ _)
    have z1:z > 1:=by
     rcases Int.lt_or_le 1 z with y | y
     .exact y
     .have:z=1:=jD;rw[this,bV] at e;exact absurd d0 (by rw[<-e];exact nd2)
    have lz:left/z=l2:=by rw[<-e];exact gP _ jD
    have Z7:=Pt.GG p2 pi qe z1;rw[lz] at Z7;refine⟨_,Z,_,_,Z,Z,?_⟩;refine⟨(n+2-(p+1)).toNat,jD,lE,l2,p+1,ps++[(p,z)],Z,?_,Z7,jD,jD,l21,jD,by simp;omega,Z⟩;rw[aQ];exact HY
  .have Rb:=wQ d;have qe:Pt.B7 left p 1:=Pt.q2 (Pt.q0 left p) (by rw[cQ];exact Rb);refine⟨fun m σ H3=>H3=H'/\σ=[some (.int left),some (.ref r),some (.int p)]/\m=0,⟨0,Z,Z,Z⟩,?_⟩;rintro m' σ H3 ⟨rfl,rfl,rfl⟩;refine⟨_,Z,_,Z,_,_,Z,Z,(show 0<p by omega),Z,_,Z,mM (fun c=>absurd (uK c) Rb) (fun _=>?_)⟩;refine⟨_,Z,_,_,Z,Z,?_⟩;exact⟨(n+2-(p+1)).toNat,jD,sm,left,p+1,ps,Z,HX,Pt.HJ pi qe jD,jD,jD,l1,ln,jD,Z⟩
 .have:=xj c;exact⟨_,Z,q r H' ps sm xD HX (Pt.LH pi l1 jD)⟩
inductive PN (vs:List V)(H:Hp)(Q:VK)(E_:XK):Prop
 | mk (r:Addr)(a:List Int)(n:Nat)(p hole many:Int)(_:vs=[.ref r,.int p,.int hole,.int many])(_:H r=some (.lst (a.map V.int)))(_:a.length=n)(_:1<=n)(_:n<=420)(_:2<=p)(_:p∣(n:Int))(_:∀H' b,(∀c o,c≠r->H c=some o->H' c=some o)->H' r=some (.lst (b.map V.int))->b.length=n->(∀x,Ld.at' b x=Ld.at' a x+Rg.rv n (p,hole,many) x)->Q .non H')
inductive Wm (vs:List V)(H:Hp)(Q:VK)(E_:XK):Prop
 | mk (n:Nat)(p hole:Int)(st:Nat)(_:vs=[.int n,.int p,.int hole])(_:1<=n)(_:n<=420)(_:2<=p)(_:p.toNat<=n)(_:(n:Int)/p=st)(_:0<st)(_:n=p.toNat*st)(_:∀t,H t=none->Q (.ref t) (upd H t (.lst ((Ap (hole%st) st p.toNat).map V.int))))
theorem xh (T:Txt K mg CF tL tF tM):Df P w K mg base 1 "ring_holes" ["n","p","hole"] Wm:=by
 refine kN T.d_ring_holes xi fun f cdv A outer s H vs Q E hr nd h=>?_;obtain⟨n,p,hole,st,rfl,n1,n2,p2,pn,Bi,D0,Ig,q⟩:=h;have Z8:(st:Int)<=n:=by rw[<-Bi];exact b8 _ J
 have lo0:=aD hole (show (st:Int)≠0 by lia);have lo1:=az hole (show (0:Int)<st by lia);refine⟨_,(jE (j8 3 nd (jR kq (pv 0) (pv 1))) (jJ (jT (GM Z jC T.b_list jC T.b_range (jF (jR ky (pv 2) (pv 3)) (jF (pv 0) (jF (pv 3) j5))))))),?_⟩;refine⟨_,Z,_,Z,_,_,Z,Z,kK J J,?_⟩;dsimp only;rw[Bi];refine⟨_,Z,_,Z,_,_,Z,Z,(show (0:Int)<st by lia),_,Z,_,Z,_,_,_,Z,⟨lo0,J,J,J,J,J⟩,?_⟩;have cn:=Rg.FE D0 (show 0<p.toNat by lia) Ig hole;have c3:v7 (hole%(st:Int)) (n:Int) (st:Int)=p.toNat:=by unfold v7;rw[if_pos cn.1];exact cn.2
 rw[c3];exact q
theorem AA (T:Txt K mg CF tL tF tM):Df P w K mg base 2 "lay_ring" ["load","p","hole","many"] PN:=by
 refine kN T.d_lay_ring A1 fun f cdv A outer s H vs Q E hr nd h=>?_;obtain⟨r,a,n,p,hole,many,rfl,ha,la,n1,n2,p2,pd,q⟩:=h;obtain⟨st,Bi,D0,Ig,Z6⟩:=Rg.yD n1 p2 pd;have Z8:(st:Int)<=n:=by rw[<-Bi];exact b8 _ J
 refine⟨_,(jJ (kR aI Z (ki (j7 (xh T) hr (jF (nI T.b_len (pv 0)) (jF (pv 1) (jF (pv 2) j5))))) (lG 4 nd) (jJ (oY (jR kG (j9 kC (pv 0) (pv 4)) (pv 3)) (oR (pv 0) (pv 4) set_list))))),?_⟩;refine⟨_,Z,r,_,Z,.inl (jV.of ha),_,Z,_,Z,n,p,hole,st,by rw[wo la];rfl,n1,n2,p2,Z6,Bi,D0,Ig,fun t ht=>⟨t,Z,⟨_,jV.of jG⟩,?_⟩⟩;have nt:r≠t:=jX ha ht;have Z9:∀c o,c≠r->H c=some o->upd H t (.lst ((Ap (hole%st) st p.toNat).map V.int)) c=some o:=fun c o _ h=>(jW (jX h ht)).trans h;have ha0:upd H t (.lst ((Ap (hole%st) st p.toNat).map V.int)) r=some (.lst (a.map V.int)):=(jW nt).trans ha;have J4:upd H t (.lst ((Ap (hole%st) st p.toNat).map V.int)) t=some (.lst ((Ap (hole%st) st p.toNat).map V.int)):=jG;generalize upd H t (.lst ((Ap (hole%st) st p.toNat).map V.int))=H0 at Z9 ha0 J4 ⊢;have rl:((Ap (hole%st) st p.toNat).map V.int).length=p.toNat:=by unfold Ap;rw[List.length_map,List.length_map,List.length_range]
 refine mB (xs:=(Ap (hole%st) st p.toNat).map V.int) (fun i σ H2=>(∀c o,c≠r->H c=some o->H2 c=some o)/\H2 t=some (.lst ((Ap (hole%st) st p.toNat).map V.int))/\∃(b:List Int)(o1:Option V),σ=[some (.ref r),some (.int p),some (.int hole),some (.int many),o1]/\H2 r=some (.lst (b.map V.int))/\b.length=n /\
   ∀x:Int,Ld.at' b x=Ld.at' a x+(if (x-hole)%st=0/\(x%n)/st<(i:Int) then many else 0))
  ⟨Z9,J4,a,none,Z,ha0,la,Rg.lay0 J D0 hole many a⟩ (fun i σ H2 _ z=>jV.of z.2.1) ?_ ?_
 .rintro i xv σ H2 hx ⟨kp,ht2,b,o1,rfl,hb,lb,inv⟩;obtain⟨k,rfl,ek⟩:=int_at hx;have hi:i<p.toNat:=by have:=(aF.mp hx).1;rwa [rl] at this
  have Xi:k=hole%st+(i:Int)*st:=by
   unfold Ap at ek;rw[af,dh hi] at ek;exact(bI ek).symm
  subst Xi;obtain⟨y0,y1,nx⟩:=Rg.Us D0 Ig hi lb inv;refine⟨_,Z,_,Z,r,_,_,_,Z,Z,jV.of hb,At y0 J,_,Z,_,_,Z,Z,_,Z,_,Z,r,_,_,_,Z,Z,hb,pZ y0 (by rw[wo lb];exact y1),?_⟩;rw[set_int];exact⟨fun c o ne h=>(jW ne).trans (kp c o ne h),(jW (c7 nt)).trans ht2,_,_,Z,jG,by rw[cf,lb],nx⟩
 .rintro σ H2 ⟨kp,_,b,o1,rfl,hb,lb,inv⟩;rw[rl] at inv;refine q H2 b kp hb lb fun x=>?_;rw[Rg.VY D0 (show 0<p.toNat by lia) Ig inv x];unfold Rg.rv;rw[Bi]
inductive Ur (vs:List V)(H:Hp)(Q:VK)(E_:XK):Prop
 | mk (p q:Int)(_:vs=[.int p,.int q])(_:2<=p)(_:p<=10000)(_:Q (.int (q-q/p)) H)
theorem qa (T:Txt K mg CF tL tF tM):Df P w K mg base 1 "first_dropped" ["p","q"] Ur:=by
 refine kN T.d_first_dropped ut fun f cdv A outer s H vs Q E hr nd h=>?_;obtain⟨p,q,rfl,p2,pz,k⟩:=h;refine⟨_,(jJ (jT (jR mU (pv 1) (jR kq (pv 1) (pv 0))))),?_⟩;exact⟨_,Z,_,Z,_,Z,_,_,Z,Z,kK J J,_,_,Z,Z,k⟩
theorem CT {n:Nat}{ps:List (Int×Int)}{p q:Int}(hp:Pt.Parts n ps)(mem:(p,q)∈ps):2<=p/\p<=q/\q<=n:=by
 have a:=Pt.sK (hp.row _ mem);have b:=Pt.Bj ps hp.row _ mem;rw[hp.prd] at b;exact⟨a.1,a.2,b⟩
inductive Et (vs:List V)(H:Hp)(Q:VK)(E_:XK):Prop
 | mk (n:Nat)(p q:Int)(ps:List (Int×Int))(_:vs=[.int n,.int p,.int q])(_:1<=n)(_:n<=420)(_:Pt.Parts n ps)(_:(p,q)∈ps)(_:∀u r H',((n:Int)/q*u-1)%q=0->jM H H'->H r=none->H' r=some (.lst ((Rt.wP p q u n).map V.int))->Q (.ref r) H')
theorem BC (T:Txt K mg CF tL tF tM):Df P w K mg base 5 "dropped" ["n","p","q"] Et:=by
 refine kN T.d_dropped Cf fun f cdv A outer s H vs Q E hr nd h=>?_;obtain⟨n,p,q,ps,rfl,n1,n2,hp,mem,k⟩:=h;have pq:=CT hp mem;refine⟨_,(jE (j8 3 nd (j7 (v9 T) hr (ke (jR kq (pv 0) (pv 2)) (pv 2)))) (jJ (jT (m5 [("q",2),("p",1),("lead",3)] ["hole"] (mf jC T.b_range (kD (pv 0))) (fun C s H fp=>⟨(nB 3),(DJ (k7 KI (jR ky (jR ko (pv 3) (pv 2)) (pv 0)) (j7 (qa T) hr (ke (pv 1) (pv 0))))),(pv 3)⟩))))),?_⟩;refine⟨_,Z,_,Z,_,_,Z,Z,kK J J,_,Z,_,q,Z,J,J,Rs.zf hp mem,fun u HB u1 u2 hu K3=>?_⟩;have pc:=Rt.Pc.mk' n1 hp mem hu;refine⟨_,Z,_,Z,J,J,?_⟩;rw[ae];refine pI (fun i ys H2=>H2=HB/\ys=(Rt.wP p q u i).map V.int) ⟨Z,Z⟩ (fun i ys H2 hi z=>by rw[z.2,aa];have:=Rt.yW (p:=p) (q:=q) (u:=u) i;exact mD J) ?_ ?_
 .rintro i ys H2 hi ⟨rfl,rfl⟩;refine⟨_,Z,_,Z,_,_,Z,Z,nq J J,_,Z,_,_,Z,Z,(show 0<q by lia),_,Z,_,Z,p,q,Z,pq.1,J,_,_,Z,Z,_,Z,?_⟩;refine mM (fun c=>?_) (fun c=>?_)
  .have t:=(pc.zA i).mp (dec c);refine⟨_,Z,Z,?_⟩;simp only[Rt.wP];rw[aC t,aQ];rfl
  .have t:¬Rt.top p q u i=p-1:=fun z=>xj c ((pc.zA i).mpr z);refine⟨Z,?_⟩;simp only[Rt.wP];rw[ak t,gA]
 .rintro ys H2 ⟨rfl,rfl⟩ D hD;exact k u D _ hu (jK K3 hD) (K3.free hD) jG
inductive Lu (K:PySem.W.Frag)(vs:List V)(H:Hp)(Q:VK)(E_:XK):Prop
 | mk (r:Addr)(a:List Int)(n:Nat)(_:vs=[.ref r])(_:jV K H r (a.map V.int))(_:a.length=n)(_:1<=n)(_:n<=420)(_:∀t le ro H' b ps l rows,jM H H'->H t=none->H le=none->H ro=none->H' t=some (.tup [.ref le,.ref ro])->H' le=some (.lst (b.map V.int))->b.length=n->Rt.oF n ps l->(∀x,Ld.at' b x=Rt.R n l (Ld.at' a) x)->yx H' ro rows->(Rt.pM n (fun p _=>p∈ps.map Prod.fst) a b rows/\rows.length<=4000)->Q (.ref t) H')
theorem Dv (T:Txt K mg CF tL tF tM):Df P w K mg base 6 "rest" ["load"] (Lu K):=by
 refine kN T.d_rest IS fun f cdv A outer s H vs Q E hr nd h=>?_;obtain⟨r,a,n,rfl,ha,la,n1,n2,q⟩:=h;refine⟨_,(jE (j8 1 nd (nI T.b_len (pv 0))) (jE (j8 2 nd (p6 nJ jC T.b_list L2.pF (kD (pv 0)))) (jE (j8 3 nd (lD j5)) (jE (kR aI Z (ki (j7 (r8 T) hr (kD (pv 1)))) (me Z (j6 (lG 4 nd) (j6 (lG 5 nd) lC))) (jJ (kR aI Z (ki (j7 (BC T) hr (jF (pv 1) (jF (pv 4) (jF (pv 5) j5))))) (lG 6 nd) (jE (j8 7 nd (j9 kC (pv 2) (pv 6))) (jJ (kP (k7 n8 (pv 7) jH) (jE (mX (j7 (AA T) hr (jF (pv 2) (jF (pv 4) (jF (pv 6) (jF (rq oO (pv 7)) j5)))))) (jJ (mX (uV cO cK cL nw (pv 3) (kD (lI (jF (pv 4) (jF (pv 6) (jF (pv 7) j5))))))))) kh)))))) (jJ (jT (lI (ke (pv 2) (pv 3))))))))),?_⟩;refine⟨_,Z,r,_,Z,.inl ha,?_⟩;rw[wo la];refine⟨_,Z,r,_,Z,.inl ha,fun le hle=>?_⟩;refine⟨dH _,fun ro E5=>?_⟩;have Su:le≠ro:=jX jG E5;have ro0:H ro=none:=by rwa [jW (c7 Su)] at E5
 have qM:jM H (upd (upd H le (.lst (a.map V.int))) ro (.lst [])):=jK (jK (jM.refl _) hle) E5;have Sv:upd (upd H le (.lst (a.map V.int))) ro (.lst []) le=some (.lst (a.map V.int)):=(jW Su).trans jG;have xD:upd (upd H le (.lst (a.map V.int))) ro (.lst []) ro=some (.lst []):=jG;generalize upd (upd H le (.lst (a.map V.int))) ro (.lst [])=H0 at qM Sv xD ⊢;refine⟨_,Z,n,Z,J,J,fun r1 H1 ps lH f1 pa hp=>?_⟩;obtain⟨as,hl,pr⟩:=pa;have al:=e9 pr;have Bh:=Rt.xS hp n2;have n1l:r1≠le:=c7 (jX Sv f1);have n1r:r1≠ro:=c7 (jX xD f1);have kH:∀{H':Hp},(∀c o,c≠le->c≠ro->H1 c=some o->H' c=some o)->jM H H':=fun kp c o h=>kp c o (fun z=>by rw[z,hle] at h;cases h) (fun z=>by rw[z,ro0] at h;cases h) (lH _ _ (qM _ _ h));have tl:∀{x:Addr}{o:List V},H1 x=some (.tup o)->x≠le/\x≠ro:=fun e=>⟨nK e (lH _ _ Sv) (fun z=>by cases z),nK e (lH _ _ xD) (fun z=>by cases z)⟩;refine⟨r1,Z,⟨_,jV.of hl⟩,?_⟩;refine mB (xs:=as.map V.ref) (fun i σ H4=>(∀c o,c≠le->c≠ro->H1 c=some o->H4 c=some o)/\∃(b:List Int)(l:List ((Int×Int)×Int))(rows:List (Int×Int×Int))(o1 o2 o3 o4:Option V),σ=[some (.ref r),some (.int n),some (.ref le),some (.ref ro),o1,o2,o3,o4] /\
   H4 le=some (.lst (b.map V.int))/\b.length=n/\l.map Prod.fst=ps.take i/\(∀z∈l,((n:Int)/z.1.2*z.2-1)%z.1.2=0)/\(∀x,Ld.at' b x=Rt.R n l (Ld.at' a) x)/\yx H4 ro rows/\Rt.pM n (fun p _=>p∈(ps.take i).map Prod.fst) a b rows/\rows.length<=i*n)
  ⟨fun c o _ _ h=>h,a,[],[],none,none,none,none,Z,lH _ _ Sv,la,jB,jB,fun x=>Z,⟨[],lH _ _ xD,.nil⟩,Rt.rows0 a,jB⟩ (fun i σ H4 _ z=>jV.of (z.1 _ _ n1l n1r hl)) ?_ ?_
 .rintro i x σ H4 hx ⟨kp,b,l,rows,o1,o2,o3,o4,rfl,hb,lb,lm,Sw,bv,tr,rok,rl⟩;obtain⟨ad,rfl,ea⟩:=oh hx;obtain⟨⟨p,z⟩,ep,J6⟩:=kQ pr ea;have mem:(p,z)∈ps:=ah ep;have ilt:=(aF.mp ep).1;have pq:=CT hp mem;have pd:p∣(n:Int):=((Pt.n9 hp (p,z)).mp mem).2.1;have nt:=tl J6;have lpc:∀y∈l,Rt.Pc n y.1.1 y.1.2 y.2:=fun y hy=>Rt.Pc.mk' n1 hp (fX (by rw[<-lm];exact dF.mpr ⟨y,hy,Z⟩)) (Sw y hy);refine⟨ad,_,Z,kJ.of (kp _ _ nt.1 nt.2 J6),Z,_,_,Z,_,_,Z,Z,?_⟩;refine⟨_,Z,_,Z,_,Z,n,p,z,ps,Z,n1,n2,hp,mem,fun u r5 H5 hu mJ f5 h5=>⟨r5,Z,⟨_,jV.of h5⟩,?_⟩⟩;have pc:=Rt.Pc.mk' n1 hp mem hu;have Iy:Ld.uC n (Ld.at' b):=Ld.oB lb;have n5l:r5≠le:=c7 (jX hb f5);have n5r:r5≠ro:=by obtain⟨x,y,_⟩:=tr;exact Ne.symm (jX y f5)
  have zed:=Rt.yW (p:=p) (q:=z) (u:=u) n;have newp:∀x:Int,x∈(ps.take i).map Prod.fst->¬x=p:=fun x hx e=>by
   obtain⟨y,hy,ey⟩:=List.mem_map.mp hx;obtain⟨j,hj,ej⟩:=List.mem_iff_getElem.mp hy;rw[cJ] at hj;rw[gY] at ej;have pw:=cV.mp hp.srt j i J ilt J;rw[ej,(aF.mp ep).2] at pw;have:y.1<p:=pw;lia
  refine mB (xs:=(Rt.wP p z u n).map V.int) (fun j σ H6=>(∀c o,c≠le->c≠ro->H5 c=some o->H6 c=some o)/\∃(b6:List Int)(uX:List (Int×Int×Int))(o3 o4:Option V),σ=[some (.ref r),some (.int n),some (.ref le),some (.ref ro),some (.int p),some (.int z),o3,o4] /\
    H6 le=some (.lst (b6.map V.int))/\Rt.PI n p z u (Ld.at' b) j b6/\yx H6 ro uX/\Rt.pM n (fun x y=>x∈(ps.take i).map Prod.fst\/(x=p/\y∈(Rt.wP p z u n).take j)) a b6 uX/\uX.length<=i*n+j)
   ⟨fun c o _ _ h=>h,b,rows,_,_,Z,mJ _ _ hb,Rt.pi0 lb (fun _=>Z),tr.same mJ,rok.weak (fun x y h=>.inl h),J⟩ (fun j σ H6 _ y=>jV.of (y.1 _ _ n5l n5r h5)) ?_ ?_
  .rintro j xv σ H6 hxj ⟨kp6,b6,uX,o3,o4,rfl,N5,pi,Sx,Kd,rl6⟩;obtain⟨k,rfl,ek⟩:=int_at hxj;have km:=ah ek;obtain⟨k0,k1,kt⟩:=Rt.qy.mp km;have jlt:=(aF.mp ek).1;have kv:=pc.LN pi ek;refine⟨_,Z,_,Z,le,_,_,_,Z,Z,jV.of N5,At k0 (by rw[pi.len];exact k1),?_⟩;rw[kv];refine⟨_,Z,Z,_,Z,?_⟩;have wk:∀x y:Int,(x∈(ps.take i).map Prod.fst\/(x=p/\y∈(Rt.wP p z u n).take j))->(x∈(ps.take i).map Prod.fst\/(x=p/\y∈(Rt.wP p z u n).take (j+1))):=fun x y h=>h.imp id fun h=>⟨h.1,(Rt.rV ek).mpr (.inl h.2)⟩;refine mM (fun c=>?_) (fun c=>?_)
   .have mz:¬Ld.at' b k=0:=MA c;obtain⟨rs,Rh,Ri⟩:=id Sx;have rsl:=e9 Ri;refine⟨_,Z,_,Z,_,Z,_,Z,_,Z,le,b6,n,p,k,_,Z,N5,pi.len,n1,n2,pq.1,pd,fun H7 b7 kp7 Rj lb7 Rk=>?_⟩;have Sy:H7 ro=some (.lst (rs.map V.ref)):=kp7 _ _ (c7 Su) Rh;refine⟨_,Z,.inl ⟨Z,_,jV.of Sy⟩,_,Z,_,Z,_,Z,jU,fun t ht=>?_⟩;have hr8:upd H7 t (.tup [V.int p,V.int k,V.int (Ld.at' b k)]) ro=some (.lst (rs.map V.ref)):=(jW (jX Sy ht)).trans Sy;have rot:ro≠t:=jX Sy ht;refine⟨ro,_,_,Z,Z,hr8,by rw[aa,rsl];have:=cI (show i<=8 by lia) n2;exact mD J,?_⟩;have kp8:∀{c:Addr}{o:HO},c≠le->c≠ro->H6 c=some o->upd (upd H7 t (.tup [V.int p,V.int k,V.int (Ld.at' b k)])) ro (.lst (rs.map V.ref++[.ref t])) c=some o:=fun x y e=>by
     have e7:=kp7 _ _ x e;exact((jW y).trans (jW (jX e7 ht))).trans e7
    refine⟨fun c o x y h=>kp8 x y (kp6 c o x y h),b7,uX++[(p,k,Ld.at' b k)],_,_,Z,((jW Su).trans (jW (jX Rj ht))).trans Rj,pc.Yu Iy pi ek lb7 Rk,⟨rs++[t],by rw[jG,aQ];rfl,?_⟩,?_,by simp;lia⟩
    .refine ix (Paired.za Ri fun d x e=>?_) ((jW (c7 rot)).trans jG);exact kp8 (nK e N5 (fun z=>by cases z)) (nK e Rh (fun z=>by cases z)) e
    .exact Kd.snoc wk (.inr ⟨Z,(Rt.rV ek).mpr (.inr Z)⟩) (fun x y h e=>h.elim (fun h=>newp x h e.1) fun h=>Rt.vD (Rt.vB n) ek (e.2▸h.2)) k0 k1 mz Rk
   .have mz:Ld.at' b k=0:=FJ c;exact⟨kp6,b6,uX,_,_,Z,N5,pc.Uf Iy pi ek mz,Sx,Kd.weak wk,J⟩
  .rintro σ H6 ⟨kp6,b6,uX,o3,o4,rfl,N5,pi,Sx,Kd,rl6⟩;rw[aa] at pi rl6;refine⟨fun c o x y h=>kp6 c o x y (mJ _ _ (kp c o x y h)),b6,l++[((p,z),u)],uX,_,_,_,_,Z,N5,pi.len,by rw[aQ,lm,Pt.take_snoc ep];rfl,fun y hy=>?_,fun x=>?_,Sx,Kd.weak (fun x y h=>?_),?_⟩
   .rcases List.mem_append.mp hy with w | w
    .exact Sw y w
    .rw[b3.mp w];exact hu
   .rw[pc.LC pi,Rt.Cw];have:Ld.at' b=Rt.R n l (Ld.at' a):=funext bv;rw[this]
   .rw[Pt.take_snoc ep,aQ];rcases h with w | w
    .exact cD _ w
    .exact bp _ (by rw[w.1];simp)
   .rw[f9];lia
 .rintro σ H4 ⟨kp,b,l,rows,o1,o2,o3,o4,rfl,hb,lb,lm,Sw,bv,tr,rok,rl⟩;rw[aa,al,bT] at lm rok;have rl4:rows.length<=4000:=by rw[aa,al] at rl;have:=cI Bh n2;lia
  refine⟨_,Z,_,Z,jI,fun t ht=>?_⟩;have Rf:jM H4 (upd H4 t (.tup [V.ref le,V.ref ro])):=jK (jM.refl _) ht;have Iz:=kH kp;exact q t le ro _ b ps l rows (Iz.trans Rf) (Iz.free ht) hle ro0 jG (Rf _ _ hb) lb ⟨n1,hp,lm,Sw⟩ bv (tr.same Rf) ⟨rok,rl4⟩
inductive Py (vs:List V)(H:Hp)(Q:VK)(E_:XK):Prop
 | mk (n:Nat)(hole:Int)(ps:List (Int×Int))(l:List ((Int×Int)×Int))(_:vs=[.int n,.int hole])(_:1<=n)(_:n<=420)(_:Rt.oF n ps l)(_:∀H',jM H H'->Q (.bl (decide (Rt.Kp l hole))) H')
theorem vG (T:Txt K mg CF tL tF tM):Df P w K mg base 6 "is_kept" ["n","hole"] Py:=by
 refine kN T.d_is_kept BW fun f cdv A outer s H vs Q E hr nd h=>?_;obtain⟨n,hole,ps,l,rfl,n1,n2,p5,q⟩:=h;refine⟨_,(jJ (jT (kE (r9 Z) jC T.b_all L2.yz (kD (m5 [("n",0),("hole",1)] ["p","q"] (ki (j7 (r8 T) hr (kD (pv 0)))) (fun C s H fp=>⟨(tH 2 3),kd,(nZ Di (j7 (Ao T) hr (jF (pv 0) (jF (pv 3) (jF (pv 1) j5)))) (j7 (qa T) hr (ke (pv 2) (pv 3))) (oZ _))⟩)))))),?_⟩;refine⟨_,Z,_,Z,J,J,fun r1 H1 E8 lH f1 pa E9=>?_⟩;have Nt:=Pt.oE E9 p5.hp;subst Nt;obtain⟨as,hl,pr⟩:=pa;have al:=e9 pr;have lp:(E8.length:Int)<=n:=Rs.EM E9;have ll:l.length=E8.length:=by have:=cU List.length p5.map;rwa [aa] at this
 refine⟨r1,Z,⟨_,jV.of hl⟩,?_⟩;refine oG (K:=K) (xs:=as.map V.ref) (fun i ys H2=>jM H1 H2/\ys=((l.take i).map fun z=>decide ¬Rt.top z.1.1 z.1.2 z.2 hole=z.1.1-1).map V.bl) ⟨jM.refl _,jB⟩ (fun i ys H2 _ z=>z.1.seq (jV.of hl))
  (fun i ys H2 hi z=>by rw[aa] at hi;rw[z.2];simp only[List.length_map,List.length_take];exact mD J) ?_ ?_
 .rintro i x ys H2 hx ⟨lE,rfl⟩;obtain⟨ad,rfl,ea⟩:=oh hx;obtain⟨⟨p,z⟩,ep,ha⟩:=kQ pr ea;have mem:(p,z)∈E8:=ah ep;have pq:=CT E9 mem;have hi:i<l.length:=by rw[ll];exact(aF.mp ep).1
  have el:l[i]?=some l[i]:=aA hi;have e1:l[i].1=(p,z):=by
   have:(l.map Prod.fst)[i]?=some l[i].1:=by rw[af,el];rfl
   rw[p5.map,ep] at this;exact(bI this).symm
  have Nu:=p5.pc (cm hi);have N6:=p5.le _ (cm hi);generalize l[i]=zz at *;obtain⟨z1,u⟩:=zz;dsimp only at e1;subst e1;dsimp only at Nu N6;refine⟨ad,_,Z,kJ.of (lE _ _ ha),Z,_,_,Z,_,_,Z,Z,?_⟩;refine⟨_,Z,_,Z,_,Z,n,z,hole,E8,p,Z,J,J,E9,mem,fun c H3 sh kT=>?_⟩;refine⟨_,Z,_,Z,p,z,Z,pq.1,J,?_⟩;have ec:c=hole*u%z:=Rs.y7 (Rs.tQ E9 mem) sh (Rs.wj (by show 0<z;lia) N6) zfQ;have Yc:=Nu.zA hole;refine⟨_,_,Z,Z,lE.trans kT,?_⟩;rw[Pt.take_snoc el,aQ,aQ,ge,ge];congr 2;show V.bl (decide (c<z-z/p))=V.bl (decide ¬Rt.top p z u hole=p-1)
  congr 1;rw[eO,fG,fG,<-Yc,ec];lia
 .rintro ys H2 ⟨lE,rfl⟩ D hD;rw[aa,al,<-ll,bT];refine⟨D,_,Z,jV.of jG,?_⟩;have e:((l.map fun z=>decide ¬Rt.top z.1.1 z.1.2 z.2 hole=z.1.1-1).all id)=decide (Rt.Kp l hole):=by
   rw[eO,dC,fG];unfold Rt.Kp;constructor
   .intro a z hz;exact eT (a _ (dF.mpr ⟨z,hz,rfl⟩))
   .intro a b hb;obtain⟨z,hz,ez⟩:=List.mem_map.mp hb;rw[<-ez];exact b9 (a z hz)
  rw[e];exact q _ (jK (lH.trans lE) hD)
inductive Ji (vs:List V)(H:Hp)(Q:VK)(E_:XK):Prop
 | mk (p c:Int)(q:Nat)(_:vs=[.int p,.int q,.int c])(_:2<=p)(_:p<=q)(_:q<=420)(_:1<=(q:Int)/p)(_:0<=c)(_:c<q)(_:∀t H' F,jM H H'->H' t=some (.lst (F.map V.int))->F.length=q->(∀i:Int,0<=i->i<q->Ld.at' F i=if i=(q:Int)-q/p+c%(q/p) then -1 else if i=c then 1 else 0)->Q (.ref t) H')
theorem uO (T:Txt K mg CF tL tF tM):Df P w K mg base 1 "part_weighing" ["p","q","kept_share"] Ji:=by
 refine kN T.d_part_weighing uu fun f cdv A outer s H vs Q E hr nd h=>?_;obtain⟨p,c,n,rfl,p2,pn,n2,m1,c0,c1,q⟩:=h;have mq:(n:Int)/p<=n:=b8 _ J;have l0:=aD c (show (n:Int)/p≠0 by lia);have l1:=az c (show 0<(n:Int)/p by lia);refine⟨_,(jE (j8 3 nd (jR kq (pv 1) (pv 0))) (jE (j8 4 nd (jR oS (lD (kD jH)) (pv 1))) (jE (oY jH (oR (pv 4) (pv 2) set_list)) (jE (oY (rq oO jH) (oR (pv 4) (jR kG (jR mU (pv 1) (pv 3)) (jR ky (pv 2) (pv 3))) set_list)) (jJ (jT (pv 4))))))),?_⟩;refine⟨_,Z,_,Z,_,_,Z,Z,kK J J,?_⟩;refine⟨jL,fun l hl=>⟨_,Z,l,_,_,Z,Z,jG,jD,jD,(by show 1*_<=_;exact mW jD),fun du Le=>?_⟩⟩;rw[rep0];have Rl:l≠du:=jX jG Le;have IB:H du=none:=by rwa [jW (c7 Rl)] at Le
 have qM:jM H (upd (upd H l (.lst [V.int 0])) du (.lst ((List.replicate n (0:Int)).map V.int))):=ku (ku (jM.refl H) hl) IB;have Lg:upd (upd H l (.lst [V.int 0])) du (.lst ((List.replicate n (0:Int)).map V.int)) du=some (.lst ((List.replicate n (0:Int)).map V.int)):=jG;generalize upd (upd H l (.lst [V.int 0])) du (.lst ((List.replicate n (0:Int)).map V.int))=H0 at qM Lg ⊢;refine⟨_,Z,_,Z,du,_,_,_,Z,Z,Lg,pZ c0 (by rw[wo (aR)];exact c1),?_⟩;rw[set_int];have lH:jM H (upd H0 du (.lst (((List.replicate n (0:Int)).set c.toNat 1).map V.int))):=ku qM IB;have hd1:upd H0 du (.lst (((List.replicate n (0:Int)).set c.toNat 1).map V.int)) du=some (.lst (((List.replicate n (0:Int)).set c.toNat 1).map V.int)):=jG;generalize upd H0 du (.lst (((List.replicate n (0:Int)).set c.toNat 1).map V.int))=H1 at lH hd1 ⊢;have Yd:((List.replicate n (0:Int)).set c.toNat 1).length=n:=by rw[cf,aR]
 refine⟨_,Z,_,Z,_,Z,_,Z,_,_,Z,Z,_,Z,_,Z,_,_,Z,Z,(show 0<(n:Int)/p by lia),_,_,Z,Z,du,_,_,_,Z,Z,hd1,pZ J (by rw[wo Yd];lia),?_⟩;rw[set_int];refine⟨_,Z,q du _ _ (ku lH IB) jG (by rw[cf,Yd]) fun i i0 i1=>?_⟩;have e1:((n:Int)-n/p+c%(n/p)).toNat=(((n:Int)-n/p+c%(n/p))%n).toNat:=by rw[aU (a:=(n:Int)-n/p+c%(n/p)) (b:=(n:Int)) J J]
 have e2:c.toNat=(c%n).toNat:=by rw[aU c0 c1]
 rw[e1,Ld.yJ Yd J,e2,Ld.yJ (aR) J,Ld.GZ,aU i0 i1,aU c0 c1,aU (show 0<=(n:Int)-n/p+c%(n/p) by lia) J]
inductive Ca (vs:List V)(H:Hp)(Q:VK)(E_:XK):Prop
 | mk (n:Nat)(hole:Int)(ps:List (Int×Int))(l:List ((Int×Int)×Int))(_:vs=[.int n,.int hole])(_:1<=n)(_:n<=420)(_:Rt.oF n ps l)(_:Rt.Kp l hole)(_:∀t H' W,jM H H'->H t=none->H' t=some (.lst (W.map V.int))->W.length=n->(∀k:Nat,k<n->Ld.at' W k=Rt.V l hole k)->Q (.ref t) H')
theorem uW (T:Txt K mg CF tL tF tM):Df P w K mg base 7 "weighing" ["n","hole"] Ca:=by
 refine kN T.d_weighing Ba fun f cdv A outer s H vs Q E hr nd h=>?_;obtain⟨n,hole,ps,l,rfl,n1,n2,p5,kpt,q⟩:=h;refine⟨_,(jE (kP (mZ (mT (j7 (vG T) hr (ke (pv 0) (pv 1))))) (jJ wb) kh) (jE (j8 2 nd (jR oS (lD (kD jH)) (pv 0))) (jE (kR aI Z (ki (j7 (r8 T) hr (kD (pv 0)))) (me Z (j6 (lG 3 nd) (j6 (lG 4 nd) lC))) (jE (j8 5 nd (j7 (uO T) hr (jF (pv 3) (jF (pv 4) (jF (j7 (Ao T) hr (jF (pv 0) (jF (pv 4) (jF (pv 1) j5)))) j5))))) (jE (j8 6 nd (j7 (v9 T) hr (ke (jR kq (pv 0) (pv 4)) (pv 4)))) (jJ (sM 2 [("factors",5),("q",4),("lead",6)] ["k","number"] nd (oy jC T.b_enumerate (kD (pv 2))) (fun C s H fp=>⟨(tH 3 4),kd,(jR ko (pv 4) (j9 (oU (K:=K) Z) (pv 0) (jR ky (jR ko (pv 3) (pv 2)) (pv 1))))⟩)))))) (jJ (jT (pv 2)))))),?_⟩;refine⟨_,Z,_,Z,n,hole,ps,l,Z,n1,n2,p5,fun HK Ye=>?_⟩;rw[b9 kpt];refine⟨true,Z,yt ?_⟩;refine⟨jL,fun lo wX=>⟨_,Z,lo,_,_,Z,Z,jG,J,J,zfO,fun du Le=>?_⟩⟩;rw[rep1];have Rl:lo≠du:=jX jG Le;have IB:HK du=none:=by rwa [jW (c7 Rl)] at Le
 have qM:jM HK (upd (upd HK lo (.lst [V.int 1])) du (.lst ((List.replicate n (1:Int)).map V.int))):=ku (ku (jM.refl HK) wX) IB;have Lg:upd (upd HK lo (.lst [V.int 1])) du (.lst ((List.replicate n (1:Int)).map V.int)) du=some (.lst ((List.replicate n (1:Int)).map V.int)):=jG;generalize upd (upd HK lo (.lst [V.int 1])) du (.lst ((List.replicate n (1:Int)).map V.int))=H0 at qM Lg ⊢;refine⟨_,Z,_,Z,J,J,fun r1 H1 E8 lH f1 pa E9=>?_⟩;have Nt:=Pt.oE E9 p5.hp;subst Nt;obtain⟨as,hl,pr⟩:=pa;have al:=e9 pr;have ll:l.length=E8.length:=by have:=cU List.length p5.map;rwa [aa] at this
 have fdu:H du=none:=Ye.free IB;refine⟨r1,Z,⟨_,jV.of hl⟩,?_⟩;refine mB (xs:=as.map V.ref) (fun i σ H4=>jM H1 H4/\∃(ou:Addr)(b:List Int)(o1 o2 o3 o4:Option V),σ=[some (.int n),some (.int hole),some (.ref ou),o1,o2,o3,o4]/\H ou=none/\H4 ou=some (.lst (b.map V.int))/\b.length=n/\∀k:Nat,k<n->Ld.at' b k=Rt.V (l.take i) hole k)
  ⟨jM.refl _,du,List.replicate n 1,none,none,none,none,Z,fdu,lH _ _ Lg,jB,fun k hk=>Ld.pK (by rw[List.getElem?_replicate,if_pos hk];rfl)⟩ (fun i σ H4 _ z=>z.1.seq (jV.of hl)) ?_ ?_
 .rintro i x σ H4 hx ⟨lZ,ou,b,o1,o2,o3,o4,rfl,fou,hb,lb,inv⟩;obtain⟨ad,rfl,ea⟩:=oh hx;obtain⟨⟨p,z⟩,ep,ha⟩:=kQ pr ea;have mem:(p,z)∈E8:=ah ep;have pq:=CT E9 mem;have hi:i<l.length:=by rw[ll];exact(aF.mp ep).1
  have el:l[i]?=some l[i]:=aA hi;have e1:l[i].1=(p,z):=by
   have:(l.map Prod.fst)[i]?=some l[i].1:=by rw[af,el];rfl
   rw[p5.map,ep] at this;exact(bI this).symm
  have Nu:=p5.pc (cm hi);have N6:=p5.le _ (cm hi);have kpz:=kpt _ (cm hi);generalize l[i]=zz at *;obtain⟨z1,u⟩:=zz;dsimp only at e1;subst e1;dsimp only at Nu N6 kpz;obtain⟨m,em,EW,m1⟩:=Nu.m;have Yg:jM H H4:=((Ye.trans qM).trans lH).trans lZ;refine⟨ad,_,Z,kJ.of (lZ _ _ ha),Z,_,_,Z,_,_,Z,Z,?_⟩;refine⟨_,Z,_,Z,_,Z,_,Z,_,Z,n,z,hole,E8,p,Z,J,J,E9,mem,fun c H5 sh mJ=>?_⟩;have ec:c=hole*u%z:=Rs.y7 (Rs.tQ E9 mem) sh (Rs.wj (by show 0<z;lia) N6) zfQ;have cb:=Nu.ON hole;have ez:z=((z.toNat:Nat):Int):=J;refine⟨p,c,z.toNat,by rw[<-ez];rfl,pq.1,J,J,by rw[<-ez,EW];exact m1,J,J,fun ft H6 F qZ h6 lF hF=>?_⟩;rw[<-ez] at hF;refine⟨_,Z,_,Z,_,_,Z,Z,kK J J,_,Z,_,z,Z,J,J,Rs.zf E9 mem,fun v H7 v1 v2 hv yp=>?_⟩;have Nv:jM H4 H7:=(mJ.trans qZ).trans yp;have Rj:=Nv _ _ hb;have h67:=yp _ _ h6;refine⟨_,Z,ou,Z,⟨_,jV.of Rj⟩,?_⟩;refine xN (K:=K) (xs:=b.map V.int) (fun j rs H8=>jM H7 H8/\rs=((List.range j).map fun (k:Nat)=>Rt.V (l.take (i+1)) hole k).map V.int) ⟨jM.refl _,Z⟩ (fun j rs H8 _ z=>z.1.seq (jV.of Rj))
   (fun j rs H8 hj z=>by rw[aa] at hj;rw[z.2];simp only[List.length_map,List.length_range];exact mD J) ?_ ?_
  .rintro j xv rs H8 t hx ⟨Aa,rfl⟩ ht;obtain⟨w',rfl,hw⟩:=int_at hx;have ew:Ld.at' b j=w':=Ld.pK hw;have hj:j<n:=by rw[<-lb];exact(aF.mp hw).1
   have wv:=inv j hj;rw[ew] at wv;have vc:=Rt.vz (l.take i) hole j;refine⟨t,_,Z,kJ.of jG,Z,_,_,Z,_,_,Z,Z,?_⟩;have kb:=aD ((j:Int)*v) (show z≠0 by lia);have kb':=az ((j:Int)*v) (show 0<z by lia);have lv:(j:Int)*v%z=(j:Int)*u%z:=Rt.IZ E9 mem hv N6 j;refine⟨_,Z,_,Z,_,Z,_,Z,_,_,Z,Z,nq J J,_,Z,_,_,Z,Z,(show 0<z by lia),ft,_,_,_,Z,Z,jV.of ((jW (jX (Aa _ _ h67) ht)).trans (Aa _ _ h67)),At kb (by show (j:Int)*v%z<_;lia),_,_,Z,Z,nq J J,?_⟩;refine⟨jK Aa ht,?_⟩;rw[jt,aQ,aQ,ge,ge];congr 2;show V.int (w'*Ld.at' F ((j:Int)*v%z))=_
   rw[hF _ kb kb',lv,ec,Nu.MP kpz j,wv,Pt.take_snoc el,Rt.BE]
  .rintro rs H8 ⟨Aa,rfl⟩ D hD;rw[aa,lb];have smD:jM H4 (upd H8 D (.lst (((List.range n).map fun (k:Nat)=>Rt.V (l.take (i+1)) hole k).map V.int))):=jK (Nv.trans Aa) hD;refine⟨lZ.trans smD,D,_,_,_,_,_,Z,Yg.free ((Nv.trans Aa).free hD),jG,jB,fun k hk=>?_⟩;exact Ld.pK (by rw[af,dh hk];rfl)
 .rintro σ H4 ⟨lZ,ou,b,o1,o2,o3,o4,rfl,fou,hb,lb,inv⟩;rw[aa,al,<-ll,bT] at inv;exact⟨_,Z,q ou H4 b (((Ye.trans qM).trans lH).trans lZ) fou hb lb inv⟩
inductive IR (K:PySem.W.Frag)(vs:List V)(H:Hp)(Q:VK)(E_:XK):Prop
 | mk (r:Addr)(a:List Int)(n:Nat)(ps:List (Int×Int))(l:List ((Int×Int)×Int))(_:vs=[.ref r])(_:jV K H r (a.map V.int))(_:a.length=n)(_:1<=n)(_:n<=420)(_:Rt.oF n ps l)(_:Rt.Zn n l (Ld.at' a)->∀t ro H' rows,jM H H'->H t=none->H ro=none->H' t=some (.tup [.str "even",.ref ro])->yx H' ro rows->rows.length<=4000->(rows.map fun t=>(t.1,t.2.1)).Nodup->(∀t∈rows,t.1∈ps.map Prod.fst/\0<=t.2.1/\t.2.1<n/\¬t.2.2=0)->(∀x,Ld.at' a x=Rg.BI n rows x)->Q (.ref t) H')(_:¬Rt.Zn n l (Ld.at' a)->∀t wt H' W hole,jM H H'->H t=none->H wt=none->H' t=some (.tup [.str "uneven",.ref wt])->H' wt=some (.lst (W.map V.int))->W.length=n->Rt.Kp l hole->¬Rt.R n l (Ld.at' a) hole=0->(∀k:Nat,k<n->Ld.at' W k=Rt.V l hole k)->Q (.ref t) H')
theorem Ha (T:Txt K mg CF tL tF tM):Df P w K mg base 8 "paper" ["load"] (IR K):=by
 refine kN T.d_paper GF fun f cdv A outer s H vs Q E hr nd h=>?_;obtain⟨r,a,n,ps,l,rfl,ha,la,n1,n2,p5,qe,qu⟩:=h;refine⟨_,(jE (j8 1 nd (j7 (Dv T) hr (kD (pv 0)))) (jE (kR aI Z (oy jC T.b_enumerate (kD (j9 jZ (pv 1) jH))) (me Z (j6 (lG 2 nd) (j6 (lG 3 nd) lC))) (jJ (kP (k7 n8 (pv 3) jH) (jJ (jT (lI (ke oa (j7 (uW T) hr (ke (nI T.b_len (pv 0)) (pv 2))))))) kh))) (jJ (jT (lI (ke oa (j9 jZ (pv 1) jH))))))),?_⟩;refine⟨_,Z,r,a,n,Z,ha,la,n1,n2,fun t le ro H1 b Xu l' rows lH ft fl fr ht hb lb Ke bv tr rok=>?_⟩;have f0:lY [V.ref le,V.ref ro] 0=some (.ref le):=Z;have f1:lY [V.ref le,V.ref ro] 1=some (.ref ro):=Z;have Nx:∀x,Ld.at' b x=Rt.R n l (Ld.at' a) x:=fun x=>by rw[bv,Ke.one p5]
 have Iy:Ld.uC n (Ld.at' b):=Ld.oB lb;refine⟨_,Z,t,_,_,_,Z,Z,kJ.of ht,f0,le,Z,⟨_,jV.of hb⟩,?_⟩;refine oK (K:=K) (xs:=b.map V.int) (fun i σ H2=>jM H1 H2/\(∀k:Nat,k<i->Ld.at' b k=0)/\∃(o1 o2:Option V),σ=[some (.ref r),some (.ref t),o1,o2]) ⟨jM.refl _,fun k hk=>by lia,none,none,Z⟩ (fun i σ H2 _ z=>z.1.seq (jV.of hb)) ?_ ?_
 .rintro i xv σ H2 p hx ⟨lE,zs,o1,o2,rfl⟩ hp;obtain⟨u,rfl,hu⟩:=int_at hx;have eu:Ld.at' b i=u:=Ld.pK hu;have ilt:i<n:=by rw[<-lb];exact(aF.mp hu).1
  refine⟨p,_,Z,kJ.of jG,Z,_,_,Z,_,_,Z,Z,?_⟩;have kT:jM H2 (upd H2 p (.tup [.int i,.int u])):=jK (jM.refl _) hp;generalize upd H2 p (.tup [.int i,.int u])=H3 at kT ⊢;refine⟨_,Z,Z,_,Z,mM (fun c=>?_) (fun c=>?_)⟩
  .have nz:¬u=0:=MA c;have kp:Rt.Kp l i:=fun z hz tz=>nz (by rw[<-eu,Nx,p5.drop hz _ _ tz]);have J7:=(lH.trans lE).trans kT;refine⟨_,Z,r,_,Z,.inl (J7.seq ha),_,Z,n,i,ps,l,by rw[wo la];rfl,n1,n2,p5,kp,fun wt H4 W lZ f4 h4 lW Wv=>⟨jI,fun tt qj=>?_⟩⟩;have J5:jM H4 (upd H4 tt (.tup [.str "uneven",.ref wt])):=jK (jM.refl _) qj;exact qu (fun z=>nz (by rw[<-eu,Nx,z])) tt wt _ W i ((J7.trans lZ).trans J5) ((J7.trans lZ).free qj) (J7.free f4) jG (J5 _ _ h4) lW kp (by rw[<-Nx,eu];exact nz) Wv
  .have z0:u=0:=FJ c;refine⟨lE.trans kT,fun k hk=>?_,_,_,Z⟩;rcases Nat.lt_or_ge k i with g | g
   .exact zs k g
   .have:k=i:=J;rw[this,eu,z0]
 .rintro σ H2 ⟨lE,zs,o1,o2,rfl⟩;rw[aa,lb] at zs;have zn:Rt.Zn n l (Ld.at' a):=fun x=>by
   rw[<-Nx,<-Iy.md];have x0:=aD x (show (n:Int)≠0 by lia);have x1:=az x (show 0<(n:Int) by lia);have:=zs (x%n).toNat J;rwa [bU x0] at this
  refine⟨_,Z,t,_,_,_,Z,Z,kJ.of (lE _ _ ht),f1,jI,fun tt qj=>?_⟩;have J5:jM H2 (upd H2 tt (.tup [.str "even",.ref ro])):=jK (jM.refl _) qj;have ep:=Pt.oE Ke.hp p5.hp;exact qe zn tt ro _ rows ((lH.trans lE).trans J5) ((lH.trans lE).free qj) fr jG ((tr.same lE).same J5) rok.2 rok.1.nd (fun t ht=>by rw[<-ep];exact rok.1.ok t ht) fun x=>by
   rw[rok.1.eq x,Nx x,zn x,dD]
inductive LY (vs:List V)(H:Hp)(Q:VK)(E_:XK):Prop
 | mk (n:Nat)(ps:List (Int×Int))(l:List ((Int×Int)×Int))(_:vs=[.int n])(_:1<=n)(_:n<=420)(_:Rt.oF n ps l)(_:∀t H',jM H H'->H' t=some (.lst ((Rt.om n l).map V.int))->Q (.ref t) H')
theorem Gs (i:Nat)(l:List ((Int×Int)×Int)):Rt.om (i+1) l=Rt.om i l++(if Rt.Kp l i then [(i:Int)] else []):=by
 unfold Rt.om;have e:Rt.hs (i+1)=Rt.hs i++[(i:Int)]:=by unfold Rt.hs;rw[List.range_succ,List.map_append];rfl
 rw[e,List.filter_append];congr 1
 by_cases c:Rt.Kp l i
 .rw[aC c,jr,aC (b9 c)];rfl
 .rw[ak c,jr,ak (by rw[fG];exact c)];rfl
theorem JJ (T:Txt K mg CF tL tF tM):Df P w K mg base 7 "kept" ["n"] LY:=by
 refine kN T.d_kept IG fun f cdv A outer s H vs Q E hr nd h=>?_;obtain⟨n,ps,l,rfl,n1,n2,p5,q⟩:=h;refine⟨_,(jJ (jT (m5 [("n",0)] ["hole"] (mf jC T.b_range (kD (pv 0))) (fun C s H fp=>⟨(nB 1),(DJ (mT (j7 (vG T) hr (ke (pv 0) (pv 1))))),(pv 1)⟩)))),?_⟩;refine⟨_,Z,_,Z,jD,jD,?_⟩;rw[ae];refine pI (fun i ys H2=>jM H H2/\ys=(Rt.om i l).map V.int) ⟨jM.refl _,Z⟩ (fun i ys H2 hi z=>by rw[z.2,aa];have:=Rt.tW i l;exact mD jD) ?_ ?_
 .rintro i ys H2 hi ⟨sm,rfl⟩;refine⟨_,Z,_,Z,n,i,ps,l,Z,n1,n2,p5,fun H3 kT=>⟨_,Z,?_⟩⟩;rw[Gs];refine mM (fun c=>?_) (fun c=>?_)
  .have c':=eT c;refine⟨_,Z,sm.trans kT,?_⟩;rw[aC c',aQ];rfl
  .have c':¬Rt.Kp l i:=fun z=>c (b9 z);refine⟨sm.trans kT,?_⟩;rw[ak c',gA]
 .rintro ys H2 ⟨sm,rfl⟩ D hD;exact q D _ (jK sm hD) jG
inductive MJ (K:PySem.W.Frag)(vs:List V)(H:Hp)(Q:VK)(E_:XK):Prop
 | mk (r s:Addr)(a b:List Int)(_:vs=[.ref r,.ref s])(_:jV K H r (a.map V.int))(_:jV K H s (b.map V.int))(_:a.length=b.length)(_:a.length<=420)(_:∀t H',jM H H'->H t=none->H' t=some (.lst ((Ld.plus a b).map V.int))->Q (.ref t) H')
theorem Jn (T:Txt K mg CF tL tF tM):Df P w K mg base 2 "plus" ["one","other"] (MJ K):=by
 refine kN T.d_plus IX fun f cdv A outer s H vs Q E hr nd h=>?_;obtain⟨r,s',a,b,rfl,ha,hb,e,hz,q⟩:=h;refine⟨_,(jE (mX (j7 (qB T) hr (ke (pv 0) (pv 1)))) (jJ (jT (m5 [] ["weight","more"] (nF jC T.b_zip (ke (pv 0) (pv 1))) (fun C s H fp=>⟨(tH 0 1),kd,(jR kG (pv 0) (pv 1))⟩))))),?_⟩;refine⟨_,Z,_,Z,r,s',_,_,Z,ha,hb,by rw[aa,aa,e],?_⟩;refine⟨_,Z,_,Z,r,s',Z,⟨_,ha⟩,⟨_,hb⟩,?_⟩;have pl:=Ld.oW e;refine vV (K:=K) (xs:=a.map V.int) (ys:=b.map V.int) (by rw[aa,aa,e]) (fun i rs H2=>jM H H2/\rs=((Ld.plus a b).take i).map V.int) ⟨jM.refl H,jB⟩ (fun i rs H2 _ z=>⟨z.1.seq ha,z.1.seq hb⟩)
  (fun i rs H2 hi z=>by rw[aa] at hi;rw[z.2];simp only[List.length_map,List.length_take];exact mD jD) ?_ ?_
 .rintro i x y rs H2 p hx hy ⟨sm,rfl⟩ hp;obtain⟨u,rfl,hu⟩:=int_at hx;obtain⟨v,rfl,hv⟩:=int_at hy;refine⟨p,_,Z,kJ.of jG,Z,_,_,Z,_,_,Z,Z,?_⟩;refine⟨_,Z,_,Z,_,_,Z,Z,jK sm hp,?_⟩;rw[mV (v:=u+v)];unfold Ld.plus;rw[bY,hu,hv]
 .rintro rs H2 ⟨sm,rfl⟩ D hD;rw[nH (by rw[pl,aa])];exact q D _ (jK sm hD) (sm.free hD) jG
inductive Gn (K:PySem.W.Frag)(vs:List V)(H:Hp)(Q:VK)(E_:XK):Prop
 | mk (r:Addr)(a:List Int)(m:Int)(_:vs=[.ref r,.int m])(_:jV K H r (a.map V.int))(_:a.length<=420)(_:∀x∈a,IntMulOk x m)(_:∀t H',jM H H'->H t=none->H' t=some (.lst ((Ld.scaled a m).map V.int))->Q (.ref t) H')
theorem xF (T:Txt K mg CF tL tF tM):Df P w K mg base 1 "scaled" ["load","many"] (Gn K):=by
 refine kN T.d_scaled Ec fun f cdv A outer s H vs Q E hr nd h=>?_;obtain⟨r,a,m,rfl,ha,hz,hm,q⟩:=h;refine⟨_,(jJ (jT (m5 [("many",1)] ["weight"] (ki (pv 0)) (fun C s H fp=>⟨(nB 1),kd,(jR ko (pv 1) (pv 0))⟩)))),?_⟩;refine⟨_,Z,r,Z,⟨_,ha⟩,?_⟩;refine oG (K:=K) (xs:=a.map V.int) (fun i rs H2=>H2=H/\rs=((Ld.scaled a m).take i).map V.int) ⟨Z,jB⟩ (fun i rs H2 _ z=>by rw[z.1];exact ha)
  (fun i rs H2 hi z=>by rw[aa] at hi;rw[z.2];simp only[List.length_map,List.length_take];exact mD jD) ?_ ?_
 .rintro i x rs H2 hx ⟨rfl,rfl⟩;obtain⟨u,rfl,hu⟩:=int_at hx;refine⟨_,Z,_,Z,_,_,Z,Z,hm u (ah hu),Z,?_⟩;rw[mV (v:=u*m)];unfold Ld.scaled;rw[af,hu];rfl
 .rintro rs H2 ⟨rfl,rfl⟩ D hD;rw[nH (by rw[Ld.sT,aa])];exact q D _ (jK (jM.refl _) hD) hD jG
inductive JE (vs:List V)(H:Hp)(Q:VK)(E_:XK):Prop
 | mk (r:Addr)(n:Nat)(rows:List (Int×Int×Int))(ps:List (Int×Int))(_:vs=[.int n,.ref r])(_:1<=n)(_:n<=420)(_:yx H r rows)(_:Pt.Parts n ps)(_:∀x∈rows,x.1∈ps.map Prod.fst/\0<=x.2.1/\x.2.1<n)(_:∀t H' b,jM H H'->H t=none->H' t=some (.lst (b.map V.int))->b.length=n->(∀x,Ld.at' b x=Rg.BI n rows x)->Q (.ref t) H')
theorem Aq (T:Txt K mg CF tL tF tM):Df P w K mg base 1 "_law_laid" ["n","rows"] JE:=by
 refine kN T.d_law_laid Ak fun f cdv A outer s H vs Q E hr nd h=>?_;obtain⟨r,n,rows,ps,rfl,n1,n2,tr,hp,rok,q⟩:=h;refine⟨_,(jE (j8 2 nd (jR oS (lD (kD jH)) (pv 0))) (jE (kR aI Z (ki (pv 1)) (me Z (j6 (lG 3 nd) (j6 (lG 4 nd) (j6 (lG 5 nd) lC)))) (jJ (kR aI Z (mf jC T.b_range (kD (pv 3))) (lG 6 nd) (jE (j8 7 nd (jR ky (jR kG (pv 4) (jR ko (pv 6) (jR kq (pv 0) (pv 3)))) (pv 0))) (jJ (oY (jR kG (j9 kC (pv 2) (pv 7)) (pv 5)) (oR (pv 2) (pv 7) set_list))))))) (jJ (jT (pv 2))))),?_⟩;refine⟨jL,fun l hl=>⟨_,Z,l,_,_,Z,Z,jG,jD,jD,(by show 1*_<=_;exact mW jD),fun du Le=>?_⟩⟩;rw[rep0];have Rl:l≠du:=jX jG Le;have IB:H du=none:=by rwa [jW (c7 Rl)] at Le
 have qM:jM H (upd (upd H l (.lst [V.int 0])) du (.lst ((List.replicate n (0:Int)).map V.int))):=ku (ku (jM.refl H) hl) IB;have Lg:upd (upd H l (.lst [V.int 0])) du (.lst ((List.replicate n (0:Int)).map V.int)) du=some (.lst ((List.replicate n (0:Int)).map V.int)):=jG;generalize upd (upd H l (.lst [V.int 0])) du (.lst ((List.replicate n (0:Int)).map V.int))=H0 at qM Lg ⊢;obtain⟨rs,Rh,Ri⟩:=tr;have rl:=e9 Ri;refine⟨_,Z,r,Z,⟨_,qM.seq (jV.of (K:=K) Rh)⟩,?_⟩;refine mB (xs:=rs.map V.ref) (fun i σ H4=>jM H H4/\∃(b:List Int)(o1 o2 o3 o4 o5:Option V),σ=[some (.int n),some (.ref r),some (.ref du),o1,o2,o3,o4,o5]/\H4 du=some (.lst (b.map V.int))/\b.length=n/\∀x,Ld.at' b x=Rg.BI n (rows.take i) x)
  ⟨qM,List.replicate n 0,none,none,none,none,none,Z,Lg,jB,fun x=>by rw[List.take_zero,Ld.GZ];unfold Rg.BI;simp⟩ (fun i σ H4 _ z=>z.1.seq (jV.of Rh)) ?_ ?_
 .rintro i x σ H4 hx ⟨lZ,b,o1,o2,o3,o4,o5,rfl,hb,lb,inv⟩;obtain⟨ad,rfl,ea⟩:=oh hx;obtain⟨⟨p,hole,many⟩,ep,ha⟩:=kQ Ri ea;obtain⟨c,h0,hn⟩:=rok _ (List.mem_of_getElem? ep);dsimp only at c h0 hn;obtain⟨y,hy,ey⟩:=List.mem_map.mp c;have pd:p∣(n:Int):=by rw[<-ey];exact((Pt.n9 hp y).mp hy).2.1
  have p2:2<=p:=by rw[<-ey];exact(hp.row y hy).pr.1
  have pn:=aT J pd;obtain⟨st,Bi,D0,Ig,_⟩:=Rg.yD n1 p2 pd;refine⟨ad,_,Z,kJ.of (lZ _ _ ha),Z,_,_,Z,_,_,Z,_,_,Z,Z,?_⟩;refine⟨_,Z,_,Z,J,J,?_⟩;refine oP (fun k σ H5=>jM H H5/\∃(b':List Int)(o4 o5:Option V),σ=[some (.int n),some (.ref r),some (.ref du),some (.int p),some (.int hole),some (.int many),o4,o5]/\H5 du=some (.lst (b'.map V.int))/\b'.length=n /\
    ∀x:Int,Ld.at' b' x=Ld.at' b x+(if (x-hole)%st=0/\((x-hole)%n)/st<(k:Int) then many else 0))
   ⟨lZ,b,_,_,Z,hb,lb,Rg.VO J D0 hole many b⟩ ?_ ?_
  .rintro k σ H5 hk ⟨mJ,b',o4,o5,rfl,NL,N7,Ny⟩;have kp:(k:Int)<p:=J;refine⟨_,Z,_,Z,_,Z,_,Z,_,_,Z,Z,kK J J,_,_,Z,Z,nq J J,_,_,Z,Z,_,Z,_,_,Z,Z,(show (0:Int)<n by lia),?_⟩;dsimp only;rw[Bi];refine⟨_,Z,_,Z,du,_,_,_,Z,Z,jV.of NL,Dj N7 J _,_,Z,_,_,Z,Z,_,Z,_,Z,du,_,_,_,Z,Z,NL,zC (wo N7) J _,?_⟩;rw[set_int];exact⟨ku mJ IB,_,_,_,Z,jG,by rw[cf,N7],Rg.TM D0 Ig J N7 Ny⟩
  .rintro σ H5 ⟨mJ,b',o4,o5,rfl,NL,N7,Ny⟩;refine⟨mJ,b',_,_,_,_,_,Z,NL,N7,fun x=>?_⟩;rw[Rg.VV D0 (show 0<p.toNat by lia) Ig Ny,inv,Pt.take_snoc ep,Rg.Ay];unfold Rg.rv;rw[Bi]
 .rintro σ H4 ⟨lZ,b,o1,o2,o3,o4,o5,rfl,hb,lb,inv⟩;rw[aa,rl,bT] at inv;exact⟨_,Z,q du H4 b lZ IB hb lb inv⟩
inductive Vy (K:PySem.W.Frag)(vs:List V)(H:Hp)(Q:VK)(E_:XK):Prop
 | mk (r s:Addr)(a:List Int)(n:Nat)(ps:List (Int×Int))(l:List ((Int×Int)×Int))(_:vs=[.ref r,.ref s])(_:jV K H r (a.map V.int))(_:a.length=n)(_:1<=n)(_:n<=420)(_:Rt.oF n ps l)(_:H s=some (.lst ((Rt.om n l).map V.int)))(_:∀t H',jM H H'->H t=none->H' t=some (.lst ((Ct.kr n l a).map V.int))->Q (.ref t) H')
theorem s9 (T:Txt K mg CF tL tF tM):Df P w K mg base 7 "kept_rest" ["load","holes"] (Vy K):=by
 refine kN T.d_kept_rest zh fun f cdv A outer s H vs Q E hr nd h=>?_;obtain⟨r,s',a,n,ps,l,rfl,ha,la,n1,n2,p5,hs,q⟩:=h;refine⟨_,(jE (j8 2 nd (j9 jZ (j7 (Dv T) hr (kD (pv 0))) jH)) (jJ (jT (m5 [("left",2)] ["hole"] (ki (pv 1)) (fun C s H fp=>⟨(nB 1),kd,(j9 (oU (K:=K) Z) (pv 0) (pv 1))⟩))))),?_⟩;refine⟨_,Z,r,a,n,Z,ha,la,n1,n2,fun t le ro H1 b Xu l' rows lH ft fl fr ht hb lb Ke bv _ _=>?_⟩;have f0:lY [V.ref le,V.ref ro] 0=some (.ref le):=Z;refine⟨t,_,_,_,Z,Z,kJ.of ht,f0,?_⟩;have Nx:∀x,Ld.at' b x=Rt.R n l (Ld.at' a) x:=fun x=>by rw[bv,Ke.one p5]
 refine⟨_,Z,s',Z,⟨_,jV.of (lH _ _ hs)⟩,?_⟩;refine lB (K:=K) (xs:=(Rt.om n l).map V.int) (Ct.kr n l a) (by rw[Ct.sJ,aa]) (by rw[aa];have:=Rt.tW n l;lia) (jV.of (lH _ _ hs)) ?_ ?_
 .intro i x H2 hx lE R kk;obtain⟨hv,rfl,eh⟩:=int_at hx;have km:=(Rt.vt.mp (ah eh)).1;exact⟨_,Z,_,Z,le,_,_,_,Z,Z,jV.of (lE _ _ hb),At km.1 J,kk _ _ (jM.refl _) (by unfold Ct.kr;rw[List.getElem?_map,eh,Nx];rfl)⟩
 intro c H2 lE fc h2;exact q c H2 (lH.trans lE) (lH.free fc) h2
inductive Tr (vs:List V)(H:Hp)(Q:VK)(E_:XK):Prop
 | mk (s wt:Addr)(W:List Int)(n M:Nat)(ps:List (Int×Int))(l:List ((Int×Int)×Int))(_:vs=[.int n,.ref s,.ref wt])(_:1<=n)(_:n<=60)(_:Rt.oF n ps l)(_:H s=some (.lst ((Rt.om n l).map V.int)))(_:H wt=some (.lst (W.map V.int)))(_:W.length=(Rt.om n l).length)(_:Bd M W)(_:∀t H' AW,jM H H'->H' t=some (.lst (AW.map V.int))->AW.length=n->Bd (M+6) AW->(∀k:Nat,k<n->Ld.at' AW k=Ct.aw n l W (Rt.om n l).length k)->Q (.ref t) H')
theorem uj (T:Txt K mg CF tL tF tM):Df P w K mg base 8 "all_weighings" ["n","holes","weights"] Tr:=by
 refine kN T.d_all_weighings uH fun f cdv A outer s H vs Q E hr nd h=>?_;obtain⟨s',wt,W,n,M,ps,l,rfl,n1,n2,p5,hs,hw,lW,bW,q⟩:=h;refine⟨_,(jE (j8 3 nd (jR oS (lD (kD jH)) (pv 0))) (jE (kR aI Z (nF jC T.b_zip (ke (pv 1) (pv 2))) (me Z (j6 (lG 4 nd) (j6 (lG 5 nd) lC))) (jJ (j8 3 nd (j7 (Jn T) hr (ke (pv 3) (j7 (xF T) hr (ke (j7 (uW T) hr (ke (pv 0) (pv 4))) (pv 5)))))))) (jJ (jT (pv 3))))),?_⟩;refine⟨jL,fun lo wX=>⟨_,Z,lo,_,_,Z,Z,jG,J,J,zfO,fun p hp=>?_⟩⟩;rw[rep0];have NV:jM H (upd (upd H lo (.lst [V.int 0])) p (.lst ((List.replicate n (0:Int)).map V.int))):=jK (jK (jM.refl _) wX) hp;have hP:upd (upd H lo (.lst [V.int 0])) p (.lst ((List.replicate n (0:Int)).map V.int)) p=some (.lst ((List.replicate n (0:Int)).map V.int)):=jG;generalize upd (upd H lo (.lst [V.int 0])) p (.lst ((List.replicate n (0:Int)).map V.int))=H0 at NV hP ⊢;refine⟨_,Z,_,Z,s',wt,Z,⟨_,jV.of (NV _ _ hs)⟩,⟨_,jV.of (NV _ _ hw)⟩,tD (K:=K) (xs:=(Rt.om n l).map V.int) (ys:=W.map V.int) (by rw[aa,aa,lW]) (fun i σ H2=>jM H H2/\∃(oc:Addr)(AW:List Int)(o1 o2:Option V),σ=[some (.int n),some (.ref s'),some (.ref wt),some (.ref oc),o1,o2]/\H2 oc=some (.lst (AW.map V.int))/\AW.length=n/\∀k:Nat,k<n->Ld.at' AW k=Ct.aw n l W i k) ⟨NV,p,_,none,none,Z,hP,aR,fun k hk=>Ld.pK (by rw[fI,aC hk];rfl)⟩ (fun i σ H2 _ z=>⟨z.1.seq (jV.of hs),z.1.seq (jV.of hw)⟩) ?_ ?_⟩
 .rintro i x y σ H2 pr hx hy ⟨sm,oc,AW,o1,o2,rfl,ho,lA,ev⟩ hpr;obtain⟨hv,rfl,eh⟩:=int_at hx;obtain⟨c,rfl,ec⟩:=int_at hy;have kp:=(Rt.vt.mp (ah eh)).2;refine⟨pr,_,Z,kJ.of jG,Z,_,_,Z,_,_,Z,Z,?_⟩;have kT:jM H2 (upd H2 pr (.tup [.int hv,.int c])):=jK (jM.refl _) hpr;generalize upd H2 pr (.tup [.int hv,.int c])=H3 at kT ⊢;refine⟨_,Z,_,Z,_,Z,n,hv,ps,l,Z,n1,J,p5,kp,fun tw H4 V4 lZ f4 h4 lV vv=>?_⟩;refine⟨_,Z,tw,V4,c,Z,jV.of h4,J,fun x hx=>?_,fun ts H5 mJ f5 h5=>?_⟩
  .obtain⟨k,hk,e⟩:=List.getElem_of_mem hx;have e2:Ld.at' V4 k=x:=Ld.pK (by rw[<-e];exact aA hk);have:=vv k J;rw[e2] at this;rcases Rt.vz l hv k with z | z | z<;>exact tu J J
  have smo:=(kT.trans lZ).trans mJ;have lS:(Ld.scaled V4 c).length=n:=by unfold Ld.scaled;rw[List.length_map];exact lV
  refine⟨oc,ts,AW,Ld.scaled V4 c,Z,jV.of (smo _ _ ho),jV.of h5,by rw[lA,lS],J,fun to H6 qZ f6 h6=>?_⟩;refine⟨(sm.trans smo).trans qZ,to,_,_,_,Z,h6,by rw[Ld.oW (by rw[lA,lS])];exact lA,fun k hk=>?_⟩;rw[Ld.vx (by rw[lA,lS]) J,Ld.yn J,ev k hk,vv k hk];show _=Ct.aw n l W i k+Rt.V l (Lt.g (Rt.om n l) (i:Int).toNat) k*Lt.g W (i:Int).toNat
  rw[ae,Rx.lJ eh,Rx.lJ ec]
 .rintro σ H2 ⟨sm,oc,AW,o1,o2,rfl,ho,lA,ev⟩;rw[aa] at ev;refine⟨_,Z,q oc H2 AW sm ho lA (fun x hx=>?_) ev⟩;obtain⟨k,hk,e⟩:=List.getElem_of_mem hx;have e2:Ld.at' AW k=x:=Ld.pK (by rw[<-e];exact aA hk);rw[<-e2,ev k J];have kl:=Rt.tW n l;exact Ct.OT J (fun c hc=>bW _ (Rx.nV (by rw[lW];exact hc))) _
structure Rco (n w C Cg:Nat):Prop where
 C1:1<=C
 CC:C<=Cg
 CN:Cg<2^9000
 num:∀k,k<=n->k<=w->∃B G,Nk k C Cg 9000 B G
 big:∀k,k<=n->k<=w->(2*(k*C)+1)^k*((k+1)*(Sg.t7 k Cg*Cg))<Pq.pd Pq.S
theorem LR {n w C Cg K0:Nat}(C1:1<=C)(CC:C<=Cg)(h:(List.range K0).all (fun k=>Rx.Rw k C Cg)=true)(K1:0<K0)(le:∀k,k<=n->k<=w->k<K0):Rco n w C Cg:=by
 have ck:∀k,k<K0->Rx.Rw k C Cg=true:=fun k hk=>dC.mp h k (dX.mpr hk);have sp:∀k,k<K0->128*(Rx.gB k C Cg*Rx.gB k C Cg)*(128*(Rx.gB k C Cg*Rx.gB k C Cg))*2^480<=2^9000/\Rx.gG k C Cg<2^9000/\Rx.gD k C*((k+1)*(Sg.t7 k Cg*Cg))<Pq.pd Pq.S:=fun k hk=>by
  have c:=ck k hk;unfold Rx.Rw at c;rw[fe,fe] at c;exact⟨gH c.1.1,gH c.1.2,gH c.2⟩
 refine⟨C1,CC,bZ (show Cg<=Rx.gG 0 C Cg by unfold Rx.gG;exact Nat.le_add_left ..) (sp 0 K1).2.1,fun k a b=>⟨Rx.gB k C Cg,Rx.gG k C Cg,?_,?_,?_,?_,(sp k (le k a b)).1,(sp k (le k a b)).2.1,?_,?_⟩,fun k a b=>(sp k (le k a b)).2.2⟩
 .show Rx.gD k C<=Rx.gB k C Cg
  unfold Rx.gB;exact Nat.le_trans (Nat.le_add_left ..) (Nat.le_add_right ..)
 .show Rx.gD k C<=Rx.gG k C Cg
  unfold Rx.gG;exact Nat.le_trans (Nat.le_add_right ..) (Nat.le_add_right ..)
 .show k*(Rx.gD k C*(Sg.t7 k C*Rx.gG k C Cg))<=Rx.gB k C Cg
  unfold Rx.gB;exact Nat.le_trans (Nat.le_add_right ..) (Nat.le_add_right ..)
 .unfold Rx.gB;exact Nat.le_add_left ..
 .unfold Rx.gG;exact Nat.le_trans (Nat.le_add_left ..) (Nat.le_add_right ..)
 .unfold Rx.gG;exact Nat.le_add_left ..
inductive Oz (C:Addr)(vs:List V)(H:Hp)(Q:VK)(E_:XK):Prop
 | mk (r s:Addr)(a:List Int)(bs:List (List Int))(n C0 Cg:Nat)(ps:List (Int×Int))(l:List ((Int×Int)×Int))(_:vs=[.ref r,.ref s])(_:H r=some (.lst (a.map V.int)))(_:k9 H s bs)(_:a.length=n)(_:∀b∈bs,b.length=n)(_:1<=n)(_:n<=60)(_:bs.length<=400)(_:Rt.oF n ps l)(_:Rco bs.length (Rt.om n l).length C0 Cg)(_:∀b∈bs,∀z∈Ct.kr n l b,z.natAbs<=C0)(_:∀z∈Ct.kr n l a,z.natAbs<=Cg)(_:∀t ct H' cs,jM H H'->H' t=some (.tup [.str "way",.ref ct])->H' ct=some (.lst (cs.map V.int))->cs.length=bs.length->Bd 40000 cs->Rx.Jh (Rt.om n l).length (bs.map (Ct.kr n l)) (Ld.scaled (Ct.kr n l a) (-1)) cs->Q (.ref t) H')(_:∀t wt H' AW W s0,jM H H'->H' t=some (.tup [.str "bar",.ref wt,.int s0])->H' wt=some (.lst (AW.map V.int))->AW.length=n->0<=s0->Bd 9007 AW->W.length=(Rt.om n l).length->(∀k:Nat,k<n->Ld.at' AW k=Ct.aw n l W (Rt.om n l).length k)->Rx.Iq (bs.map (Ct.kr n l)) (Ld.scaled (Ct.kr n l a) (-1)) W s0->Q (.ref t) H')
theorem Br (T:Txt K mg CF tL tF tM):Df P w K mg base 13 "counter" ["load","blocks"] (Oz CF):=by
 refine kN T.d_counter Co fun f cdv A outer s H vs Q E hr nd h=>?_;obtain⟨r,s',a,bs,n,C0,Cg,ps,l,rfl,ha,hB,la,lb,n1,n2,b4,p5,rc,bC,bG,qw,qb⟩:=h;obtain⟨as,h1,pa⟩:=id hB;have lp:=jY pa;refine⟨_,(jE (kR aI Z (ki (pv 1)) (lG 2 nd) (jJ (mX (j7 (qB T) hr (ke (pv 0) (pv 2)))))) (jE (j8 3 nd (nI T.b_len (pv 0))) (jE (kP (k7 wu (pv 3) (vg (v:=.int 60) jC T.g_MOST_HOLES_COUNTERED ⟨_,Z⟩)) Fx kh) (jE (j8 4 nd (j7 (JJ T) hr (kD (pv 3)))) (jE (j8 5 nd (j7 (FB T) hr (ke (m5 [("holes",4)] ["block"] (ki (pv 1)) (fun C s H fp=>⟨(nB 1),kd,(j7 (s9 T) hr (ke (pv 1) (pv 0)))⟩)) (j7 (xF T) hr (ke (j7 (s9 T) hr (ke (pv 0) (pv 4))) (rq oO jH)))))) (jE (kP (k7 m7 (j9 jZ (pv 5) jH) oa) (jJ (jT (pv 5))) kh) (jJ (jT (lI (jF oa (jF (j7 (uj T) hr (jF (pv 3) (jF (pv 4) (jF (j9 jZ (pv 5) jH) j5)))) (jF (j9 jZ (pv 5) jH) j5)))))))))))),?_⟩;rw[show start ["load","blocks","block","n","holes","told"] [V.ref r,V.ref s']=[some (.ref r),some (.ref s'),none,none,none,none] from Z];refine⟨_,Z,s',Z,⟨_,jV.of h1⟩,mB (K:=K) (xs:=as.map V.ref) (fun i σ H2=>H2=H/\∃o:Option V,σ=[some (.ref r),some (.ref s'),o,none,none,none]) ⟨Z,none,Z⟩ (fun i σ H2 _ z=>by rw[z.1];exact jV.of h1) ?_ ?_⟩
 .rintro i x σ H2 hx ⟨rfl,o,rfl⟩;obtain⟨b,row,rfl,hb,kX,hh⟩:=mv pa hx;exact⟨_,Z,_,Z,r,b,_,_,Z,jV.of ha,jV.of hh,by rw[aa,aa,la,lb row (ah kX)],Z,_,Z⟩
 rintro σ H2 ⟨rfl,o,rfl⟩;refine⟨_,Z,r,_,Z,.inl (jV.of ha),?_⟩;rw[aa,la]
 try dsimp only[kZ,ox,oA]
 refine⟨_,Z,_,_,Z,Z,_,Z,lP (by simp;lia) ?_⟩;refine⟨_,Z,n,ps,l,Z,n1,J,p5,fun ho H1 lH Yh=>?_⟩
 try dsimp only[kZ,ox,oA]
 refine⟨_,Z,s',Z,⟨_,jV.of (lH _ _ h1)⟩,?_⟩;refine oT (K:=K) (xs:=as.map V.ref) (bs.map (Ct.kr n l)) (by rw[aa,aa,lp]) zfM (jV.of (lH _ _ h1)) ?_ ?_
 .intro i x H3 hx kT R kk;obtain⟨b,row,rfl,hb,kX,hh⟩:=mv pa hx;refine⟨_,Z,_,Z,b,ho,row,n,ps,l,Z,jV.of (kT _ _ (lH _ _ hh)),lb row (ah kX),n1,J,p5,kT _ _ Yh,fun t H4 lZ _ h4=>kk H4 t _ lZ (by rw[af,kX];rfl) h4⟩
 intro st H3 kT _ t5;have w6:=lH.trans kT;refine⟨_,Z,_,Z,r,ho,a,n,ps,l,Z,jV.of (w6 _ _ ha),la,n1,J,p5,kT _ _ Yh,fun kl H4 lZ _ h4=>?_⟩;have kln:=Rt.tW n l;refine⟨_,Z,kl,_,-1,Z,jV.of h4,by rw[Ct.sJ];lia,fun x _=>ic (fO O O),fun gl H5 mJ _ h5=>?_⟩;have Ic:=lZ.trans mJ;have lk:∀y∈bs.map (Ct.kr n l),y.length=(Rt.om n l).length:=fun y hy=>by
  obtain⟨b,_,rfl⟩:=List.mem_map.mp hy;exact Ct.sJ
 refine⟨st,gl,bs.map (Ct.kr n l),Ld.scaled (Ct.kr n l a) (-1),(Rt.om n l).length,9000,C0,Cg,Z,(t5.same lZ).same mJ,h5,lk,by unfold Ld.scaled;rw[List.length_map,Ct.sJ],J,by rw[List.length_map];lia,O,O,rc.C1,rc.CC,rc.CN,fun y hy z hz=>?_,fun z hz=>?_,by rw[List.length_map];exact rc.num,by rw[List.length_map];exact rc.big,fun t wt H6 W s0 qZ N8 hw6 lW s1 bW sh=>?_,fun t ct H6 cs qZ N8 hc6 lc bc sh=>?_⟩
 .obtain⟨b,hb,rfl⟩:=List.mem_map.mp hy;exact bC b hb z hz
 .unfold Ld.scaled at hz;obtain⟨x,hx,rfl⟩:=List.mem_map.mp hz;have:=bG x hx;show (x * -1).natAbs<=Cg
  rw[jv,gJ];exact this
 .have xg:=(w6.trans Ic).trans qZ;have Yi:=(kT.trans Ic).trans qZ;have i0:lY [V.str "bar",V.ref wt,V.int s0] 0=some (.str "bar"):=Z;have i1:lY [V.str "bar",V.ref wt,V.int s0] 1=some (.ref wt):=Z;have i2:lY [V.str "bar",V.ref wt,V.int s0] 2=some (.int s0):=Z
  try dsimp only[kZ,ox,oA]
  refine⟨_,Z,t,_,_,_,Z,Z,kJ.of N8,i0,Z,_,Z,lP O ?_⟩;refine⟨_,Z,_,Z,_,Z,t,_,_,_,Z,Z,kJ.of N8,i1,ho,wt,W,n,9001,ps,l,Z,n1,n2,p5,Yi _ _ Yh,hw6,lW,bW,fun aw H7 AW yp h7 lA bA ev=>?_⟩;refine⟨_,Z,t,_,_,_,Z,Z,kJ.of (yp _ _ N8),i2,jU,fun tt qj=>?_⟩;have Aa:=jK (o:=.tup [V.str "bar",V.ref aw,V.int s0]) (jM.refl H7) qj;exact qb tt aw _ AW W s0 ((xg.trans yp).trans Aa) jG (Aa _ _ h7) lA s1 bA lW ev sh
 .have i0:lY [V.str "way",V.ref ct] 0=some (.str "way"):=Z
  try dsimp only[kZ,ox,oA]
  refine⟨_,Z,t,_,_,_,Z,Z,kJ.of N8,i0,Z,_,Z,p8 O ?_⟩;exact⟨_,Z,qw t ct H6 cs ((w6.trans Ic).trans qZ) N8 hc6 (by rw[lc,aa]) bc sh⟩
inductive IU (vs:List V)(H:Hp)(Q:VK)(E_:XK):Prop
 | mk (i:Int)(_:vs=[.int i])(_:Q (.bl true) H)
theorem qH (T:Txt K mg CF tL tF tM):Df P w K mg base 1 "_law_whole" ["found"] IU:=by
 refine kN T.d_law_whole yH fun f cdv A outer s H vs Q E hr nd h=>?_;obtain⟨i,rfl,q⟩:=h;refine⟨_,(jJ (jT (B6 (kE mi jC T.b_isinstance L2.lO (ke (pv 0) (pH (v:=.ty "int") jC T.b_int L2.Mo jC))) (yT (Fi (kE mi jC T.b_isinstance L2.lO (ke (pv 0) (pH (v:=.ty "bool") jC T.b_bool L2.IY jC)))))))),?_⟩;refine⟨_,Z,_,_,_,true,Z,.int i,n4 _,true,Z,Oe ?_⟩;exact⟨_,Z,_,_,_,false,Z,.int i,L2.MC,false,Z,q⟩
inductive G7 (K:PySem.W.Frag)(vs:List V)(H:Hp)(Q:VK)(E_:XK):Prop
 | mk (a:Addr)(ns:List Int)(k:Int)(_:vs=[.ref a,.int k])(_:jV K H a (ns.map V.int))(_:0<=k)(_:∀v:Int,Q (.int v) H)
theorem kM (T:Txt K mg CF tL tF tM):Df P w K mg base 1 "_law_cell_at" ["script","k"] (G7 K):=by
 refine kN T.d_law_cell_at vQ fun f cdv A outer s H vs Q E hr nd h=>?_;obtain⟨a,ns,k,rfl,hS,k0,q⟩:=h;refine⟨_,(jE (kP (k7 Di (pv 1) (nI T.b_len (pv 0))) (jJ (jT (j9 kC (pv 0) (pv 1)))) kh) (jJ (jT jH))),?_⟩;refine⟨_,Z,_,Z,a,_,Z,.inl hS,_,_,Z,Z,_,Z,?_⟩;refine mM (fun c=>?_) (fun c=>q 0);have hk:=dec c;rw[aa] at hk;obtain⟨v,hv,_⟩:=Mi k0 hk;exact⟨_,Z,_,Z,a,_,_,_,Z,Z,hS,hv,q v⟩
inductive Mt (vs:List V)(H:Hp)(Q:VK)(E_:XK):Prop
 | mk (r:Addr)(cs:List Int)(_:vs=[.ref r,.int cs.length])(_:H r=some (.lst (cs.map V.int)))(_:cs.length<=20000)(_:∀H',jM H H'->Q (.bl true) H')
theorem rE (T:Txt K mg CF tL tF tM):Df P w K mg base 2 "_law_numbers" ["found","many"] Mt:=by
 refine kN T.d_law_numbers wy fun f cdv A outer s H vs Q E hr nd h=>?_;obtain⟨r,cs,rfl,hl,XH,q⟩:=h;refine⟨_,(jE (kP (PW.pt (oq (mZ (mT (kE mi jC T.b_isinstance L2.lO (ke (pv 0) (pH (v:=.ty "list") jC T.b_list L2.pF jC))))) (qK (k7 n8 (nI T.b_len (pv 0)) (pv 1))))) (jJ (jT pE)) kh) (jJ (jT (kE (r9 Z) jC T.b_all L2.yz (kD (m5 [] ["one"] (ki (pv 0)) (fun C s H fp=>⟨(nB 0),kd,(j7 (qH T) hr (kD (pv 0)))⟩))))))),?_⟩;refine⟨_,Z,_,_,_,true,Z,.lst hl,n4 _,true,Z,yt ?_⟩;refine⟨_,Z,r,_,Z,.inl (jV.of hl),_,Z,Z,_,Z,xW (by rw[aa]) ?_⟩;refine⟨_,Z,r,Z,⟨_,jV.of hl⟩,?_⟩;refine oG (K:=K) (xs:=cs.map V.int) (fun i ys H2=>H2=H/\ys=(List.replicate i true).map V.bl) ⟨Z,Z⟩ (fun i ys H2 _ z=>by rw[z.1];exact jV.of hl)
  (fun i ys H2 hi z=>by rw[aa] at hi;rw[z.2,aa,aR];exact mD J) ?_ ?_
 .rintro i x ys H2 hx ⟨rfl,rfl⟩;obtain⟨u,rfl,hu⟩:=int_at hx;refine⟨_,Z,u,Z,Z,?_⟩;rw[iU,aQ];rfl
 .rintro ys H2 ⟨rfl,rfl⟩ D hD;refine⟨D,_,Z,jV.of jG,?_⟩;have e:((List.replicate (cs.map V.int).length true).all id)=true:=by rw[dC];intro b hb;rw[(eL.mp hb).2];rfl
  rw[e];exact q _ (jK (jM.refl _) hD)
inductive MK (K:PySem.W.Frag)(vs:List V)(H:Hp)(Q:VK)(E_:XK):Prop
 | mk (r s:Addr)(a b:List Int)(N M:Nat)(_:vs=[.ref r,.ref s])(_:H r=some (.lst (a.map V.int)))(_:H s=some (.lst (b.map V.int)))(_:a.length=b.length)(_:Bd N a)(_:Bd M b)(_:N<=1000000)(_:M<=1000000)(_:∀H',jM H H'->Q (.int (Rx.dot a b)) H')
theorem wF (T:Txt K mg CF tL tF tM):Df P w K mg base 1 "_law_sum" ["row","weights"] (MK K):=by
 refine kN T.d_law_sum B4 fun f cdv A outer s H vs Q E hr nd h=>?_;obtain⟨r,s',a,b,N,M,rfl,h1,h2,l,ba,bb,N1,M1,q⟩:=h;refine⟨_,(jE (j8 2 nd jH) (jE (kR aI Z (nF jC T.b_zip (ke (pv 0) (pv 1))) (me Z (j6 (lG 3 nd) (j6 (lG 4 nd) lC))) (jJ (j8 2 nd (jR kG (pv 2) (jR ko (pv 3) (pv 4)))))) (jJ (jT (pv 2))))),?_⟩;refine⟨_,Z,_,Z,r,s',Z,⟨_,jV.of h1⟩,⟨_,jV.of h2⟩,tD (K:=K) (xs:=a.map V.int) (ys:=b.map V.int) (by rw[aa,aa,l]) (fun i σ H2=>jM H H2/\∃o1 o2:Option V,σ=[some (.ref r),some (.ref s'),some (.int (Ld.S i fun j=>Lt.g a j.toNat*Lt.g b j.toNat)),o1,o2]) ⟨jM.refl _,none,none,Z⟩ (fun i σ H2 _ z=>⟨z.1.seq (jV.of h1),z.1.seq (jV.of h2)⟩) ?_ ?_⟩
 .rintro i x y σ H2 p hx hy ⟨sm,o1,o2,rfl⟩ hp;obtain⟨u,rfl,hu⟩:=int_at hx;obtain⟨v,rfl,hv⟩:=int_at hy;refine⟨p,_,Z,kJ.of jG,Z,_,_,Z,_,_,Z,Z,?_⟩;refine⟨_,Z,_,Z,_,Z,_,_,Z,Z,rp (ba u (ah hu)) (bb v (ah hv)) N1 M1,_,_,Z,Z,?_⟩;refine⟨jK sm hp,some (.int u),some (.int v),?_⟩;have e:(Ld.S (i+1) fun j=>Lt.g a j.toNat*Lt.g b j.toNat)=(Ld.S i fun j=>Lt.g a j.toNat*Lt.g b j.toNat)+u*v:=by
   show (Ld.S i fun j=>Lt.g a j.toNat*Lt.g b j.toNat)+Lt.g a (i:Int).toNat*Lt.g b (i:Int).toNat=_
   rw[ae,Rx.lJ hu,Rx.lJ hv]
  rw[e];rfl
 .rintro σ H2 ⟨sm,o1,o2,rfl⟩;refine⟨_,Z,?_⟩;rw[aa,<-Rx.n5 Z l.symm];exact q H2 sm
inductive Wn (vs:List V)(H:Hp)(Q:VK)(E_:XK):Prop
 | mk (n m:Int)(_:vs=[.int n,.int m])(_:0<=m)(_:m∣n->Q (.bl true) H)(_:¬m∣n->Q (.bl false) H)
theorem xL (T:Txt K mg CF tL tF tM):Df P w K mg base 1 "_law_by" ["number","modulus"] Wn:=by
 refine kN T.d_law_by D5 fun f cdv A outer s H vs Q E hr nd h=>?_;obtain⟨n,m,rfl,m0,q1,q2⟩:=h;have key:∀c:Bool,(c=true↔m∣n)->Q (.bl c) H:=fun c e=>by
  cases c with
  | true=>exact q1 (e.mp Z)
  | false=>exact q2 fun z=>by have:=e.mpr z;cases this
 refine⟨_,(jE (kP (k7 m7 (pv 1) jH) (jJ (jT (nZ m7 (pv 0) jH (oZ _)))) kh) (jJ (jT (nZ m7 (jR ky (pv 0) (pv 1)) jH (oZ _))))),?_⟩;refine⟨_,Z,Z,_,Z,mM (fun c=>?_) (fun c=>?_)⟩
 .have z:=uK c;subst z;refine⟨_,Z,Z,key _ ⟨fun h=>?_,fun h=>?_⟩⟩
  .rw[uK h];exact bi _
  .rw[ga.mp h];exact b9 Z
 .have z:=wQ c;refine⟨_,Z,_,Z,_,_,Z,Z,(show 0<m by lia),Z,key _ ⟨fun h=>?_,fun h=>?_⟩⟩
  .exact bO (uK h)
  .have:n%m=0:=bP h;exact b9 (cU V.int this)
inductive GS (vs:List V)(H:Hp)(Q:VK)(E_:XK):Prop
 | mk (r:Addr)(n:Nat)(rows:List (Int×Int×Int))(ps:List (Int×Int))(_:vs=[.ref r,.int n])(_:1<=n)(_:n<=420)(_:yx H r rows)(_:Pt.Parts n ps)(_:∀x∈rows,x.1∈ps.map Prod.fst/\0<=x.2.1/\x.2.1<n)(_:∀H',jM H H'->Q (.bl true) H')
theorem wm (T:Txt K mg CF tL tF tM):Df P w K mg base 2 "_law_rows_of" ["found","n"] GS:=by
 refine kN T.d_law_rows_of wK fun f cdv A outer s H vs Q E hr nd h=>?_;obtain⟨r,n,rows,ps,rfl,n1,n2,⟨as,h1,pa⟩,hp,ok,q⟩:=h;refine⟨_,(jE (kP (mZ (mT (kE mi jC T.b_isinstance L2.lO (ke (pv 0) (pH (v:=.ty "list") jC T.b_list L2.pF jC))))) (jJ (jT pE)) kh) (jE (kR aI Z (ki (pv 0)) (lG 2 nd) (jE (kP (PW.pt (oq (mZ (mT (kE mi jC T.b_isinstance L2.lO (ke (pv 2) (pH (v:=.ty "tuple") jC T.b_tuple L2.tx jC))))) (oq (k7 n8 (nI T.b_len (pv 2)) jH) (qK (mZ (mT (kE (r9 Z) jC T.b_all L2.yz (kD (m5 [] ["one"] (MO (pv 2)) (fun C s H fp=>⟨(nB 0),kd,(j7 (qH T) hr (kD (pv 0)))⟩)))))))))) (jJ (jT pE)) kh) (jJ (kP (PW.pt (oq (Dc yR (j9 jZ (pv 2) jH) (j7 (sk T) hr (kD (pv 1))) jC) (oq (k7 Di (j9 jZ (pv 2) jH) jH) (qK (k7 KI (j9 jZ (pv 2) jH) (pv 1)))))) (jJ (jT pE)) kh)))) (jJ (jT pE)))),?_⟩;refine⟨_,Z,_,_,_,true,Z,.lst h1,n4 _,true,Z,yt ?_⟩;refine⟨_,Z,r,Z,⟨_,jV.of h1⟩,mB (K:=K) (xs:=as.map V.ref) (fun i σ H2=>jM H H2/\∃o:Option V,σ=[some (.ref r),some (.int n),o]) ⟨jM.refl _,none,Z⟩ (fun i σ H2 _ z=>z.1.seq (jV.of h1)) ?_ ?_⟩
 .rintro i x σ H2 hx ⟨sm,o,rfl⟩;obtain⟨a,rfl,ea⟩:=oh hx;obtain⟨⟨p,hole,many⟩,ht,hh⟩:=kQ pa ea;have Sz:=sm _ _ hh;obtain⟨k1,k2,k3⟩:=ok _ (List.mem_of_getElem? ht);have i0:lY [V.int p,V.int hole,V.int many] 0=some (.int p):=Z;have i1:lY [V.int p,V.int hole,V.int many] 1=some (.int hole):=Z;refine⟨_,Z,_,_,_,true,Z,.tup Sz,n4 _,true,Z,yt ?_⟩;refine⟨_,Z,a,_,Z,.inr (kJ.of Sz),Z,_,Z,lP (by show ¬(!decide (V.int 3=V.int 3))=true;simp) ?_⟩;refine⟨_,Z,a,Z,⟨_,kJ.of Sz⟩,?_⟩;refine HE (K:=K) (xs:=[V.int p,V.int hole,V.int many]) (fun i ys H3=>H3=H2/\ys=(List.replicate i true).map V.bl) ⟨Z,Z⟩ (fun i ys H3 _ z=>by rw[z.1];exact kJ.of Sz)
   (fun i ys H3 hi z=>by rw[z.2,aa,aR];exact mD (by have:i<3:=hi;lia)) ?_ ?_
  .rintro j y ys H3 hy ⟨rfl,rfl⟩;obtain⟨u,rfl,hu⟩:=int_at (ms:=[p,hole,many]) hy;refine⟨_,Z,u,Z,Z,?_⟩;rw[iU,aQ];rfl
  .rintro ys H3 ⟨rfl,rfl⟩ D hD;refine⟨D,_,Z,jV.of jG,_,Z,lP (show ¬(!(List.replicate 3 true).all id)=true by decide) ?_⟩;have kT:=jK (o:=.lst ((List.replicate 3 true).map V.bl)) sm hD;have SA:=kT _ _ hh;refine⟨_,Z,a,_,_,_,Z,Z,kJ.of SA,i0,_,Z,n,Z,n1,n2,fun r1 H4 E8 lZ f4 h4 hp4=>?_⟩;have Nt:=Pt.oE hp4 hp;subst Nt;refine⟨r1,_,Z,.inl (jV.of h4),Z,xI _,_,Z,lP (by rw[AE,b9 k1];decide) ?_⟩;have Ib:=kT.trans lZ;refine⟨_,Z,a,_,_,_,Z,Z,kJ.of (Ib _ _ hh),i1,_,_,Z,Z,_,Z,lP (by simpa using k2) ?_⟩;refine⟨_,Z,a,_,_,_,Z,Z,kJ.of (Ib _ _ hh),i1,_,Z,_,_,Z,Z,_,Z,lP (by simpa using k3) ?_⟩;exact⟨Ib,_,Z⟩
 .rintro σ H2 ⟨sm,o,rfl⟩;exact q H2 sm
inductive Oq (K:PySem.W.Frag)(vs:List V)(H:Hp)(Q:VK)(E_:XK):Prop
 | mk (r:Addr)(a:List Int)(n:Nat)(ps:List (Int×Int))(l:List ((Int×Int)×Int))(_:vs=[.ref r])(_:H r=some (.lst (a.map V.int)))(_:a.length=n)(_:1<=n)(_:n<=420)(_:Rt.oF n ps l)(_:Rt.Zn n l (Ld.at' a))(_:∀H',jM H H'->Q (.bl true) H')
theorem AU (T:Txt K mg CF tL tF tM):Df P w K mg base 9 "_law_even" ["load"] (Oq K):=by
 refine kN T.d_law_even As fun f cdv A outer s H vs Q E hr nd h=>?_;obtain⟨r,a,n,ps,l,rfl,ha,la,n1,n2,p5,zn,q⟩:=h;refine⟨_,(jE (j8 1 nd (j7 (Ha T) hr (kD (p6 nJ jC T.b_list L2.pF (kD (pv 0)))))) (jE (kP (PW.pt (oq (mZ (mT (kE mi jC T.b_isinstance L2.lO (ke (pv 1) (pH (v:=.ty "tuple") jC T.b_tuple L2.tx jC))))) (oq (k7 n8 (nI T.b_len (pv 1)) jH) (qK (k7 n8 (j9 jZ (pv 1) jH) oa))))) (jJ (jT pE)) kh) (jJ (jT (B6 (j7 (wm T) hr (ke (j9 jZ (pv 1) jH) (nI T.b_len (pv 0)))) (yT (nZ (FZ (D4 hr)) (j7 (Aq T) hr (ke (nI T.b_len (pv 0)) (j9 jZ (pv 1) jH))) (pv 0) (oZ _)))))))),?_⟩;refine⟨_,Z,r,_,Z,.inl (jV.of ha),fun c hc=>?_⟩;have lH:=jK (o:=.lst (a.map V.int)) (jM.refl H) hc;refine⟨c,a,n,ps,l,Z,jV.of jG,la,n1,n2,p5,fun _ t ro H2 rows lE _ _ ht tr _ _ ok ev=>?_,fun no=>absurd zn no⟩;have xg:=lH.trans lE;have i0:lY [V.str "even",V.ref ro] 0=some (.str "even"):=Z;have i1:lY [V.str "even",V.ref ro] 1=some (.ref ro):=Z;have ok':∀x∈rows,x.1∈ps.map Prod.fst/\0<=x.2.1/\x.2.1<n:=fun x hx=>⟨(ok x hx).1,(ok x hx).2.1,(ok x hx).2.2.1⟩
 try dsimp only[kZ,ox,oA]
 refine⟨_,Z,_,_,_,true,Z,.tup ht,n4 _,true,Z,yt ?_⟩;refine⟨_,Z,t,_,Z,.inr (kJ.of ht),Z,_,Z,lP (by show ¬(!decide (V.int 2=V.int 2))=true;simp) ?_⟩;refine⟨_,Z,t,_,_,_,Z,Z,kJ.of ht,i0,Z,_,Z,xW Z ?_⟩;refine⟨_,Z,t,_,_,_,Z,Z,kJ.of ht,i1,_,Z,r,_,Z,.inl (jV.of (xg _ _ ha)),ro,n,rows,ps,(by rw[wo la];rfl),n1,n2,tr,p5.hp,ok',fun H3 kT=>?_⟩;refine⟨true,Z,Oe ?_⟩;have K3:=xg.trans kT;refine⟨_,Z,r,_,Z,.inl (jV.of (K3 _ _ ha)),_,Z,t,_,_,_,Z,Z,kJ.of (kT _ _ ht),i1,ro,n,rows,ps,(by rw[wo la];rfl),n1,n2,tr.same kT,p5.hp,ok',fun la4 H4 b lZ _ h4 lb bv=>?_⟩;have eb:b=a:=Ld.ext (by rw[lb,la]) fun x _=>by rw[bv x,ev x]
 refine⟨_,Z,F9 (jV.of h4) (jV.of ((K3.trans lZ) _ _ ha)) ?_⟩;rw[eb,b9 Z];exact q _ (K3.trans lZ)
inductive Md (K:PySem.W.Frag)(vs:List V)(H:Hp)(Q:VK)(E_:XK):Prop
 | mk (t r s:Addr)(a:List Int)(bs:List (List Int))(n N:Nat)(ps:List (Int×Int))(l:List ((Int×Int)×Int))(_:vs=[.ref t,.ref r,.ref s])(_:H r=some (.lst (a.map V.int)))(_:k9 H s bs)(_:a.length=n)(_:∀y∈bs,y.length=n/\Bd N y)(_:1<=n)(_:n<=60)(_:bs.length<=420)(_:N<=1000000)(_:Rt.oF n ps l)(_:(∃ct cs,H t=some (.tup [.str "way",.ref ct])/\H ct=some (.lst (cs.map V.int))/\cs.length=bs.length/\Bd 40000 cs/\Rt.Zn n l (Ct.KD a bs cs bs.length)/\∀H',jM H H'->Q (.bl true) H')\/∃v0 v1 v2,H t=some (.tup [v0,v1,v2])/\∀H',jM H H'->Q (.bl false) H')
theorem Ce (T:Txt K mg CF tL tF tM):Df P w K mg base 10 "_law_way" ["found","load","blocks"] (Md K):=by
 refine kN T.d_law_way BP fun f cdv A outer s H vs Q E hr nd h=>?_;obtain⟨t,r,s',a,bs,n,N,ps,l,rfl,ha,hS,la,lb,n1,n2,b4,N1,p5,tl⟩:=h;refine⟨_,(jE (kP (PW.pt (oq (mZ (mT (kE mi jC T.b_isinstance L2.lO (ke (pv 0) (pH (v:=.ty "tuple") jC T.b_tuple L2.tx jC))))) (oq (k7 n8 (nI T.b_len (pv 0)) jH) (qK (k7 n8 (j9 jZ (pv 0) jH) oa))))) (jJ (jT pE)) kh) (jE (kP (mZ (mT (j7 (rE T) hr (ke (j9 jZ (pv 0) jH) (nI T.b_len (pv 2)))))) (jJ (jT pE)) kh) (jE (j8 3 nd (p6 nJ jC T.b_list L2.pF (kD (pv 1)))) (jE (kR aI Z (nF jC T.b_zip (ke (pv 2) (j9 jZ (pv 0) jH))) (me Z (j6 (lG 4 nd) (j6 (lG 5 nd) lC))) (jJ (sM 3 [("many",5)] ["one","other"] nd (nF jC T.b_zip (ke (pv 3) (pv 4))) (fun C s H fp=>⟨(tH 1 2),kd,(jR kG (pv 1) (jR ko (pv 0) (pv 2)))⟩)))) (jJ (jT (j7 (AU T) hr (kD (pv 3))))))))),?_⟩;rcases tl with ⟨ct,cs,ht,hc,lc,bc,zn,q⟩ | ⟨v0,v1,v2,ht,q⟩
 rotate_left
 .refine⟨_,Z,_,_,_,true,Z,.tup ht,n4 _,true,Z,yt ?_⟩;refine⟨_,Z,t,_,Z,.inr (kJ.of ht),Z,_,Z,p8 (by show (!decide (V.int 3=V.int 2))=true;simp) ?_⟩;exact q H (jM.refl _)
 obtain⟨as,h1,pa⟩:=id hS;have lp:=jY pa;have i0:lY [V.str "way",V.ref ct] 0=some (.str "way"):=Z;have i1:lY [V.str "way",V.ref ct] 1=some (.ref ct):=Z;refine⟨_,Z,_,_,_,true,Z,.tup ht,n4 _,true,Z,yt ?_⟩;refine⟨_,Z,t,_,Z,.inr (kJ.of ht),Z,_,Z,lP (by show ¬(!decide (V.int 2=V.int 2))=true;simp) ?_⟩;refine⟨_,Z,t,_,_,_,Z,Z,kJ.of ht,i0,Z,_,Z,xW Z ?_⟩;refine⟨_,Z,t,_,_,_,Z,Z,kJ.of ht,i1,_,Z,s',_,Z,.inl (jV.of h1),ct,cs,(by rw[aa,lp,lc];rfl),hc,J,fun H1 lH=>⟨_,Z,lP O ?_⟩⟩;refine⟨_,Z,r,_,Z,.inl (jV.of (lH _ _ ha)),fun d hd=>?_⟩;have lE:=jK (o:=.lst (a.map V.int)) (jM.refl H1) hd;have hd2:upd H1 d (.lst (a.map V.int)) d=some (.lst (a.map V.int)):=jG;generalize upd H1 d (.lst (a.map V.int))=H2 at lE hd2 ⊢;have xg:=lH.trans lE
 try dsimp only[kZ,ox,oA]
 refine⟨_,Z,_,Z,t,_,_,_,Z,Z,kJ.of (xg _ _ ht),i1,s',ct,Z,⟨_,jV.of (xg _ _ h1)⟩,⟨_,jV.of (xg _ _ hc)⟩,tD (K:=K) (xs:=as.map V.ref) (ys:=cs.map V.int) (by rw[aa,aa,lp,lc]) (fun i σ H3=>jM H H3/\∃(d:Addr)(tt:List Int)(o1 o2:Option V),σ=[some (.ref t),some (.ref r),some (.ref s'),some (.ref d),o1,o2]/\H3 d=some (.lst (tt.map V.int))/\tt.length=n/\∀x,Ld.at' tt x=Ct.KD a bs cs i x) ⟨xg,d,a,none,none,Z,hd2,la,fun x=>(df _).symm⟩ (fun i σ H3 _ z=>⟨z.1.seq (jV.of h1),z.1.seq (jV.of hc)⟩) ?_ ?_⟩
 .rintro i x y σ H3 p hx hy ⟨sm,d,tt,o1,o2,rfl,h3,lt,ev⟩ hp;obtain⟨b,row,rfl,hb,kX,hh⟩:=mv pa hx;obtain⟨c,rfl,ec⟩:=int_at hy;have rl:=lb row (ah kX);refine⟨p,_,Z,kJ.of jG,Z,_,_,Z,_,_,Z,Z,?_⟩;have pJ:=jK (o:=.tup [V.ref b,V.int c]) (jM.refl H3) hp;generalize upd H3 p (.tup [V.ref b,V.int c])=H4 at pJ ⊢;have h4:=pJ _ _ h3;have hh4:=pJ _ _ (sm _ _ hh);refine⟨_,Z,_,Z,d,b,Z,⟨_,jV.of h4⟩,⟨_,jV.of hh4⟩,?_⟩;have lz:(Ld.plus tt (Ld.scaled row c)).length=n:=by rw[Ld.oW (by unfold Ld.scaled;rw[List.length_map,lt,rl.1])];exact lt
  refine oQ (K:=K) (xs:=tt.map V.int) (ys:=row.map V.int) (Ld.plus tt (Ld.scaled row c)) (by rw[aa,aa,lt,rl.1]) (by rw[lz,aa,lt]) zfM (jV.of h4) (jV.of hh4) ?_ ?_
  .intro j u v H5 pp hu hv mJ zR R kk;obtain⟨u',rfl,eu⟩:=int_at hu;obtain⟨v',rfl,RK⟩:=int_at hv;refine⟨pp,_,Z,kJ.of jG,Z,_,_,Z,_,_,Z,Z,?_⟩;refine⟨_,Z,_,Z,_,Z,_,_,Z,Z,rp (bc c (ah ec)) (rl.2 v' (ah RK)) O N1,_,_,Z,Z,kk _ _ (jK (jM.refl _) zR) ?_⟩;unfold Ld.plus Ld.scaled;rw[bY,eu,af,RK];exact cU some (show u'+v'*c=u'+c*v' by rw[aB v' c])
  intro D H5 mJ _ h5;refine⟨(sm.trans pJ).trans mJ,D,_,_,_,Z,h5,lz,fun x=>?_⟩;rw[Ld.vx (by unfold Ld.scaled;rw[List.length_map,lt,rl.1]) J,Ld.yn J,ev x];show _=Ld.at' a x+((Ld.S i fun j=>Lt.g cs j.toNat*Ld.at' (bs.getD j.toNat []) x)+Lt.g cs (i:Int).toNat*Ld.at' (bs.getD (i:Int).toNat []) x)
  rw[ae,Rx.lJ ec,Rx.tq kX,aB,<-Int.add_assoc];rfl
 .rintro σ H3 ⟨sm,d,tt,o1,o2,rfl,h3,lt,ev⟩;rw[aa,lp] at ev;refine⟨_,Z,d,tt,n,ps,l,Z,h3,lt,n1,J,p5,?_,fun H4 lZ=>q H4 (sm.trans lZ)⟩;rw[show Ld.at' tt=Ct.KD a bs cs bs.length from funext ev];exact zn
inductive L6 (K:PySem.W.Frag)(vs:List V)(H:Hp)(Q:VK)(E_:XK):Prop
 | mk (t r s wt:Addr)(a W:List Int)(bs:List (List Int))(s0:Int)(n N M:Nat)(ps:List (Int×Int))(_:vs=[.ref t,.ref r,.ref s])(_:H r=some (.lst (a.map V.int)))(_:k9 H s bs)(_:a.length=n)(_:Bd N a)(_:∀y∈bs,y.length=n/\Bd N y)(_:1<=n)(_:n<=60)(_:N<=1000000)(_:M<=1000000)(_:Pt.Parts n ps)(_:H t=some (.tup [.str "bar",.ref wt,.int s0]))(_:H wt=some (.lst (W.map V.int)))(_:W.length=n)(_:0<=s0)(_:Bd M W)(_:∀p st:Nat,((p:Nat):Int)∈ps.map Prod.fst->0<st->n=p*st->∀s:Int,0<=s->s<st->Ld.S p (fun t=>Ld.at' W (s+t*st))=0)(_:∀b∈bs,s0∣Rx.dot b W)(_:¬s0∣Rx.dot a W)(_:∀H',jM H H'->Q (.bl true) H')
theorem Cr (T:Txt K mg CF tL tF tM):Df P w K mg base 3 "_law_bar" ["found","load","blocks"] (L6 K):=by
 refine kN T.d_law_bar BQ fun f cdv A outer s H vs Q E hr nd h=>?_;obtain⟨t,r,s',wt,a,W,bs,s0,n,N,M,ps,rfl,ha,hS,la,bA,lb,n1,n2,N1,M1,hp,ht,hw,lW,s1,bW,zr,dv,ndv,q⟩:=h;obtain⟨as,h1,pa⟩:=id hS;have lp:=jY pa;have i0:lY [V.str "bar",V.ref wt,V.int s0] 0=some (.str "bar"):=Z;have i1:lY [V.str "bar",V.ref wt,V.int s0] 1=some (.ref wt):=Z;have i2:lY [V.str "bar",V.ref wt,V.int s0] 2=some (.int s0):=Z;have ne1:s0≠1:=fun z=>ndv (by rw[z];exact fW _);refine⟨_,(jE (j8 3 nd (nI T.b_len (pv 1))) (jE (kP (PW.pt (oq (mZ (mT (kE mi jC T.b_isinstance L2.lO (ke (pv 0) (pH (v:=.ty "tuple") jC T.b_tuple L2.tx jC))))) (oq (k7 n8 (nI T.b_len (pv 0)) jH) (qK (k7 n8 (j9 jZ (pv 0) jH) oa))))) (jJ (jT pE)) kh) (jE (kP (PW.pt (oq (mZ (mT (j7 (rE T) hr (ke (j9 jZ (pv 0) jH) (pv 3))))) (oq (mZ (mT (j7 (qH T) hr (kD (j9 jZ (pv 0) jH))))) (oq (k7 Di (j9 jZ (pv 0) jH) jH) (qK (k7 m7 (j9 jZ (pv 0) jH) jH)))))) (jJ (jT pE)) kh) (jE (kR aI Z (ki (j7 (sk T) hr (kD (pv 3)))) (lG 4 nd) (jJ (kR aI Z (mf jC T.b_range (kD (jR kq (pv 3) (pv 4)))) (lG 5 nd) (jJ (kP (k7 n8 (kE (xM Z) jC T.b_sum L2.Fs (kD (m5 [("found",0),("n",3),("hole",5),("p",4)] ["k"] (mf jC T.b_range (kD (pv 4))) (fun C s H fp=>⟨(nB 4),kd,(j9 (oU (K:=K) Z) (j9 (tI (K:=K) Z) (pv 0) jH) (jR ky (jR kG (pv 2) (jR ko (pv 4) (jR kq (pv 1) (pv 3)))) (pv 1)))⟩)))) jH) (jJ (jT pE)) kh))))) (jE (kR aI Z (ki (pv 2)) (lG 6 nd) (jJ (kP (mZ (mT (j7 (xL T) hr (ke (j7 (wF T) hr (ke (pv 6) (j9 jZ (pv 0) jH))) (j9 jZ (pv 0) jH))))) (jJ (jT pE)) kh))) (jJ (jT (Fi (j7 (xL T) hr (ke (j7 (wF T) hr (ke (pv 1) (j9 jZ (pv 0) jH))) (j9 jZ (pv 0) jH))))))))))),?_⟩;refine⟨_,Z,r,_,Z,.inl (jV.of ha),?_⟩;rw[aa,la]
 try dsimp only[kZ,ox,oA]
 refine⟨_,Z,_,_,_,true,Z,.tup ht,n4 _,true,Z,yt ?_⟩;refine⟨_,Z,t,_,Z,.inr (kJ.of ht),Z,_,Z,lP (by show ¬(!decide (V.int 3=V.int 3))=true;simp) ?_⟩;refine⟨_,Z,t,_,_,_,Z,Z,kJ.of ht,i0,Z,_,Z,xW Z ?_⟩;refine⟨_,Z,t,_,_,_,Z,Z,kJ.of ht,i1,_,Z,wt,W,(by rw[lW];rfl),hw,J,fun H1 lH=>⟨_,Z,lP O ?_⟩⟩;refine⟨_,Z,t,_,_,_,Z,Z,kJ.of (lH _ _ ht),i2,s0,Z,⟨_,Z,lP O ?_⟩⟩;refine⟨_,Z,t,_,_,_,Z,Z,kJ.of (lH _ _ ht),i2,_,_,Z,Z,_,Z,lP (by simpa using s1) ?_⟩;refine⟨_,Z,t,_,_,_,Z,Z,kJ.of (lH _ _ ht),i2,Z,_,Z,lP (fun z=>ne1 (uK z)) ?_⟩;refine⟨_,Z,n,Z,n1,J,fun r1 H2 E8 lE f2 h2 QH=>⟨r1,Z,⟨_,jV.of h2⟩,?_⟩⟩;have Nt:=Pt.oE QH hp;subst Nt;have mC:=lH.trans lE;refine mB (xs:=(E8.map Prod.fst).map V.int) (fun i σ H3=>jM H2 H3/\∃(o1 o2 o3:Option V),σ=[some (.ref t),some (.ref r),some (.ref s'),some (.int n),o1,o2,o3]) ⟨jM.refl _,none,none,none,Z⟩ (fun i σ H3 _ z=>z.1.seq (jV.of h2)) ?_ ?_
 .rintro i xv σ H3 hx ⟨kT,o1,o2,o3,rfl⟩;obtain⟨p,rfl,ep⟩:=int_at hx;have pm:p∈E8.map Prod.fst:=ah ep;obtain⟨y,hy,ey⟩:=List.mem_map.mp pm;have pd:p∣(n:Int):=by rw[<-ey];exact((Pt.n9 hp y).mp hy).2.1
  have p2:2<=p:=by rw[<-ey];exact(hp.row y hy).pr.1
  have pn:=aT J pd;obtain⟨st,Bi,D0,Ig,_⟩:=Rg.yD n1 p2 pd;have Z8:(st:Int)<=n:=by rw[<-Bi];exact b8 _ J
  refine⟨_,Z,_,Z,_,_,Z,Z,kK J J,st,cU (fun z=>[V.int z]) Bi,J,J,?_⟩;refine oP (n:=st) (fun j σ H4=>jM H2 H4/\∃(o2 o3:Option V),σ=[some (.ref t),some (.ref r),some (.ref s'),some (.int n),some (.int p),o2,o3]) ⟨kT,_,_,Z⟩ ?_ ?_
  .rintro j σ H4 hj ⟨lZ,o2,o3,rfl⟩;have smW:=mC.trans lZ;have hW4:=smW _ _ hw;refine⟨_,Z,p.toNat,(by rw[bU J]),J,J,?_⟩;refine GK (lo:=0) (n:=p.toNat) ((List.range p.toNat).map fun (t:Nat)=>Ld.at' W ((j:Int)+(t:Int)*st)) (by rw[aa,gi]) J ?_ ?_
   .intro k H5 hk mJ R kk;rw[dD];have bd:(j:Int)+(k:Int)*st<n:=by
     have a1:=aq (show (k:Int)<=p-1 by lia) (show 0<=(st:Int) by lia);have a2:(n:Int)=p*st:=by rw[Ig,aO,bU J]
     rw[cN] at a1;lia
    have bd0:0<=(k:Int)*st:=bx J J;have em:((j:Int)+(k:Int)*((n:Int)/p))%n=(j:Int)+(k:Int)*st:=by rw[Bi];exact aU J bd
    refine⟨_,Z,t,_,_,_,Z,Z,kJ.of (mJ _ _ (smW _ _ ht)),i1,_,Z,_,Z,_,Z,_,Z,_,_,Z,Z,kK J J,_,_,Z,Z,nq J J,_,_,Z,Z,_,Z,_,_,Z,Z,(show 0<(n:Int) by lia),?_⟩;dsimp only;rw[em];exact⟨wt,_,_,_,Z,Z,jV.of (mJ _ _ hW4),At J J,kk _ _ (jM.refl _) (by rw[af,dh hk];rfl)⟩
   .intro D H5 mJ _ h5;refine⟨D,_,Z,jV.of h5,?_⟩;rw[Pl.Hx (fun t=>Ld.at' W ((j:Int)+t*st)),zr p.toNat st (by rw[bU J];exact pm) D0 Ig j J J];exact⟨Z,_,Z,xW Z ⟨lZ.trans mJ,_,_,Z⟩⟩
  .rintro σ H4 ⟨lZ,o2,o3,rfl⟩;exact⟨lZ,_,_,_,Z⟩
 rintro σ H3 ⟨kT,o1,o2,o3,rfl⟩;have w6:=mC.trans kT;refine⟨_,Z,s',Z,⟨_,jV.of (w6 _ _ h1)⟩,mB (K:=K) (xs:=as.map V.ref) (fun i σ H4=>jM H H4/\∃o4:Option V,σ=[some (.ref t),some (.ref r),some (.ref s'),some (.int n),o1,o2,o4]) ⟨w6,_,Z⟩ (fun i σ H4 _ z=>z.1.seq (jV.of h1)) ?_ ?_⟩
 .rintro i x σ H4 hx ⟨sm,o,rfl⟩;obtain⟨b,row,rfl,hb,kX,hh⟩:=mv pa hx;have rm:=ah kX;have rl:=lb row rm;refine⟨_,Z,_,Z,t,_,_,_,Z,Z,kJ.of (sm _ _ ht),i1,b,wt,row,W,N,M,Z,sm _ _ hh,sm _ _ hw,by rw[rl.1,lW],rl.2,bW,N1,M1,fun H5 mJ=>?_⟩;exact⟨_,Z,t,_,_,_,Z,Z,kJ.of (mJ _ _ (sm _ _ ht)),i2,Rx.dot row W,s0,Z,s1,fun _=>⟨_,Z,lP O ⟨sm.trans mJ,_,Z⟩⟩,fun RC=>absurd (dv row rm) RC⟩
 .rintro σ H4 ⟨sm,o,rfl⟩;refine⟨_,Z,_,Z,t,_,_,_,Z,Z,kJ.of (sm _ _ ht),i1,r,wt,a,W,N,M,Z,sm _ _ ha,sm _ _ hw,by rw[la,lW],bA,bW,N1,M1,fun H5 mJ=>?_⟩;exact⟨_,Z,t,_,_,_,Z,Z,kJ.of (mJ _ _ (sm _ _ ht)),i2,Rx.dot a W,s0,Z,s1,fun d=>absurd d ndv,fun _=>⟨_,Z,q H5 (sm.trans mJ)⟩⟩
inductive OW (vs:List V)(H:Hp)(Q:VK)(E_:XK):Prop
 | mk (n ms:Nat)(c:Int)(_:vs=[.int n,.int c,.int ms])(_:1<=n)(_:n<=60)(_:ms<=10^6)(_:∀t H' (b:List Int),jM H H'->H t=none->H' t=some (.lst (b.map V.int))->b.length=n->(∀x∈b,x.natAbs<=3*ms)->Q (.ref t) H')
theorem yV (T:Txt K mg CF tL tF tM):Df P w K mg base 1 "_law_block" ["n","cell","most"] OW:=by
 refine kN T.d_law_block yL fun f cdv A outer s H vs Q E hr nd h=>?_;obtain⟨n,ms,c,rfl,n1,n2,mz,q⟩:=h;refine⟨_,(jE (j8 3 nd (jR oS (lD (kD jH)) (pv 0))) (jE (kR aI Z (mf jC T.b_range (kD jH)) (lG 4 nd) (jE (j8 5 nd (jR ky (jR ko (jR kG (jR ky (pv 1) (jR yO jH jH)) (pv 4)) (j9 kC (lD (jF jH (jF jH (jF jH j5)))) (pv 4))) (j9 kC (lD (jF jH (jF jH (jF jH j5)))) (pv 4)))) (jE (j8 5 nd (jR ky (jR ko (pv 5) (pv 5)) jH)) (jE (j8 6 nd (jR ky (pv 5) (pv 0))) (jJ (oY (jR mU (jR kG (j9 kC (pv 3) (pv 6)) (jR ky (jR kq (pv 5) jH) (jR kG (jR ko jH (pv 2)) jH))) (pv 2)) (oR (pv 3) (pv 6) set_list))))))) (jJ (jT (pv 3))))),?_⟩;refine⟨jL,fun lo wX=>⟨_,Z,lo,_,_,Z,Z,jG,J,J,zfO,fun p hp=>?_⟩⟩;rw[rep0];have E4:jM H (upd (upd H lo (.lst [V.int 0])) p (.lst ((List.replicate n (0:Int)).map V.int))):=jK (jK (jM.refl _) wX) hp;have pn:H p=none:=(jK (jM.refl _) wX).free hp;have hP:upd (upd H lo (.lst [V.int 0])) p (.lst ((List.replicate n (0:Int)).map V.int)) p=some (.lst ((List.replicate n (0:Int)).map V.int)):=jG;generalize upd (upd H lo (.lst [V.int 0])) p (.lst ((List.replicate n (0:Int)).map V.int))=H0 at E4 hP ⊢;refine⟨3,Z,O,O,oP (n:=3) (fun i σ H2=>jM H H2/\∃(ns:List Int)(o1 o2 o3:Option V),σ=[some (.int n),some (.int c),some (.int ms),some (.ref p),o1,o2,o3]/\H2 p=some (.lst (ns.map V.int))/\ns.length=n/\∀x∈ns,x.natAbs<=i*ms) ⟨E4,_,none,none,none,Z,hP,aR,fun x hx=>by rw[(eL.mp hx).2];exact dH _⟩ ?_ ?_⟩
 .rintro i σ H2 hi ⟨sm,ns,o1,o2,o3,rfl,hn,ln,bn⟩;obtain⟨u1,e1,a1,a2⟩:∃u:Int,lY [V.int 48271,V.int 69621,V.int 16807] (i:Int)=some (.int u)/\0<=u/\u<100000:=by
   have:i=0\/i=1\/i=2:=J;rcases this with z | z | z<;>subst z<;>exact⟨_,rfl,O,O⟩
  obtain⟨u2,e2,b1,b2⟩:∃u:Int,lY [V.int 2147483647,V.int 2147483629,V.int 2147483587] (i:Int)=some (.int u)/\0<u/\u<2147483648:=by
   have:i=0\/i=1\/i=2:=J;rcases this with z | z | z<;>subst z<;>exact⟨_,rfl,O,O⟩
  refine⟨_,Z,_,_,Z,Z,⟨O,O,O⟩,_,_,Z,Z,(show (0:Int)<10^(30:Int).toNat by decide),_,Z,_,_,Z,Z,jU,fun l1 E6=>?_⟩;refine⟨_,Z,l1,_,_,_,Z,Z,jV.of jG,e1,_,_,Z,Z,ic (fO J J),jU,fun l2 J0=>?_⟩;have lE:=jK (o:=.lst [V.int 2147483647,V.int 2147483629,V.int 2147483587]) (jK (o:=.lst [V.int 48271,V.int 69621,V.int 16807]) (jM.refl H2) E6) J0;refine⟨_,Z,l2,_,_,_,Z,Z,jV.of jG,e2,_,_,Z,Z,b1,?_⟩;generalize upd (upd H2 l1 (.lst [V.int 48271,V.int 69621,V.int 16807])) l2 (.lst [V.int 2147483647,V.int 2147483629,V.int 2147483587])=H3 at lE ⊢;dsimp only;obtain⟨nu,Yj⟩:∃nu:Int,nu=(c%10^(30:Int).toNat+(i:Int))*u1%u2:=⟨_,Z⟩;rw[<-Yj];have m1:0<=nu:=by rw[Yj];exact aD _ J
  have m2:nu<u2:=by rw[Yj];exact az _ b1
  refine⟨_,Z,_,Z,_,_,Z,Z,tu J J,_,_,Z,Z,(show (0:Int)<2147483563 by decide),?_⟩;dsimp only;obtain⟨nv,KY⟩:∃nv:Int,nv=nu*nu%2147483563:=⟨_,Z⟩;rw[<-KY];have m3:0<=nv:=by rw[KY];exact aD _ O
  have m4:nv<2147483563:=by rw[KY];exact az _ O
  obtain⟨j,hj⟩:∃j:Nat,(j:Int)=nv%(n:Int):=⟨(nv%(n:Int)).toNat,Int.toNat_of_nonneg (Int.emod_nonneg _ J)⟩;have jn:(j:Int)<n:=by rw[hj];exact az _ J
  refine⟨_,Z,_,Z,_,_,Z,Z,(show (0:Int)<n by lia),?_⟩;dsimp only;rw[<-hj];have hn3:=lE _ _ hn;have cg:lY (ns.map V.int) (j:Int)=some (.int (Lt.g ns j)):=lU zfN;refine⟨_,Z,_,Z,p,_,_,_,Z,Z,jV.of hn3,cg,_,Z,_,_,Z,Z,kK O O,_,Z,_,_,Z,Z,nq O O,_,_,Z,Z,_,_,Z,Z,(show (0:Int)<2*ms+1 by lia),_,_,Z,Z,_,Z,_,_,Z,Z,_,Z,_,Z,p,_,_,_,Z,Z,hn3,pZ J zfM,?_⟩;rw[ae,set_int];refine⟨ku (sm.trans lE) pn,_,_,_,_,Z,jG,by rw[cf,ln],fun x hx=>?_⟩;rw[f9];rcases List.mem_or_eq_of_mem_set hx with z | z
  .have:=bn x z;lia
  .have c1:=aD (nv/61) (show (2*(ms:Int)+1)≠0 by lia);have c2:=az (nv/61) (show (0:Int)<2*ms+1 by lia);have b:=bn _ (Rx.nV (l:=ns) (i:=j) J);rw[z];lia
 .rintro σ H2 ⟨sm,ns,o1,o2,o3,rfl,hn,ln,bn⟩;exact⟨_,Z,q p H2 ns sm pn hn ln bn⟩
theorem Gp {K:PySem.W.Frag}{g:TG}{te:TE}{kW:St}{H:Hp}{Q:VK}{n:Nat} (Φ:List Int->Prop)(hz:n<=20000)
 (hs:∀(i:Nat) H2,i<n->jM H H2->∀R:VK,(∀H4 c z,jM H2 H4->Φ z->H4 c=some (.lst (z.map V.int))->R (.ref c) H4)->g (.int i) kW H2 fun mK H3=>te mK H3 R)
 (hd:∀D H2 zs,jM H H2->H D=none->k9 H2 D zs->zs.length=n->(∀z∈zs,Φ z)->Q (.ref D) H2):mS (Ci 0 n) g xC te kW Q H:=by
  refine pI (fun i rs H2=>jM H H2/\∃(as:List Addr)(zs:List (List Int)),rs=as.map V.ref/\Paired (fun a (x:List Int)=>H2 a=some (.lst (x.map V.int))) as zs/\zs.length=i/\∀z∈zs,Φ z) ⟨jM.refl H,[],[],Z,.nil,Z,fun _ h=>nomatch h⟩
    (fun i rs H2 hi z=>by obtain⟨as,zs,e,pa,l,_⟩:=z.2;rw[e,List.length_map,jY pa,l];exact mD J) ?_ ?_
  · rintro i rs H2 hi ⟨sm,as,zs,rfl,pa,l,hp⟩
    exact hs i H2 hi sm (fun y H4=>jM H H4/\∃(tZ:List Addr)(Yk:List (List Int)),as.map V.ref++[y]=tZ.map V.ref/\Paired (fun a (x:List Int)=>H4 a=some (.lst (x.map V.int))) tZ Yk/\Yk.length=i+1/\∀z∈Yk,Φ z) fun H4 c z s4 hz hc=>⟨sm.trans s4,as++[c],zs++[z],by rw[aQ];rfl,ix (Paired.za pa fun d x e=>s4 _ _ e) hc,by rw[aJ,l];rfl,fun y hy=>by
      rcases List.mem_append.mp hy with h | h
      · exact hp y h
      · rw[b3.mp h];exact hz⟩
  · rintro rs H2 ⟨sm,as,zs,rfl,pa,l,hp⟩ D hD
    exact hd D _ zs (jK sm hD) (sm.free hD) ⟨as,jG,Paired.za pa fun d x e=>jK (jM.refl _) hD _ _ e⟩ l hp
theorem Mc (T:Txt K mg CF tL tF tM){f:Addr}{fd:FuncData}(F:DF K "law" "law" Fk f fd):re P w K mg base DL 14 f fd ["script"] (DK K):=by
 refine F.ok FY (fun vs H Q E h=>?_) (fun cdv A outer s H vs Q E hr h=>?_)
 .obtain⟨_,_,rfl,_⟩:=h;rfl
 obtain⟨a,ns,rfl,hS,h63,q⟩:=h;have nd:=FY.nd;refine⟨_,(jE (j8 1 nd (jR kG jH (jR ky (jR kq (j7 (kM T) hr (ke (pv 0) jH)) jH) jH))) (zB (kP (k7 m7 (jR ky (j7 (kM T) hr (ke (pv 0) jH)) jH) jH) (jJ (j8 1 nd (jR kG jH (jR ky (jR kq (j7 (kM T) hr (ke (pv 0) jH)) jH) jH)))) kh) (jE (j8 2 nd (jR ky (j7 (kM T) hr (ke (pv 0) jH)) jH)) (zB (kP (k7 m7 (jR ky (jR kq (j7 (kM T) hr (ke (pv 0) jH)) jH) jH) jH) (jJ (j8 2 nd (jR kG jH (jR ky (jR kq (j7 (kM T) hr (ke (pv 0) jH)) jH) jH)))) kh) (jE (j8 3 nd (j9 kC (lD (jF jH (jF jH (jF (jR yO jH jH) j5)))) (jR ky (jR kq (j7 (kM T) hr (ke (pv 0) jH)) jH) jH))) (jE (sM 4 [("n",1),("most",3),("script",0)] ["k"] nd (mf jC T.b_range (kD (pv 2))) (fun C s H fp=>⟨(nB 3),kd,(j7 (yV T) hr (jF (pv 0) (jF (j7 (kM T) hr (ke (pv 2) (jR kG jH (pv 3)))) (jF (pv 1) j5))))⟩)) (zB (kP (k7 m7 (jR ky (j7 (kM T) hr (ke (pv 0) jH)) jH) jH) (jE (j8 5 nd (jR kG jH (jR ky (jR kq (j7 (kM T) hr (ke (pv 0) jH)) jH) jH))) (jJ (sM 4 [("share_v",5)] ["block"] nd (ki (pv 4)) (fun C s H fp=>⟨(nB 1),kd,(m5 [("share_v",0)] ["one"] (Gd (K:=K) Z (pv 1)) (fun C s H fp=>⟨(nB 1),kd,(jR ko (pv 0) (pv 1))⟩))⟩) (hclos:=Z)))) kh) (jE (j8 6 nd (j9 kC (lD (ke (jR yO jH jH) jH)) (jR ky (j7 (kM T) hr (ke (pv 0) jH)) jH))) (jE (j8 7 nd (jR oS (lD (kD jH)) (pv 1))) (jE (kR aI Z (Em jC T.b_range (ke jH (kE (yc Z) jC T.b_min L2.FN (ke (nI T.b_len (pv 0)) jH)))) (lG 8 nd) (jE (j8 9 nd (jR ky (pv 8) (pv 1))) (jJ (oY (jR mU (jR kG (j9 kC (pv 7) (pv 9)) (jR ky (j9 kC (pv 0) (pv 8)) (jR kG (jR ko jH (pv 6)) jH))) (pv 6)) (oR (pv 7) (pv 9) set_list))))) (jE (sM 10 [] ["block"] nd (ki (pv 4)) (fun C s H fp=>⟨(nB 0),kd,(p6 (xw (K:=K) Z) jC T.b_list L2.pF (kD (pv 0)))⟩)) (jE (j8 11 nd (p6 nJ jC T.b_list L2.pF (kD (pv 7)))) (jE (j8 12 nd (j7 (Br T) hr (ke (pv 11) (pv 10)))) (jE (kP (PW.pt (oq (k7 (zg (D4 hr)) (pv 10) (pv 4)) (qK (k7 (zg (D4 hr)) (pv 11) (pv 7))))) (jJ (jT pE)) kh) (jJ (jT (OM (j7 (Ce T) hr (jF (pv 12) (jF (pv 7) (jF (pv 4) j5)))) (yT (j7 (Cr T) hr (jF (pv 12) (jF (pv 7) (jF (pv 4) j5)))))))))))))))))))))),?_⟩;rw[show start ["script","n","many","most","blocks","share_v","great","load","k","at","handed","aim","found"] [V.ref a]=[some (.ref a),none,none,none,none,none,none,none,none,none,none,none,none] from Z]
 -- n
 refine⟨_,Z,a,ns,0,Z,hS,dW 0,fun v0=>⟨_,_,Z,Z,kK O O,_,_,Z,Z,(show (0:Int)<12 by decide),_,_,Z,Z,?_⟩⟩
 try dsimp only[kZ,ox,oA]
 refine⟨fun σ H2=>H=H2/\∃n:Nat,σ=[some (.ref a),some (.int n),none,none,none,none,none,none,none,none,none,none,none]/\1<=n/\n<=60,?_,?_⟩
 .have r0:=aD (v0/3) (show (12:Int)≠0 by decide);have r1:=az (v0/3) (show (0:Int)<12 by decide);refine⟨_,Z,a,ns,0,Z,hS,dW 0,fun v1=>⟨_,_,Z,Z,(show (0:Int)<3 by decide),Z,_,Z,mM (fun _=>?_) (fun _=>⟨Z,(1+v0/3%12).toNat,by rw[bU J]<;>rfl,J,J⟩)⟩⟩;refine⟨_,Z,a,ns,0,Z,hS,dW 0,fun v2=>⟨_,_,Z,Z,kK O O,_,_,Z,Z,(show (0:Int)<60 by decide),_,_,Z,Z,?_⟩⟩;have r2:=aD (v2/3) (show (60:Int)≠0 by decide);have r3:=az (v2/3) (show (0:Int)<60 by decide);exact⟨Z,(1+v2/3%60).toNat,by rw[bU J];rfl,J,J⟩
 rintro σ H2 ⟨rfl,n,rfl,n1,n2⟩
 -- many
 refine⟨_,Z,a,ns,1,Z,hS,O,fun v3=>⟨_,_,Z,Z,(show (0:Int)<6 by decide),?_⟩⟩
 try dsimp only[kZ,ox,oA]
 refine⟨fun σ H2=>H=H2/\∃many:Nat,σ=[some (.ref a),some (.int n),some (.int many),none,none,none,none,none,none,none,none,none,none]/\many<=9,?_,?_⟩
 .have r0:=aD v3 (show (6:Int)≠0 by decide);have r1:=az v3 (show (0:Int)<6 by decide);refine⟨_,Z,a,ns,1,Z,hS,O,fun v1=>⟨_,_,Z,Z,kK O O,_,_,Z,Z,(show (0:Int)<8 by decide),Z,_,Z,mM (fun _=>?_) (fun _=>⟨Z,(v3%6).toNat,by rw[bU J]<;>rfl,J⟩)⟩⟩;refine⟨_,Z,a,ns,1,Z,hS,O,fun v2=>⟨_,_,Z,Z,kK O O,_,_,Z,Z,(show (0:Int)<4 by decide),_,_,Z,Z,?_⟩⟩;have r2:=aD (v2/144) (show (4:Int)≠0 by decide);have r3:=az (v2/144) (show (0:Int)<4 by decide);exact⟨Z,(6+v2/144%4).toNat,by rw[bU J];rfl,J⟩
 rintro σ H2 ⟨rfl,many,rfl,m9⟩
 -- most
 refine⟨_,_,Z,Z,⟨O,O,O⟩,jU,fun ml Xe=>?_⟩;have lH:=jK (o:=.lst [V.int 1,V.int 9,V.int (10^6)]) (jM.refl H) Xe;have Rm:upd H ml (.lst [V.int 1,V.int 9,V.int (10^6)]) ml=some (.lst [V.int 1,V.int 9,V.int (10^6)]):=jG;have eml:(HO.lst [V.int 1,V.int 9,(fun (i j:Int)=>V.int (i^j.toNat)) 10 6])=.lst [V.int 1,V.int 9,V.int (10^6)]:=Z;rw[eml];generalize upd H ml (.lst [V.int 1,V.int 9,V.int (10^6)])=H1 at lH Rm ⊢;have QO:=lH.seq hS;refine⟨_,Z,a,ns,1,Z,QO,O,fun c1=>⟨_,_,Z,Z,kK O O,_,_,Z,Z,(show (0:Int)<3 by decide),?_⟩⟩;obtain⟨ms,hms,bms⟩:∃ms:Nat,lY [V.int 1,V.int 9,V.int (10^6)] (c1/6%3)=some (.int ms)/\ms<=10^6:=by
  have r0:=aD (c1/6) (show (3:Int)≠0 by decide);have r1:=az (c1/6) (show (0:Int)<3 by decide);have:c1/6%3=0\/c1/6%3=1\/c1/6%3=2:=J;rcases this with z | z | z<;>rw[z]
  .exact⟨1,Z,O⟩
  .exact⟨9,Z,O⟩
  .exact⟨10^6,Z,O⟩
 refine⟨ml,_,_,_,Z,Z,jV.of Rm,hms,?_⟩
 try dsimp only[kZ,ox,oA]
 -- blocks
 refine⟨_,Z,many,Z,J,J,?_⟩;refine Gp (K:=K) (n:=many) (fun z=>z.length=n/\∀x∈z,x.natAbs<=3*ms) J ?_ ?_
 .intro i H2 hi lE R kk;refine⟨_,Z,_,Z,_,Z,_,_,Z,Z,a,ns,4+(i:Int),Z,lE.seq QO,J,fun v4=>⟨_,Z,n,ms,v4,Z,n1,n2,bms,fun t H3 b kT _ h3 lb bb=>kk H3 t b kT ⟨lb,bb⟩ h3⟩⟩
 intro bl0 H2 R8 lE _ Nz NA Oa
 try dsimp only[kZ,ox,oA]
 have M8:=lE.seq QO;refine⟨fun σ H3=>jM H2 H3/\∃(bl:Addr)(bs:List (List Int))(o:Option V),σ=[some (.ref a),some (.int n),some (.int many),some (.int ms),some (.ref bl),o,none,none,none,none,none,none,none]/\k9 H3 bl bs/\bs.length=many/\∀z∈bs,z.length=n/\∀x∈z,x.natAbs<=7*(3*ms),?_,?_⟩
 .refine⟨_,Z,a,ns,2,Z,M8,O,fun v5=>⟨_,_,Z,Z,(show (0:Int)<4 by decide),Z,_,Z,mM (fun _=>?_) (fun _=>⟨jM.refl _,bl0,R8,none,Z,Nz,NA,fun z hz=>⟨(Oa z hz).1,fun x hx=>by have:=(Oa z hz).2 x hx;lia⟩⟩)⟩⟩;refine⟨_,Z,a,ns,2,Z,M8,O,fun v6=>⟨_,_,Z,Z,kK O O,_,_,Z,Z,(show (0:Int)<6 by decide),_,_,Z,Z,?_⟩⟩
  try dsimp only[kZ,ox,oA]
  have r0:=aD (v6/4) (show (6:Int)≠0 by decide);have r1:=az (v6/4) (show (0:Int)<6 by decide);obtain⟨sv,hsv⟩:∃sv:Int,sv=2+v6/4%6:=⟨_,Z⟩;rw[<-hsv];obtain⟨as,h1,pa⟩:=id Nz;have lp:=jY pa;refine⟨_,Z,bl0,Z,⟨_,jV.of h1⟩,?_⟩;refine oT (K:=K) (xs:=as.map V.ref) (R8.map fun b=>b.map fun x=>sv*x) (by rw[aa,aa,lp]) zfM (jV.of h1) ?_ ?_
  .intro i x H3 hx kT R kk;obtain⟨b,row,rfl,hb,kX,hh⟩:=mv pa hx;have SA:=kT _ _ hh;refine⟨_,Z,b,Z,⟨_,jV.of SA⟩,?_⟩;refine lB (K:=K) (xs:=row.map V.int) (row.map fun x=>sv*x) zfP (by rw[aa,(Oa row (ah kX)).1];lia) (jV.of SA) ?_ ?_
   .intro j y H4 hy lZ R' kk';obtain⟨u,rfl,hu⟩:=int_at hy;exact⟨_,Z,_,Z,_,_,Z,Z,tu J J,kk' _ _ (jM.refl _) (by rw[af,hu];rfl)⟩
   intro c H4 lZ _ h4;exact kk H4 c _ lZ (by rw[af,kX];rfl) h4
  intro bl H3 kT _ Yl;refine⟨kT,bl,_,_,Z,Yl,by rw[aa,NA],fun z hz=>?_⟩;obtain⟨b,hb,rfl⟩:=List.mem_map.mp hz;refine⟨by rw[aa];exact(Oa b hb).1,fun x hx=>?_⟩;obtain⟨y,hy,rfl⟩:=List.mem_map.mp hx;rw[aM];exact cI J ((Oa b hb).2 y hy)
 rintro σ H3 ⟨kT,bl,bs,o5,rfl,Yl,RZ,Ob⟩;clear Oa NA Nz;have hS3:=kT.seq M8
 -- great
 refine⟨_,_,Z,Z,⟨O,O,O⟩,jI,fun gl M6=>?_⟩;have lZ:=jK (o:=.lst [V.int (10^60),V.int 2]) (jM.refl H3) M6;have Rn:upd H3 gl (.lst [V.int (10^60),V.int 2]) gl=some (.lst [V.int (10^60),V.int 2]):=jG;have egl:(HO.lst [(fun (i j:Int)=>V.int (i^j.toNat)) 10 60,V.int 2])=.lst [V.int (10^60),V.int 2]:=Z;rw[egl];generalize upd H3 gl (.lst [V.int (10^60),V.int 2])=H4 at lZ Rn ⊢;have Ym:=lZ.seq hS3;refine⟨_,Z,a,ns,3,Z,Ym,O,fun c2=>⟨_,_,Z,Z,(show (0:Int)<2 by decide),?_⟩⟩;obtain⟨gr,hgr,bgr⟩:∃gr:Nat,lY [V.int (10^60),V.int 2] (c2%2)=some (.int gr)/\gr<=10^60:=by
  have r0:=aD c2 (show (2:Int)≠0 by decide);have r1:=az c2 (show (0:Int)<2 by decide);have:c2%2=0\/c2%2=1:=J;rcases this with z | z<;>rw[z]
  .exact⟨10^60,Z,O⟩
  .exact⟨2,Z,O⟩
 refine⟨gl,_,_,_,Z,Z,jV.of Rn,hgr,?_⟩
 try dsimp only[kZ,ox,oA]
 -- load
 refine⟨jL,fun lo wX=>⟨_,Z,lo,_,_,Z,Z,jG,J,J,zfO,fun p hp=>?_⟩⟩;rw[rep0];have mJ:jM H4 (upd (upd H4 lo (.lst [V.int 0])) p (.lst ((List.replicate n (0:Int)).map V.int))):=jK (jK (jM.refl _) wX) hp;have pn:H4 p=none:=(jK (jM.refl _) wX).free hp;have hP:upd (upd H4 lo (.lst [V.int 0])) p (.lst ((List.replicate n (0:Int)).map V.int)) p=some (.lst ((List.replicate n (0:Int)).map V.int)):=jG;generalize upd (upd H4 lo (.lst [V.int 0])) p (.lst ((List.replicate n (0:Int)).map V.int))=H5 at mJ hP ⊢
 try dsimp only[kZ,ox,oA]
 have zeC:((ns.map V.int).length:Int)<=63:=by rw[aa];lia
 obtain⟨mx,hmx,mx1,mx2⟩:∃mx:Int,mx=(if (93:Int)<((ns.map V.int).length:Int) then 93 else ((ns.map V.int).length:Int))/\0<=mx/\mx<=(ns.length:Int):=⟨_,Z,by split<;>lia,by rw[List.length_map];split<;>lia⟩;refine⟨_,Z,a,_,Z,.inl (mJ.seq Ym),_,_,Z,13,mx,(by rw[hmx]),⟨J,J,J,J⟩,?_⟩;obtain⟨nn,hnn⟩:∃nn:Nat,nn=(mx-13).toNat:=⟨_,Z⟩;rw[<-hnn];refine xZ (lo:=13) (n:=nn) (fun i σ H6=>jM H4 H6/\∃(ld:List Int)(o8 o9:Option V),σ=[some (.ref a),some (.int n),some (.int many),some (.int ms),some (.ref bl),o5,some (.int gr),some (.ref p),o8,o9,none,none,none]/\H6 p=some (.lst (ld.map V.int))/\ld.length=n/\∀x∈ld,x.natAbs<=i*gr) ⟨mJ,_,none,none,Z,hP,aR,fun x hx=>by rw[(eL.mp hx).2];exact dH _⟩ ?_ ?_
 .rintro i σ H6 hi ⟨qZ,ld,o8,o9,rfl,h6,ll,Ro⟩;obtain⟨kk,hkk⟩:∃kk:Nat,kk=13+i:=⟨_,Z⟩;have ek:(13:Int)+(i:Int)=(kk:Nat):=J;rw[ek];obtain⟨j,hj⟩:∃j:Nat,(j:Int)=(kk:Int)%(n:Int):=⟨kk%n,by rw[Int.natCast_emod]⟩;have jn:(j:Int)<n:=by rw[hj];exact az _ J
  refine⟨_,Z,_,Z,_,_,Z,Z,(show (0:Int)<n by lia),?_⟩;dsimp only;rw[<-hj];have cg:lY (ld.map V.int) (j:Int)=some (.int (Lt.g ld j)):=lU zfN;have cc:lY (ns.map V.int) (kk:Int)=some (.int (Lt.g ns kk)):=lU zfN;refine⟨_,Z,_,Z,p,_,_,_,Z,Z,jV.of h6,cg,_,Z,_,Z,a,_,_,_,Z,Z,qZ.seq Ym,cc,_,Z,_,_,Z,Z,nq O O,_,_,Z,Z,_,_,Z,Z,(show (0:Int)<2*gr+1 by lia),_,_,Z,Z,_,Z,_,_,Z,Z,_,Z,_,Z,p,_,_,_,Z,Z,h6,pZ J zfM,?_⟩;rw[ae,set_int];refine⟨ku qZ pn,_,_,_,Z,jG,by rw[cf,ll],fun x hx=>?_⟩;rw[f9];rcases List.mem_or_eq_of_mem_set hx with z | z
  .have:=Ro x z;lia
  .have c1:=aD (Lt.g ns kk) (show (2*(gr:Int)+1)≠0 by lia);have c2:=az (Lt.g ns kk) (show (0:Int)<2*gr+1 by lia);have b:=Ro _ (Rx.nV (l:=ld) (i:=j) J);rw[z];lia
 rintro σ H6 ⟨qZ,ld,o8,o9,rfl,h6,ll,Ro⟩;have bld:∀x∈ld,x.natAbs<=63*10^60:=fun x hx=>bR (Ro x hx) (cI J bgr);clear Ro;have Rp:=(Yl.same lZ).same qZ
 -- handed,aim
 obtain⟨as,h1,pa⟩:=id Rp;have lp:=jY pa;refine⟨_,Z,bl,Z,⟨_,jV.of h1⟩,?_⟩;refine oT (K:=K) (xs:=as.map V.ref) bs (by rw[aa,lp]) zfM (jV.of h1) ?_ ?_
 .intro i x H9 hx vf R kk;obtain⟨b,row,rfl,hb,kX,hh⟩:=mv pa hx;exact⟨_,Z,b,_,Z,.inl (jV.of (vf _ _ hh)),fun l hl=>kk _ l row (jK (jM.refl _) hl) kX jG⟩
 intro hd H9 vf _ Yn
 try dsimp only[kZ,ox,oA]
 refine⟨_,Z,p,_,Z,.inl (jV.of (vf _ _ h6)),fun ai hai=>?_⟩;have sX:=jK (o:=.lst (ld.map V.int)) (jM.refl H9) hai;have D3:upd H9 ai (.lst (ld.map V.int)) ai=some (.lst (ld.map V.int)):=jG;generalize upd H9 ai (.lst (ld.map V.int))=zS at sX D3 ⊢
 try dsimp only[kZ,ox,oA]
 have Lh:=vf.trans sX;have Bf:=Rp.same Lh;have Ih:=Lh _ _ h6;obtain⟨ps,hps⟩:=Pl.FK (n:=(n:Int)) J;obtain⟨l,p5⟩:=Rt.oF.ex n1 hps;have kln:=Rt.tW n l;have rc:Rco bs.length (Rt.om n l).length (2^34) (2^216):=LR O O Ct.VT O fun k _ _=>by lia
 have Yo:∀y∈bs,y.length=n/\Bd 400 y:=fun y hy=>⟨(Ob y hy).1,fun z hz=>bZ (bR ((Ob y hy).2 z hz) (show 7*(3*ms)<=10^9 by lia)) O⟩;have ldN:Bd 400 ld:=fun z hz=>bZ (bld z hz) O;refine⟨_,Z,_,Z,ai,hd,ld,bs,n,2^34,2^216,ps,l,Z,D3,Yn.same sX,ll,fun b hb=>(Ob b hb).1,n1,n2,J,p5,rc,fun b hb z hz=>bR (Ct.Kg p5 J (Ob b hb).2 z hz) (bR (dO (2^8) (show 7*(3*ms)<=21*10^6 by lia)) O),fun z hz=>bR (Ct.Kg p5 J bld z hz) O,fun t ct NX cs qk SB Yp lc bc sh=>?_,fun t wt NX AW W s0 qk SB Yp lA s1 bA lW ev sh=>?_⟩
 .try dsimp only[kZ,ox,oA]
  refine⟨_,Z,_,Z,Dg ((Yn.same sX).same qk) (Bf.same qk) ⟨_,Z,lP jB ?_⟩⟩;refine⟨_,Z,_,Z,GB (jV.of (qk _ _ D3)) (jV.of (qk _ _ Ih)) ⟨_,Z,lP jB ?_⟩⟩;exact⟨_,Z,_,Z,_,Z,t,p,bl,ld,bs,n,400,ps,l,Z,qk _ _ Ih,Bf.same qk,ll,Yo,n1,n2,J,O,p5,.inl ⟨ct,cs,SB,Yp,lc,bc,Ct.way p5 n1 ll (fun b hb=>(Ob b hb).1) sh,fun R7 _=>⟨_,Z,p8 O (q R7)⟩⟩⟩
 .have br:=Ct.bar p5 ll (fun b hb=>(Ob b hb).1) lW sh lA ev
  try dsimp only[kZ,ox,oA]
  refine⟨_,Z,_,Z,Dg ((Yn.same sX).same qk) (Bf.same qk) ⟨_,Z,lP jB ?_⟩⟩;refine⟨_,Z,_,Z,GB (jV.of (qk _ _ D3)) (jV.of (qk _ _ Ih)) ⟨_,Z,lP jB ?_⟩⟩;refine⟨_,Z,_,Z,_,Z,t,p,bl,ld,bs,n,400,ps,l,Z,qk _ _ Ih,Bf.same qk,ll,Yo,n1,n2,J,O,p5,.inr ⟨_,_,_,SB,fun R7 mC=>⟨_,Z,lP O ?_⟩⟩⟩;refine⟨_,Z,_,Z,_,Z,t,p,bl,wt,ld,AW,bs,s0,n,400,9007,ps,Z,mC _ _ (qk _ _ Ih),(Bf.same qk).same mC,ll,ldN,Yo,n1,n2,O,O,hps,mC _ _ SB,mC _ _ Yp,lA,s1,bA,fun p' st pm D0 en NR z0 z1=>?_,br.1,br.2,fun N3 _=>q N3⟩;rw[<-Ct.IK p5 (W:=W) pm D0 en z0 z1];refine Ld.jO fun t' RP=>?_;have pos:0<=(t':Int)*st:=bx J J;have bd:NR+(t':Int)*st<n:=by
   have a1:=aq (show (t':Int)<=p'-1 by lia) (show 0<=(st:Int) by lia);have a2:(n:Int)=p'*st:=by rw[en,aO]
   rw[cN] at a1;lia
  have:=ev (NR+(t':Int)*st).toNat J;rwa [bU J] at this
end
theorem all_mk {w:World}{K:PySem.W.Frag}{h:Heap}{mg:Str->Option Value}{fa:Addr}(X:K.In h)(G:h.Ns mainGlobals mg)(hfa:mg "law"=some (.ref fa))
 (a0:Fa K "divisor" ua)
 (a1:Fa K "joint" zv)
 (a2:Fa K "euclid" vH)
 (a3:Fa K "turned_on" rz)
 (a4:Fa K "next_turn" rL)
 (a5:Fa K "sure_turn" rS)
 (a6:Fa K "hung" Cn)
 (a7:Fa K "plus" Cb)
 (a8:Fa K "check_fit" rF)
 (a9:Fa K "scaled" vJ)
 (Mv:Fa K "parts" yQ)
 (L5:Fa K "prime_power" pQ)
 (LV:Fa K "back" Cj)
 (Mh:Fa K "lay_ring" sV)
 (LX:Fa K "ring_holes" qA)
 (MQ:Fa K "share" zc)
 (OX:Fa K "is_kept" uB)
 (Pi:Fa K "first_dropped" oi)
 (Pr:Fa K "kept" BD)
 (SS:Fa K "rest" Cd)
 (WA:Fa K "dropped" uM)
 (Vs:Fa K "weighed" ur)
 (To:Fa K "weighing" sH)
 (Uw:Fa K "part_weighing" oe)
 (UF:Fa K "paper" zE)
 (Tc:Fa K "picked" wN)
 (S5:Fa K "spread" vT)
 (Wh:Fa K "flipped" uL)
 (VA:Fa K "column_of" rJ)
 (Vu:Fa K "corners" uh)
 (SO:Fa K "cleared" uE)
 (UZ:Fa K "first_filled" o6)
 (S3:Fa K "lessened" sS)
 (Td:Fa K "taken_times" pU)
 (TK:Fa K "undone_rows" pP)
 (UL:Fa K "solved" vW)
 (Vm:Fa K "is_solution" p4)
 (Vx:Fa K "fractions" rO)
 (TQ:Fa K "least_bottom" oV)
 (VW:Fa K "centred" uv)
 (Ug:Fa K "reach" yI)
 (TH:Fa K "next_prime" qF)
 (VQ:Fa K "is_shown" sy)
 (Vh:Fa K "summed" vX)
 (Tq:Fa K "first_unbarred" nW)
 (Wg:Fa K "divides" uc)
 (T9:Fa K "sought" vF)
 (Uc:Fa K "sought_within" og)
 (TZ:Fa K "sought_with" pY)
 (Te:Fa K "whole_counts" oX)
 (Vv:Fa K "leads_of" sA)
 (UQ:Fa K "entered" uN)
 (Th:Fa K "mixed" yM)
 (V1:Fa K "barring" ud)
 (Uk:Fa K "inner_bar" rA)
 (UI:Fa K "counter" uf)
 (Wq:Fa K "kept_rest" rM)
 (SM:Fa K "all_weighings" oj)
 (UP:Fa K "_law_cell_at" pR)
 (Vf:Fa K "_law_whole" rK)
 (SU:Fa K "_law_numbers" pV)
 (Vn:Fa K "_law_sum" ue)
 (UU:Fa K "_law_by" ww)
 (SI:Fa K "_law_primes" qG)
 (V2:Fa K "_law_laid" sG)
 (Ui:Fa K "_law_rows_of" pX)
 (SG:Fa K "_law_even" sC)
 (Wd:Fa K "_law_way" uA)
 (Ti:Fa K "_law_bar" uI)
 (TF:Fa K "_law_block" rT)
 (U6:Fa K "law" Fk)
 (z0:PySem.W.nsIn K mainGlobals "len"=some none:=by kernel_rfl)
 (z1:PySem.W.nsIn K mainGlobals "isinstance"=some none:=by kernel_rfl)
 (z2:PySem.W.nsIn K mainGlobals "int"=some none:=by kernel_rfl)
 (z3:PySem.W.nsIn K mainGlobals "bool"=some none:=by kernel_rfl)
 (z4:PySem.W.nsIn K mainGlobals "list"=some none:=by kernel_rfl)
 (z5:PySem.W.nsIn K mainGlobals "tuple"=some none:=by kernel_rfl)
 (z6:PySem.W.nsIn K mainGlobals "range"=some none:=by kernel_rfl)
 (z7:PySem.W.nsIn K mainGlobals "min"=some none:=by kernel_rfl)
 (z8:PySem.W.nsIn K mainGlobals "max"=some none:=by kernel_rfl)
 (z9:PySem.W.nsIn K mainGlobals "abs"=some none:=by kernel_rfl)
 (z10:PySem.W.nsIn K mainGlobals "zip"=some none:=by kernel_rfl)
 (z11:PySem.W.nsIn K mainGlobals "all"=some none:=by kernel_rfl)
 (z12:PySem.W.nsIn K mainGlobals "enumerate"=some none:=by kernel_rfl)
 (z13:PySem.W.nsIn K mainGlobals "sum"=some none:=by kernel_rfl)
 {tL:Tok}(zT:PySem.W.nsIn K mainGlobals "LEAD_BITS"=some (some (.int 128 tL)):=by kernel_rfl)
 {tF:Tok}(xa:PySem.W.nsIn K mainGlobals "FIRST_PRIME"=some (some (.int 1000000007 tF)):=by kernel_rfl)
 {tM:Tok}(qm:PySem.W.nsIn K mainGlobals "MOST_HOLES_COUNTERED"=some (some (.int 60 tM)):=by kernel_rfl)
 {CF:Addr}(Bg:PySem.W.nsIn K mainGlobals "Frame"=some (some (.ref CF)):=by kernel_rfl)
 (aM0:Fm K CF "__init__" "Frame.__init__" qx)
 (aM1:Fm K CF "missed" "Frame.missed" oI)
 (aM2:Fm K CF "counts" "Frame.counts" oM)
 (aM3:Fm K CF "weights" "Frame.weights" ol)
 (Ii:PySem.W.plainGet K CF Str.empty=true:=by kernel_rfl)(Ij:PySem.W.hasDictIn K CF=true:=by kernel_rfl)(Ik:PySem.W.plainOver K CF=true:=by kernel_rfl)(Il:PySem.W.findIn K (.ref CF) "__setattr__"=some (some (.builtin "object.__setattr__")):=by kernel_rfl)(Im:PySem.W.makesIn K CF=true:=by kernel_rfl)(Io:PySem.W.keepIn K (.ref CF)=true:=by kernel_rfl)
 (na_size:PySem.W.findIn K (.ref CF) "size"=some none:=by kernel_rfl)
 (na_prime:PySem.W.findIn K (.ref CF) "prime"=some none:=by kernel_rfl)
 (na_found:PySem.W.findIn K (.ref CF) "found"=some none:=by kernel_rfl)
 (na_chosen:PySem.W.findIn K (.ref CF) "chosen"=some none:=by kernel_rfl)
 (na_columns:PySem.W.findIn K (.ref CF) "columns"=some none:=by kernel_rfl)
 (na_rows:PySem.W.findIn K (.ref CF) "rows"=some none:=by kernel_rfl)
 (na_modulus:PySem.W.findIn K (.ref CF) "modulus"=some none:=by kernel_rfl)
 (na_undoing:PySem.W.findIn K (.ref CF) "undoing"=some none:=by kernel_rfl)
 : ∃fd:FuncData,(∀(s:Shared)(v:Value),BindsTo s fd ⟨[v],[]⟩ [("script",v)])/\∀base:Heap,K.In base->base.Ns mainGlobals mg->re l.prog w K mg base DL 14 fa fd ["script"] (DK K):=by
  have T:Txt K mg CF tL tF tM:=⟨fD X G zT,fD X G xa,fD X G qm,fD X G Bg,a0.dn X G (rn Z fun _ _ _ _ _ _ _ _=>Z),a1.dn X G (rn Z fun _ _ _ _ _ _ _ _=>Z),a2.dn X G (xc Z fun _ _ _ _ _ _ _ _ _=>Z),a3.dn X G (rn Z fun _ _ _ _ _ _ _ _=>Z),a4.dn X G (rn Z fun _ _ _ _ _ _ _ _=>Z),a5.dn X G (rn Z fun _ _ _ _ _ _ _ _=>Z),a6.dn X G (xc Z fun _ _ _ _ _ _ _ _ _=>Z),a7.dn X G (rn Z fun _ _ _ _ _ _ _ _=>Z),a8.dn X G (rn Z fun _ _ _ _ _ _ _ _=>Z),a9.dn X G (rn Z fun _ _ _ _ _ _ _ _=>Z),Mv.dn X G (G5 Z fun _ _ _ _ _ _ _=>Z),L5.dn X G (rn Z fun _ _ _ _ _ _ _ _=>Z),LV.dn X G (rn Z fun _ _ _ _ _ _ _ _=>Z),Mh.dn X G (OZ Z fun _ _ _ _ _ _ _ _ _ _=>Z),LX.dn X G (xc Z fun _ _ _ _ _ _ _ _ _=>Z),MQ.dn X G (xc Z fun _ _ _ _ _ _ _ _ _=>Z),OX.dn X G (rn Z fun _ _ _ _ _ _ _ _=>Z),Pi.dn X G (rn Z fun _ _ _ _ _ _ _ _=>Z),Pr.dn X G (G5 Z fun _ _ _ _ _ _ _=>Z),SS.dn X G (G5 Z fun _ _ _ _ _ _ _=>Z),WA.dn X G (xc Z fun _ _ _ _ _ _ _ _ _=>Z),Vs.dn X G (rn Z fun _ _ _ _ _ _ _ _=>Z),To.dn X G (rn Z fun _ _ _ _ _ _ _ _=>Z),Uw.dn X G (xc Z fun _ _ _ _ _ _ _ _ _=>Z),UF.dn X G (G5 Z fun _ _ _ _ _ _ _=>Z),Tc.dn X G (rn Z fun _ _ _ _ _ _ _ _=>Z),S5.dn X G (xc Z fun _ _ _ _ _ _ _ _ _=>Z),Wh.dn X G (G5 Z fun _ _ _ _ _ _ _=>Z),VA.dn X G (rn Z fun _ _ _ _ _ _ _ _=>Z),Vu.dn X G (rn Z fun _ _ _ _ _ _ _ _=>Z),SO.dn X G (xc Z fun _ _ _ _ _ _ _ _ _=>Z),UZ.dn X G (G5 Z fun _ _ _ _ _ _ _=>Z),S3.dn X G (OZ Z fun _ _ _ _ _ _ _ _ _ _=>Z),Td.dn X G (xc Z fun _ _ _ _ _ _ _ _ _=>Z),TK.dn X G (rn Z fun _ _ _ _ _ _ _ _=>Z),UL.dn X G (OZ Z fun _ _ _ _ _ _ _ _ _ _=>Z),Vm.dn X G (xc Z fun _ _ _ _ _ _ _ _ _=>Z),Vx.dn X G (rn Z fun _ _ _ _ _ _ _ _=>Z),TQ.dn X G (xc Z fun _ _ _ _ _ _ _ _ _=>Z),VW.dn X G (rn Z fun _ _ _ _ _ _ _ _=>Z),Ug.dn X G (rn Z fun _ _ _ _ _ _ _ _=>Z),TH.dn X G (G5 Z fun _ _ _ _ _ _ _=>Z),VQ.dn X G (xc Z fun _ _ _ _ _ _ _ _ _=>Z),Vh.dn X G (xc Z fun _ _ _ _ _ _ _ _ _=>Z),Tq.dn X G (rn Z fun _ _ _ _ _ _ _ _=>Z),Wg.dn X G (rn Z fun _ _ _ _ _ _ _ _=>Z),T9.dn X G (xc Z fun _ _ _ _ _ _ _ _ _=>Z),Uc.dn X G (xc Z fun _ _ _ _ _ _ _ _ _=>Z),TZ.dn X G (OZ Z fun _ _ _ _ _ _ _ _ _ _=>Z),Te.dn X G (rn Z fun _ _ _ _ _ _ _ _=>Z),Vv.dn X G (xc Z fun _ _ _ _ _ _ _ _ _=>Z),UQ.dn X G (xc Z fun _ _ _ _ _ _ _ _ _=>Z),Th.dn X G (ba5 Z fun _ _ _ _ _ _ _ _ _ _ _=>Z),V1.dn X G (xc Z fun _ _ _ _ _ _ _ _ _=>Z),Uk.dn X G (rn Z fun _ _ _ _ _ _ _ _=>Z),UI.dn X G (rn Z fun _ _ _ _ _ _ _ _=>Z),Wq.dn X G (rn Z fun _ _ _ _ _ _ _ _=>Z),SM.dn X G (xc Z fun _ _ _ _ _ _ _ _ _=>Z),UP.dn X G (rn Z fun _ _ _ _ _ _ _ _=>Z),Vf.dn X G (G5 Z fun _ _ _ _ _ _ _=>Z),SU.dn X G (rn Z fun _ _ _ _ _ _ _ _=>Z),Vn.dn X G (rn Z fun _ _ _ _ _ _ _ _=>Z),UU.dn X G (rn Z fun _ _ _ _ _ _ _ _=>Z),SI.dn X G (G5 Z fun _ _ _ _ _ _ _=>Z),V2.dn X G (rn Z fun _ _ _ _ _ _ _ _=>Z),Ui.dn X G (rn Z fun _ _ _ _ _ _ _ _=>Z),SG.dn X G (G5 Z fun _ _ _ _ _ _ _=>Z),Wd.dn X G (xc Z fun _ _ _ _ _ _ _ _ _=>Z),Ti.dn X G (xc Z fun _ _ _ _ _ _ _ _ _=>Z),TF.dn X G (xc Z fun _ _ _ _ _ _ _ _ _=>Z),⟨Ii,Ij,Ik,Il⟩,na_size,na_prime,na_found,na_chosen,na_columns,na_rows,na_modulus,na_undoing,aM0.kn Im Io (fD X G Bg) (OZ Z fun _ _ _ _ _ _ _ _ _ _=>Z),aM1.mn (rn Z fun _ _ _ _ _ _ _ _=>Z),aM2.mn (rn Z fun _ _ _ _ _ _ _ _=>Z),aM3.mn (rn Z fun _ _ _ _ _ _ _ _=>Z),b5 X G z0,b5 X G z1,b5 X G z2,b5 X G z3,b5 X G z4,b5 X G z5,b5 X G z6,b5 X G z7,b5 X G z8,b5 X G z9,b5 X G z10,b5 X G z11,b5 X G z12,b5 X G z13⟩;obtain⟨fd,F⟩:=U6.law X G hfa;exact⟨fd,F.to (G5 Z fun _ _ _ _ _ _ _=>Z),fun base _ _=>Mc T F⟩
theorem walk {q:Program}{loose:List Str}{XP:(Str->Option Value)->Heap->Prop}{YP:World->Heap->Prop}{d:DefRec}{K:Params->PySem.W.Frag}(hn:l.most=some 63)(Qg:d.params.defaults=[])
 (hY:∀(w:World)(h:Heap),YP w h->(K w.params).In h)
 (F:∀(w:World)(mg:Str->Option Value)(fa:Addr)(h:Heap),(K w.params).In h->h.Ns mainGlobals mg->mg d.name=some (.ref fa) ->
 ∃fd:FuncData,(∀(s:Shared)(u:Value),BindsTo s fd ⟨[u],[]⟩ [("script",u)])/\∀base:Heap,(K w.params).In base->base.Ns mainGlobals mg->re l.prog w (K w.params) mg base DL 14 fa fd ["script"] (DK (K w.params))) :
    PySem.W.WalkO q loose XP YP l.row.toRowW d [] (fun f vs=>PySem.call f vs) :=
  L2.JR (n:=63) (k:=14) (x:="script") (CX:=fun _=>DL) (sp:=fun w=>DK (K w.params)) hn O Qg ⟨Z,O,O⟩ hY F (fun _ _ a ns hl _ hS=>⟨a,ns,Z,hS,hl,fun _=>Z⟩) fun _ _ _ _ _ z=>z
end K38
namespace PwT
open PySem
abbrev S:=Str.ofString
noncomputable def ks (l:List Str):Nat->Str:=@List.rec Str (fun _=>Nat->Str) (fun _=>⟨#[]⟩) (fun a _ ih n=>@Nat.rec (fun _=>Str) a (fun m _=>ih m) n) l
noncomputable def A:List Str:=[S "_law_rows_of",S "found",S "n",S "isinstance",S "list",S "row",S "tuple",S "len",S "all",S "_law_whole",S "one",S ".0",S "_law_primes",S "fast",S "_law_even",S "load",S "told",S "paper",S "even",S "_law_laid",S "_law_way",S "blocks",S "way",S "_law_numbers",S "total",S "block",S "many",S "zip",S "other",S "_law_bar",S "bar",S "p",S "hole",S "range",S "sum",S "k",S "_law_by",S "_law_sum",S "_law_block",S "cell",S "most",S "number",S "at",S "law",S "script",S "_law_cell_at",S "share_v",S "great",S "min",S "handed",S "aim",S "counter",S "int",S "bool",S "weights",S "modulus",S "append",S "rows",S "MOST_HOLES_COUNTERED",S "check_fit",S "TooWide",S "counterweights are sought on wheels of at most ",S " holes",S "holes",S "kept",S "reach",S "kept_rest",S "scaled",S "all_weighings",S "left",S "rest",S "outcome",S "plus",S "weighing",S "__name__",S "law_evenhub_k38_blocks_or_a_bar",S "entered",S "leads",S "column",S "lead",S "enumerate",S "euclid",S "mixed",S "more",S "beyond",S "barring",S "amounts",S "hung",S "place",S "later",S "weighed",S "inner_bar",S "frame",S "evenhub.counters",S "divides",S "sought",S "steps",S "goal",S "prime",S "Frame",S "missed",S "sought_within",S "counts",S "column_of",S "picked",S "chosen",S "goal_made",S "others",S "sought_with",S "first_unbarred",S "made",S "joint",S "whole_counts",S "leads_of",S "lessened",S "taken",S "centred",S "spared",S "summed",S "spread",S "top",S "size",S "FIRST_PRIME",S "is_shown",S "next_prime",S "parts",S "step",S "solved",S "undoing",S "rests",S "scale",S "is_solution",S "count",S "fractions",S "bits",S "bit_length",S "bottom",S "least_bottom",S "abs",S "evenhub.steps",S "cleared",S "weight",S "first_filled",S "less",S "taken_times",S "undone_rows",S "back",S "__init__",S "self",S "corners",S "columns",S "flipped",S "things",S "places",S "numbers",S "evenhub.papers",S "is_kept",S "NoHole",S "the hole isn't kept",S "q",S "factors",S "part_weighing",S "share",S "kept_share",S "uneven",S "evenhub.frames",S "first_dropped",S "dropped",S "lay_ring",S "NoTurn",S "the divisor of the step and the number isn't 1",S "evenhub.rings",S "ring_holes",S "evenhub.rests",S "NoFit",S "the loads have unlike numbers of holes",S "evenhub.primes",S "prime_power",S "turned_on",S "pair",S "turn",S "next_turn",S "length",S "LEAD_BITS",S "behind",S "sure_turn",S "later_rest",S "new_rest",S "further",S "doubt",S "max",S "evenhub.loads",S "HubError",S "evenhub.wholes",S "divisor",S "small",S "evenhub.errors",S "ValueError",S "/claim/cut.py"]
noncomputable def B:List Str:=[⟨⟨[95,108,97,119,95,114,111,119,115,95,111,102]⟩⟩,⟨⟨[102,111,117,110,100]⟩⟩,⟨⟨[110]⟩⟩,⟨⟨[105,115,105,110,115,116,97,110,99,101]⟩⟩,⟨⟨[108,105,115,116]⟩⟩,⟨⟨[114,111,119]⟩⟩,⟨⟨[116,117,112,108,101]⟩⟩,⟨⟨[108,101,110]⟩⟩,⟨⟨[97,108,108]⟩⟩,⟨⟨[95,108,97,119,95,119,104,111,108,101]⟩⟩,⟨⟨[111,110,101]⟩⟩,⟨⟨[46,48]⟩⟩,⟨⟨[95,108,97,119,95,112,114,105,109,101,115]⟩⟩,⟨⟨[102,97,115,116]⟩⟩,⟨⟨[95,108,97,119,95,101,118,101,110]⟩⟩,⟨⟨[108,111,97,100]⟩⟩,⟨⟨[116,111,108,100]⟩⟩,⟨⟨[112,97,112,101,114]⟩⟩,⟨⟨[101,118,101,110]⟩⟩,⟨⟨[95,108,97,119,95,108,97,105,100]⟩⟩,⟨⟨[95,108,97,119,95,119,97,121]⟩⟩,⟨⟨[98,108,111,99,107,115]⟩⟩,⟨⟨[119,97,121]⟩⟩,⟨⟨[95,108,97,119,95,110,117,109,98,101,114,115]⟩⟩,⟨⟨[116,111,116,97,108]⟩⟩,⟨⟨[98,108,111,99,107]⟩⟩,⟨⟨[109,97,110,121]⟩⟩,⟨⟨[122,105,112]⟩⟩,⟨⟨[111,116,104,101,114]⟩⟩,⟨⟨[95,108,97,119,95,98,97,114]⟩⟩,⟨⟨[98,97,114]⟩⟩,⟨⟨[112]⟩⟩,⟨⟨[104,111,108,101]⟩⟩,⟨⟨[114,97,110,103,101]⟩⟩,⟨⟨[115,117,109]⟩⟩,⟨⟨[107]⟩⟩,⟨⟨[95,108,97,119,95,98,121]⟩⟩,⟨⟨[95,108,97,119,95,115,117,109]⟩⟩,⟨⟨[95,108,97,119,95,98,108,111,99,107]⟩⟩,⟨⟨[99,101,108,108]⟩⟩,⟨⟨[109,111,115,116]⟩⟩,⟨⟨[110,117,109,98,101,114]⟩⟩,⟨⟨[97,116]⟩⟩,⟨⟨[108,97,119]⟩⟩,⟨⟨[115,99,114,105,112,116]⟩⟩,⟨⟨[95,108,97,119,95,99,101,108,108,95,97,116]⟩⟩,⟨⟨[115,104,97,114,101,95,118]⟩⟩,⟨⟨[103,114,101,97,116]⟩⟩,⟨⟨[109,105,110]⟩⟩,⟨⟨[104,97,110,100,101,100]⟩⟩,⟨⟨[97,105,109]⟩⟩,⟨⟨[99,111,117,110,116,101,114]⟩⟩,⟨⟨[105,110,116]⟩⟩,⟨⟨[98,111,111,108]⟩⟩,⟨⟨[119,101,105,103,104,116,115]⟩⟩,⟨⟨[109,111,100,117,108,117,115]⟩⟩,⟨⟨[97,112,112,101,110,100]⟩⟩,⟨⟨[114,111,119,115]⟩⟩,⟨⟨[77,79,83,84,95,72,79,76,69,83,95,67,79,85,78,84,69,82,69,68]⟩⟩,⟨⟨[99,104,101,99,107,95,102,105,116]⟩⟩,⟨⟨[84,111,111,87,105,100,101]⟩⟩,⟨⟨[99,111,117,110,116,101,114,119,101,105,103,104,116,115,32,97,114,101,32,115,111,117,103,104,116,32,111,110,32,119,104,101,101,108,115,32,111,102,32,97,116,32,109,111,115,116,32]⟩⟩,⟨⟨[32,104,111,108,101,115]⟩⟩,⟨⟨[104,111,108,101,115]⟩⟩,⟨⟨[107,101,112,116]⟩⟩,⟨⟨[114,101,97,99,104]⟩⟩,⟨⟨[107,101,112,116,95,114,101,115,116]⟩⟩,⟨⟨[115,99,97,108,101,100]⟩⟩,⟨⟨[97,108,108,95,119,101,105,103,104,105,110,103,115]⟩⟩,⟨⟨[108,101,102,116]⟩⟩,⟨⟨[114,101,115,116]⟩⟩,⟨⟨[111,117,116,99,111,109,101]⟩⟩,⟨⟨[112,108,117,115]⟩⟩,⟨⟨[119,101,105,103,104,105,110,103]⟩⟩,⟨⟨[95,95,110,97,109,101,95,95]⟩⟩,⟨⟨[108,97,119,95,101,118,101,110,104,117,98,95,107,51,56,95,98,108,111,99,107,115,95,111,114,95,97,95,98,97,114]⟩⟩,⟨⟨[101,110,116,101,114,101,100]⟩⟩,⟨⟨[108,101,97,100,115]⟩⟩,⟨⟨[99,111,108,117,109,110]⟩⟩,⟨⟨[108,101,97,100]⟩⟩,⟨⟨[101,110,117,109,101,114,97,116,101]⟩⟩,⟨⟨[101,117,99,108,105,100]⟩⟩,⟨⟨[109,105,120,101,100]⟩⟩,⟨⟨[109,111,114,101]⟩⟩,⟨⟨[98,101,121,111,110,100]⟩⟩,⟨⟨[98,97,114,114,105,110,103]⟩⟩,⟨⟨[97,109,111,117,110,116,115]⟩⟩,⟨⟨[104,117,110,103]⟩⟩,⟨⟨[112,108,97,99,101]⟩⟩,⟨⟨[108,97,116,101,114]⟩⟩,⟨⟨[119,101,105,103,104,101,100]⟩⟩,⟨⟨[105,110,110,101,114,95,98,97,114]⟩⟩,⟨⟨[102,114,97,109,101]⟩⟩,⟨⟨[101,118,101,110,104,117,98,46,99,111,117,110,116,101,114,115]⟩⟩,⟨⟨[100,105,118,105,100,101,115]⟩⟩,⟨⟨[115,111,117,103,104,116]⟩⟩,⟨⟨[115,116,101,112,115]⟩⟩,⟨⟨[103,111,97,108]⟩⟩,⟨⟨[112,114,105,109,101]⟩⟩,⟨⟨[70,114,97,109,101]⟩⟩,⟨⟨[109,105,115,115,101,100]⟩⟩,⟨⟨[115,111,117,103,104,116,95,119,105,116,104,105,110]⟩⟩,⟨⟨[99,111,117,110,116,115]⟩⟩,⟨⟨[99,111,108,117,109,110,95,111,102]⟩⟩,⟨⟨[112,105,99,107,101,100]⟩⟩,⟨⟨[99,104,111,115,101,110]⟩⟩,⟨⟨[103,111,97,108,95,109,97,100,101]⟩⟩,⟨⟨[111,116,104,101,114,115]⟩⟩,⟨⟨[115,111,117,103,104,116,95,119,105,116,104]⟩⟩,⟨⟨[102,105,114,115,116,95,117,110,98,97,114,114,101,100]⟩⟩,⟨⟨[109,97,100,101]⟩⟩,⟨⟨[106,111,105,110,116]⟩⟩,⟨⟨[119,104,111,108,101,95,99,111,117,110,116,115]⟩⟩,⟨⟨[108,101,97,100,115,95,111,102]⟩⟩,⟨⟨[108,101,115,115,101,110,101,100]⟩⟩,⟨⟨[116,97,107,101,110]⟩⟩,⟨⟨[99,101,110,116,114,101,100]⟩⟩,⟨⟨[115,112,97,114,101,100]⟩⟩,⟨⟨[115,117,109,109,101,100]⟩⟩,⟨⟨[115,112,114,101,97,100]⟩⟩,⟨⟨[116,111,112]⟩⟩,⟨⟨[115,105,122,101]⟩⟩,⟨⟨[70,73,82,83,84,95,80,82,73,77,69]⟩⟩,⟨⟨[105,115,95,115,104,111,119,110]⟩⟩,⟨⟨[110,101,120,116,95,112,114,105,109,101]⟩⟩,⟨⟨[112,97,114,116,115]⟩⟩,⟨⟨[115,116,101,112]⟩⟩,⟨⟨[115,111,108,118,101,100]⟩⟩,⟨⟨[117,110,100,111,105,110,103]⟩⟩,⟨⟨[114,101,115,116,115]⟩⟩,⟨⟨[115,99,97,108,101]⟩⟩,⟨⟨[105,115,95,115,111,108,117,116,105,111,110]⟩⟩,⟨⟨[99,111,117,110,116]⟩⟩,⟨⟨[102,114,97,99,116,105,111,110,115]⟩⟩,⟨⟨[98,105,116,115]⟩⟩,⟨⟨[98,105,116,95,108,101,110,103,116,104]⟩⟩,⟨⟨[98,111,116,116,111,109]⟩⟩,⟨⟨[108,101,97,115,116,95,98,111,116,116,111,109]⟩⟩,⟨⟨[97,98,115]⟩⟩,⟨⟨[101,118,101,110,104,117,98,46,115,116,101,112,115]⟩⟩,⟨⟨[99,108,101,97,114,101,100]⟩⟩,⟨⟨[119,101,105,103,104,116]⟩⟩,⟨⟨[102,105,114,115,116,95,102,105,108,108,101,100]⟩⟩,⟨⟨[108,101,115,115]⟩⟩,⟨⟨[116,97,107,101,110,95,116,105,109,101,115]⟩⟩,⟨⟨[117,110,100,111,110,101,95,114,111,119,115]⟩⟩,⟨⟨[98,97,99,107]⟩⟩,⟨⟨[95,95,105,110,105,116,95,95]⟩⟩,⟨⟨[115,101,108,102]⟩⟩,⟨⟨[99,111,114,110,101,114,115]⟩⟩,⟨⟨[99,111,108,117,109,110,115]⟩⟩,⟨⟨[102,108,105,112,112,101,100]⟩⟩,⟨⟨[116,104,105,110,103,115]⟩⟩,⟨⟨[112,108,97,99,101,115]⟩⟩,⟨⟨[110,117,109,98,101,114,115]⟩⟩,⟨⟨[101,118,101,110,104,117,98,46,112,97,112,101,114,115]⟩⟩,⟨⟨[105,115,95,107,101,112,116]⟩⟩,⟨⟨[78,111,72,111,108,101]⟩⟩,⟨⟨[116,104,101,32,104,111,108,101,32,105,115,110,39,116,32,107,101,112,116]⟩⟩,⟨⟨[113]⟩⟩,⟨⟨[102,97,99,116,111,114,115]⟩⟩,⟨⟨[112,97,114,116,95,119,101,105,103,104,105,110,103]⟩⟩,⟨⟨[115,104,97,114,101]⟩⟩,⟨⟨[107,101,112,116,95,115,104,97,114,101]⟩⟩,⟨⟨[117,110,101,118,101,110]⟩⟩,⟨⟨[101,118,101,110,104,117,98,46,102,114,97,109,101,115]⟩⟩,⟨⟨[102,105,114,115,116,95,100,114,111,112,112,101,100]⟩⟩,⟨⟨[100,114,111,112,112,101,100]⟩⟩,⟨⟨[108,97,121,95,114,105,110,103]⟩⟩,⟨⟨[78,111,84,117,114,110]⟩⟩,⟨⟨[116,104,101,32,100,105,118,105,115,111,114,32,111,102,32,116,104,101,32,115,116,101,112,32,97,110,100,32,116,104,101,32,110,117,109,98,101,114,32,105,115,110,39,116,32,49]⟩⟩,⟨⟨[101,118,101,110,104,117,98,46,114,105,110,103,115]⟩⟩,⟨⟨[114,105,110,103,95,104,111,108,101,115]⟩⟩,⟨⟨[101,118,101,110,104,117,98,46,114,101,115,116,115]⟩⟩,⟨⟨[78,111,70,105,116]⟩⟩,⟨⟨[116,104,101,32,108,111,97,100,115,32,104,97,118,101,32,117,110,108,105,107,101,32,110,117,109,98,101,114,115,32,111,102,32,104,111,108,101,115]⟩⟩,⟨⟨[101,118,101,110,104,117,98,46,112,114,105,109,101,115]⟩⟩,⟨⟨[112,114,105,109,101,95,112,111,119,101,114]⟩⟩,⟨⟨[116,117,114,110,101,100,95,111,110]⟩⟩,⟨⟨[112,97,105,114]⟩⟩,⟨⟨[116,117,114,110]⟩⟩,⟨⟨[110,101,120,116,95,116,117,114,110]⟩⟩,⟨⟨[108,101,110,103,116,104]⟩⟩,⟨⟨[76,69,65,68,95,66,73,84,83]⟩⟩,⟨⟨[98,101,104,105,110,100]⟩⟩,⟨⟨[115,117,114,101,95,116,117,114,110]⟩⟩,⟨⟨[108,97,116,101,114,95,114,101,115,116]⟩⟩,⟨⟨[110,101,119,95,114,101,115,116]⟩⟩,⟨⟨[102,117,114,116,104,101,114]⟩⟩,⟨⟨[100,111,117,98,116]⟩⟩,⟨⟨[109,97,120]⟩⟩,⟨⟨[101,118,101,110,104,117,98,46,108,111,97,100,115]⟩⟩,⟨⟨[72,117,98,69,114,114,111,114]⟩⟩,⟨⟨[101,118,101,110,104,117,98,46,119,104,111,108,101,115]⟩⟩,⟨⟨[100,105,118,105,115,111,114]⟩⟩,⟨⟨[115,109,97,108,108]⟩⟩,⟨⟨[101,118,101,110,104,117,98,46,101,114,114,111,114,115]⟩⟩,⟨⟨[86,97,108,117,101,69,114,114,111,114]⟩⟩,⟨⟨[47,99,108,97,105,109,47,99,117,116,46,112,121]⟩⟩]
noncomputable def p (i:Nat):Str:=ks B i
theorem a0:S "_law_rows_of"=ks A 0:=rfl
theorem a1:S "found"=ks A 1:=rfl
theorem a2:S "n"=ks A 2:=rfl
theorem a3:S "isinstance"=ks A 3:=rfl
theorem a4:S "list"=ks A 4:=rfl
theorem a5:S "row"=ks A 5:=rfl
theorem a6:S "tuple"=ks A 6:=rfl
theorem a7:S "len"=ks A 7:=rfl
theorem a8:S "all"=ks A 8:=rfl
theorem a9:S "_law_whole"=ks A 9:=rfl
theorem Mv:S "one"=ks A 10:=rfl
theorem L5:S ".0"=ks A 11:=rfl
theorem LV:S "_law_primes"=ks A 12:=rfl
theorem Mh:S "fast"=ks A 13:=rfl
theorem LX:S "_law_even"=ks A 14:=rfl
theorem MQ:S "load"=ks A 15:=rfl
theorem OX:S "told"=ks A 16:=rfl
theorem Pi:S "paper"=ks A 17:=rfl
theorem Pr:S "even"=ks A 18:=rfl
theorem SS:S "_law_laid"=ks A 19:=rfl
theorem WA:S "_law_way"=ks A 20:=rfl
theorem Vs:S "blocks"=ks A 21:=rfl
theorem To:S "way"=ks A 22:=rfl
theorem Uw:S "_law_numbers"=ks A 23:=rfl
theorem UF:S "total"=ks A 24:=rfl
theorem Tc:S "block"=ks A 25:=rfl
theorem S5:S "many"=ks A 26:=rfl
theorem Wh:S "zip"=ks A 27:=rfl
theorem VA:S "other"=ks A 28:=rfl
theorem Vu:S "_law_bar"=ks A 29:=rfl
theorem SO:S "bar"=ks A 30:=rfl
theorem UZ:S "p"=ks A 31:=rfl
theorem S3:S "hole"=ks A 32:=rfl
theorem Td:S "range"=ks A 33:=rfl
theorem TK:S "sum"=ks A 34:=rfl
theorem UL:S "k"=ks A 35:=rfl
theorem Vm:S "_law_by"=ks A 36:=rfl
theorem Vx:S "_law_sum"=ks A 37:=rfl
theorem TQ:S "_law_block"=ks A 38:=rfl
theorem VW:S "cell"=ks A 39:=rfl
theorem Ug:S "most"=ks A 40:=rfl
theorem TH:S "number"=ks A 41:=rfl
theorem VQ:S "at"=ks A 42:=rfl
theorem Vh:S "law"=ks A 43:=rfl
theorem Tq:S "script"=ks A 44:=rfl
theorem Wg:S "_law_cell_at"=ks A 45:=rfl
theorem T9:S "share_v"=ks A 46:=rfl
theorem Uc:S "great"=ks A 47:=rfl
theorem TZ:S "min"=ks A 48:=rfl
theorem Te:S "handed"=ks A 49:=rfl
theorem Vv:S "aim"=ks A 50:=rfl
theorem UQ:S "counter"=ks A 51:=rfl
theorem Th:S "int"=ks A 52:=rfl
theorem V1:S "bool"=ks A 53:=rfl
theorem Uk:S "weights"=ks A 54:=rfl
theorem UI:S "modulus"=ks A 55:=rfl
theorem Wq:S "append"=ks A 56:=rfl
theorem SM:S "rows"=ks A 57:=rfl
theorem UP:S "MOST_HOLES_COUNTERED"=ks A 58:=rfl
theorem Vf:S "check_fit"=ks A 59:=rfl
theorem SU:S "TooWide"=ks A 60:=rfl
theorem Vn:S "counterweights are sought on wheels of at most "=ks A 61:=rfl
theorem UU:S " holes"=ks A 62:=rfl
theorem SI:S "holes"=ks A 63:=rfl
theorem V2:S "kept"=ks A 64:=rfl
theorem Ui:S "reach"=ks A 65:=rfl
theorem SG:S "kept_rest"=ks A 66:=rfl
theorem Wd:S "scaled"=ks A 67:=rfl
theorem Ti:S "all_weighings"=ks A 68:=rfl
theorem TF:S "left"=ks A 69:=rfl
theorem U6:S "rest"=ks A 70:=rfl
theorem a71:S "outcome"=ks A 71:=rfl
theorem a72:S "plus"=ks A 72:=rfl
theorem a73:S "weighing"=ks A 73:=rfl
theorem a74:S "__name__"=ks A 74:=rfl
theorem a75:S "law_evenhub_k38_blocks_or_a_bar"=ks A 75:=rfl
theorem a76:S "entered"=ks A 76:=rfl
theorem a77:S "leads"=ks A 77:=rfl
theorem a78:S "column"=ks A 78:=rfl
theorem a79:S "lead"=ks A 79:=rfl
theorem a80:S "enumerate"=ks A 80:=rfl
theorem a81:S "euclid"=ks A 81:=rfl
theorem a82:S "mixed"=ks A 82:=rfl
theorem a83:S "more"=ks A 83:=rfl
theorem a84:S "beyond"=ks A 84:=rfl
theorem a85:S "barring"=ks A 85:=rfl
theorem a86:S "amounts"=ks A 86:=rfl
theorem a87:S "hung"=ks A 87:=rfl
theorem a88:S "place"=ks A 88:=rfl
theorem a89:S "later"=ks A 89:=rfl
theorem a90:S "weighed"=ks A 90:=rfl
theorem a91:S "inner_bar"=ks A 91:=rfl
theorem a92:S "frame"=ks A 92:=rfl
theorem a93:S "evenhub.counters"=ks A 93:=rfl
theorem a94:S "divides"=ks A 94:=rfl
theorem a95:S "sought"=ks A 95:=rfl
theorem a96:S "steps"=ks A 96:=rfl
theorem a97:S "goal"=ks A 97:=rfl
theorem a98:S "prime"=ks A 98:=rfl
theorem a99:S "Frame"=ks A 99:=rfl
theorem V3:S "missed"=ks A 100:=rfl
theorem Tu:S "sought_within"=ks A 101:=rfl
theorem UH:S "counts"=ks A 102:=rfl
theorem SV:S "column_of"=ks A 103:=rfl
theorem Uj:S "picked"=ks A 104:=rfl
theorem SC:S "chosen"=ks A 105:=rfl
theorem UX:S "goal_made"=ks A 106:=rfl
theorem Vw:S "others"=ks A 107:=rfl
theorem TL:S "sought_with"=ks A 108:=rfl
theorem SF:S "first_unbarred"=ks A 109:=rfl
theorem VF:S "made"=ks A 110:=rfl
theorem Ub:S "joint"=ks A 111:=rfl
theorem Vp:S "whole_counts"=ks A 112:=rfl
theorem WC:S "leads_of"=ks A 113:=rfl
theorem Wr:S "lessened"=ks A 114:=rfl
theorem S9:S "taken"=ks A 115:=rfl
theorem U8:S "centred"=ks A 116:=rfl
theorem S7:S "spared"=ks A 117:=rfl
theorem TJ:S "summed"=ks A 118:=rfl
theorem SW:S "spread"=ks A 119:=rfl
theorem SE:S "top"=ks A 120:=rfl
theorem Vz:S "size"=ks A 121:=rfl
theorem Vl:S "FIRST_PRIME"=ks A 122:=rfl
theorem Wi:S "is_shown"=ks A 123:=rfl
theorem T4:S "next_prime"=ks A 124:=rfl
theorem UY:S "parts"=ks A 125:=rfl
theorem Uz:S "step"=ks A 126:=rfl
theorem SZ:S "solved"=ks A 127:=rfl
theorem VZ:S "undoing"=ks A 128:=rfl
theorem Wx:S "rests"=ks A 129:=rfl
theorem VM:S "scale"=ks A 130:=rfl
theorem Wo:S "is_solution"=ks A 131:=rfl
theorem V6:S "count"=ks A 132:=rfl
theorem T6:S "fractions"=ks A 133:=rfl
theorem Wk:S "bits"=ks A 134:=rfl
theorem Tt:S "bit_length"=ks A 135:=rfl
theorem Ts:S "bottom"=ks A 136:=rfl
theorem V9:S "least_bottom"=ks A 137:=rfl
theorem US:S "abs"=ks A 138:=rfl
theorem We:S "evenhub.steps"=ks A 139:=rfl
theorem Vq:S "cleared"=ks A 140:=rfl
theorem T8:S "weight"=ks A 141:=rfl
theorem UV:S "first_filled"=ks A 142:=rfl
theorem VD:S "less"=ks A 143:=rfl
theorem SN:S "taken_times"=ks A 144:=rfl
theorem Tw:S "undone_rows"=ks A 145:=rfl
theorem U5:S "back"=ks A 146:=rfl
theorem VL:S "__init__"=ks A 147:=rfl
theorem Ve:S "self"=ks A 148:=rfl
theorem UM:S "corners"=ks A 149:=rfl
theorem U4:S "columns"=ks A 150:=rfl
theorem VB:S "flipped"=ks A 151:=rfl
theorem Ux:S "things"=ks A 152:=rfl
theorem TR:S "places"=ks A 153:=rfl
theorem Wl:S "numbers"=ks A 154:=rfl
theorem Ue:S "evenhub.papers"=ks A 155:=rfl
theorem TB:S "is_kept"=ks A 156:=rfl
theorem UO:S "NoHole"=ks A 157:=rfl
theorem T2:S "the hole isn't kept"=ks A 158:=rfl
theorem UN:S "q"=ks A 159:=rfl
theorem UT:S "factors"=ks A 160:=rfl
theorem U2:S "part_weighing"=ks A 161:=rfl
theorem U1:S "share"=ks A 162:=rfl
theorem Ut:S "kept_share"=ks A 163:=rfl
theorem VH:S "uneven"=ks A 164:=rfl
theorem UW:S "evenhub.frames"=ks A 165:=rfl
theorem VU:S "first_dropped"=ks A 166:=rfl
theorem Uy:S "dropped"=ks A 167:=rfl
theorem SY:S "lay_ring"=ks A 168:=rfl
theorem Ww:S "NoTurn"=ks A 169:=rfl
theorem UB:S "the divisor of the step and the number isn't 1"=ks A 170:=rfl
theorem Wf:S "evenhub.rings"=ks A 171:=rfl
theorem U3:S "ring_holes"=ks A 172:=rfl
theorem UG:S "evenhub.rests"=ks A 173:=rfl
theorem Ws:S "NoFit"=ks A 174:=rfl
theorem Tk:S "the loads have unlike numbers of holes"=ks A 175:=rfl
theorem SH:S "evenhub.primes"=ks A 176:=rfl
theorem U9:S "prime_power"=ks A 177:=rfl
theorem T7:S "turned_on"=ks A 178:=rfl
theorem Uh:S "pair"=ks A 179:=rfl
theorem VX:S "turn"=ks A 180:=rfl
theorem UK:S "next_turn"=ks A 181:=rfl
theorem VN:S "length"=ks A 182:=rfl
theorem Vb:S "LEAD_BITS"=ks A 183:=rfl
theorem SR:S "behind"=ks A 184:=rfl
theorem VE:S "sure_turn"=ks A 185:=rfl
theorem TN:S "later_rest"=ks A 186:=rfl
theorem Tz:S "new_rest"=ks A 187:=rfl
theorem U7:S "further"=ks A 188:=rfl
theorem Um:S "doubt"=ks A 189:=rfl
theorem Uv:S "max"=ks A 190:=rfl
theorem V0:S "evenhub.loads"=ks A 191:=rfl
theorem SQ:S "HubError"=ks A 192:=rfl
theorem Tx:S "evenhub.wholes"=ks A 193:=rfl
theorem Vk:S "divisor"=ks A 194:=rfl
theorem SJ:S "small"=ks A 195:=rfl
theorem VI:S "evenhub.errors"=ks A 196:=rfl
theorem VJ:S "ValueError"=ks A 197:=rfl
theorem V5:S "/claim/cut.py"=ks A 198:=rfl
theorem cc {a b:Str}{l m:List Str}(h:a=b)(k:l=m):a::l=b::m:=by rw[h,k]
set_option maxRecDepth 100000 in
theorem AB:A=B:=by
 delta A B
 repeat (refine cc (PySem.W.Fast.ofString_ofList _) ?_)
 rfl
set_option maxRecDepth 100000 in
noncomputable def G:{g:List Str->Program // PySem.Challenge.pw_evenhub_k38_blocks_or_a_bar=g A}:=by
 refine⟨?g,?h⟩
 case h =>
  delta PySem.Challenge.pw_evenhub_k38_blocks_or_a_bar
  dsimp only[a0,a1,a2,a3,a4,a5,a6,a7,a8,a9,Mv,L5,LV,Mh,LX,MQ,OX,Pi,Pr,SS,WA,Vs,To,Uw,UF,Tc,S5,Wh,VA,Vu,SO,UZ,S3,Td,TK,UL,Vm,Vx,TQ,VW,Ug,TH,VQ,Vh,Tq,Wg,T9,Uc,TZ,Te,Vv,UQ,Th,V1,Uk,UI,Wq,SM,UP,Vf,SU,Vn,UU,SI,V2,Ui,SG,Wd,Ti,TF,U6,a71,a72,a73,a74,a75,a76,a77,a78,a79,a80,a81,a82,a83,a84,a85,a86,a87,a88,a89,a90,a91,a92,a93,a94,a95,a96,a97,a98,a99,V3,Tu,UH,SV,Uj,SC,UX,Vw,TL,SF,VF,Ub,Vp,WC,Wr,S9,U8,S7,TJ,SW,SE,Vz,Vl,Wi,T4,UY,Uz,SZ,VZ,Wx,VM,Wo,V6,T6,Wk,Tt,Ts,V9,US,We,Vq,T8,UV,VD,SN,Tw,U5,VL,Ve,UM,U4,VB,Ux,TR,Wl,Ue,TB,UO,T2,UN,UT,U2,U1,Ut,VH,UW,VU,Uy,SY,Ww,UB,Wf,U3,UG,Ws,Tk,SH,U9,T7,Uh,VX,UK,VN,Vb,SR,VE,TN,Tz,U7,Um,Uv,V0,SQ,Tx,Vk,SJ,VI,VJ,V5];generalize A=f;exact Z
end PwT
noncomputable def PySem.W.Fast.tw10082645097605034880:PySem.Program:=PwT.G.1 PwT.B
theorem PySem.W.Fast.te10082645097605034880:PySem.Challenge.pw_evenhub_k38_blocks_or_a_bar=PySem.W.Fast.tw10082645097605034880:=PwT.G.2.trans (cU PwT.G.1 PwT.AB)
namespace Hd
open PySem PySem.W PwT PySem.W.Fast
abbrev PO:=Params->Obj
abbrev PB:=Params->BT
abbrev LF:Life:=(PySem.Life.mk [] [] [] 0 [] [] Bool.false ⟨[]⟩ [] 0 Bool.false Bool.false Bool.false (Int.ofNat 0) [(Int.ofNat 2000),(Int.ofNat 10),(Int.ofNat 10)] Bool.false 0 Bool.true [] [] 0 Bool.false)
noncomputable def nN (a:PO)(l r:PB):PB:=fun P=>.node (a P) (l P) (r P)
noncomputable def nL (a:PO):PB:=fun P=>.node (a P) .nil .nil
noncomputable def nA (a:PO)(l:PB):PB:=fun P=>.node (a P) (l P) .nil
noncomputable abbrev TW:PySem.Program:=PySem.W.Fast.tw10082645097605034880
noncomputable def tp (i:Nat):PySem.Stmt:=TW.main.body.getD i (.Pass ⟨0,0,0,0⟩)
noncomputable abbrev E (P:Params)(q:PySem.Str)(t:Nat)(v:Value):DictEntry:=⟨PyData.keyHash P q,.str q t,v⟩
noncomputable abbrev I (n t:Nat):Value:=.int (Int.ofNat n) t
noncomputable abbrev l0:String:=SL.s2766695959194262286x5
noncomputable def o0:PO:=fun P=>Obj.mk (.type l0) none (.seq ⟨[]⟩ 0) ⟨[]⟩
noncomputable def o2:PO:=fun P=>Obj.mk .none none (.fields ⟨[]⟩) ⟨[]⟩
noncomputable abbrev l1:String:=SL.s5856160107412720595x4
noncomputable def q0:Str:=⟨⟨[60,109,111,100,117,108,101,62]⟩⟩
noncomputable def ha (a:Str)(b:Nat)(c:Nat)(d:Nat):PO:=fun _=>Obj.mk (.type l1) none (.fields ⟨[(.str a b),(.str a (b+1)),(.str (p 198) (b+2)),(I c 0),(I 0 0),(I 0 0),(I 0 0),(I 0 0),(.ref d),(.bool Bool.false),(I 181 0),(.ref (d+1)),.none,.none,.none,.none,(I (b+3) 0),(I c 0),(.str (p 198) (b+4))]⟩) ⟨[]⟩
noncomputable def o3:PO:=ha q0 182 1 11
noncomputable abbrev l2:String:=SL.s658472552662922059x5
noncomputable def q2:Str:=⟨⟨[95,95,109,97,105,110,95,95]⟩⟩
noncomputable def hb (a:Nat)(b:Nat)(c:Str)(d:Nat):PO:=fun _=>Obj.mk (.type l2) none .plain ⟨[(some (.ref a)),(some (.ref 3)),(some (.ref b)),none,(some (.str c d)),none,(some (.ref 0))]⟩
noncomputable def o7:PO:=hb 13 3 q2 164
noncomputable def Ta:PB:=(nN boot_o_0 (nN boot_o_1 (nN boot_o_3 (nL boot_o_7) (nL o0)) (nN boot_o_5 (nL boot_o_9) (nL o3))) (nN boot_o_2 (nN boot_o_4 (nL boot_o_8) (nL o2)) (nN boot_o_6 (nL boot_o_10) (nL o7))))
noncomputable def Yt (w:PySem.World)(os:PySem.OsState):PySem.W.SharedT:=PySem.W.SharedT.mk (Ta w.params) 15 LF (Array.mk []) (PySem.Drawn.mk 0 0 0 0) 187 os
noncomputable def Tb:PB:=Ta
noncomputable def Pf (w:PySem.World)(os:PySem.OsState):PySem.W.SharedT:=PySem.W.SharedT.mk (Tb w.params) 15 LF (Array.mk []) (PySem.Drawn.mk 0 0 0 0) 187 os
noncomputable def env:PySem.Env:={ scope:=TW.main.scope,locals:=PySem.mainNs,globals:=PySem.mainNs,cells:=[],code:=(.ref 13),frame:=some 14 }
abbrev ann:Option PySem.Value:=(some (.ref 6))
abbrev m0:Nat:=11
abbrev Bs:List PySem.Frame:=[PySem.W.topFrame (PySem.Pos.mk 0 0 0 0)]
noncomputable abbrev cE:PySem.Code:=.body (behindTheImports TW) env
abbrev Ox:PySem.Pos:=(PySem.Pos.mk 0 0 0 0)
abbrev posB:PySem.Pos:=(PySem.Pos.mk 0 0 0 0)
abbrev kA:Nat:=12
abbrev kB:Nat:=0
abbrev kF:Nat:=1
noncomputable abbrev l3:String:=SL.s14018661285674007319x4
noncomputable def q5:Str:=⟨⟨[95,95,100,111,99,95,95]⟩⟩
noncomputable def q6:Str:=⟨⟨[95,95,112,97,99,107,97,103,101,95,95]⟩⟩
noncomputable def q7:Str:=⟨⟨[95,95,108,111,97,100,101,114,95,95]⟩⟩
noncomputable abbrev l4:String:=SL.s7097527257260152453x26
noncomputable def q8:Str:=⟨⟨[95,95,115,112,101,99,95,95]⟩⟩
noncomputable def q9:Str:=⟨⟨[95,95,97,110,110,111,116,97,116,105,111,110,115,95,95]⟩⟩
noncomputable def q10:Str:=⟨⟨[95,95,98,117,105,108,116,105,110,115,95,95]⟩⟩
noncomputable def q11:Str:=⟨⟨[95,95,102,105,108,101,95,95]⟩⟩
noncomputable def q12:Str:=⟨⟨[95,95,99,97,99,104,101,100,95,95]⟩⟩
noncomputable def o24:PO:=fun P=>Obj.mk (.type l3) none (.dict ⟨[(E P (p 74) 165 (.str (p 75) 833)),(E P q5 166 .none),(E P q6 167 .none),(E P q7 168 (.builtin l4)),(E P q8 169 .none),(E P q9 170 (.ref 6)),(E P q10 171 (.ref 4)),(E P q11 173 (.str (p 198) 172)),(E P q12 174 .none),(E P (p 192) 206 (.ref 24)),(E P (p 169) 222 (.ref 37)),(E P (p 174) 238 (.ref 49)),(E P (p 60) 254 (.ref 61)),(E P (p 157) 270 (.ref 73)),(E P (p 183) 274 (I 128 273)),(E P (p 194) 285 (.ref 82)),(E P (p 111) 293 (.ref 89)),(E P (p 81) 305 (.ref 96)),(E P (p 178) 313 (.ref 103)),(E P (p 181) 324 (.ref 110)),(E P (p 185) 337 (.ref 117)),(E P (p 87) 349 (.ref 124)),(E P (p 72) 355 (.ref 129)),(E P (p 59) 363 (.ref 136)),(E P (p 67) 369 (.ref 141)),(E P (p 125) 382 (.ref 148)),(E P (p 177) 391 (.ref 155)),(E P (p 146) 400 (.ref 162)),(E P (p 168) 413 (.ref 169)),(E P (p 172) 423 (.ref 176)),(E P (p 162) 434 (.ref 183)),(E P (p 156) 440 (.ref 188)),(E P (p 166) 448 (.ref 195)),(E P (p 64) 454 (.ref 200)),(E P (p 70) 468 (.ref 207)),(E P (p 167) 474 (.ref 212)),(E P (p 90) 482 (.ref 217)),(E P (p 73) 488 (.ref 222)),(E P (p 161) 499 (.ref 229)),(E P (p 17) 509 (.ref 236)),(E P (p 99) 570 (.ref 272)),(E P (p 104) 576 (.ref 281)),(E P (p 119) 588 (.ref 288)),(E P (p 151) 594 (.ref 293)),(E P (p 103) 600 (.ref 298)),(E P (p 149) 613 (.ref 305)),(E P (p 140) 619 (.ref 310)),(E P (p 142) 628 (.ref 317)),(E P (p 114) 634 (.ref 322)),(E P (p 144) 640 (.ref 327)),(E P (p 145) 646 (.ref 332)),(E P (p 127) 652 (.ref 337)),(E P (p 131) 658 (.ref 342)),(E P (p 133) 664 (.ref 347)),(E P (p 137) 673 (.ref 354)),(E P (p 116) 682 (.ref 361)),(E P (p 122) 686 (I 1000000007 685)),(E P (p 65) 696 (.ref 368)),(E P (p 124) 704 (.ref 375)),(E P (p 123) 713 (.ref 382)),(E P (p 118) 719 (.ref 387)),(E P (p 109) 729 (.ref 394)),(E P (p 94) 737 (.ref 401)),(E P (p 95) 743 (.ref 406)),(E P (p 101) 755 (.ref 413)),(E P (p 108) 761 (.ref 418)),(E P (p 112) 767 (.ref 423)),(E P (p 113) 773 (.ref 428)),(E P (p 76) 779 (.ref 433)),(E P (p 82) 785 (.ref 438)),(E P (p 85) 798 (.ref 445)),(E P (p 91) 804 (.ref 450)),(E P (p 58) 808 (I 60 807)),(E P (p 51) 814 (.ref 455)),(E P (p 66) 820 (.ref 460)),(E P (p 68) 832 (.ref 467)),(E P (p 45) 842 (.ref 474)),(E P (p 9) 849 (.ref 481)),(E P (p 23) 855 (.ref 486)),(E P (p 37) 866 (.ref 493)),(E P (p 36) 874 (.ref 500)),(E P (p 12) 883 (.ref 507)),(E P (p 19) 897 (.ref 514)),(E P (p 0) 903 (.ref 519)),(E P (p 14) 911 (.ref 526)),(E P (p 20) 917 (.ref 531)),(E P (p 29) 923 (.ref 536)),(E P (p 38) 936 (.ref 543)),(E P (p 43) 942 (.ref 548))]⟩ 89) ⟨[]⟩
noncomputable def Wa:PO:=fun P=>Obj.mk .none none (.fields ⟨[(I 2 0),(I 0 0),(.ref 20),(I 4 0),(I 0 0),(.ref 33),(I 6 0),(I 0 0),(.ref 45),(I 8 0),(I 0 0),(.ref 57),(I 10 0),(I 0 0),(.ref 69),(I 14 0),(I 0 0),(.ref 81),(I 22 0),(I 0 0),(.ref 88),(I 24 0),(I 0 0),(.ref 95),(I 32 0),(I 0 0),(.ref 102),(I 34 0),(I 0 0),(.ref 109),(I 42 0),(I 0 0),(.ref 116),(I 56 0),(I 0 0),(.ref 123),(I 60 0),(I 0 0),(.ref 128),(I 63 0),(I 0 0),(.ref 135),(I 66 0),(I 0 0),(.ref 140),(I 69 0),(I 0 0),(.ref 147),(I 82 0),(I 0 0),(.ref 154),(I 87 0),(I 0 0),(.ref 161),(I 93 0),(I 0 0),(.ref 168),(I 96 0),(I 0 0),(.ref 175),(I 100 0),(I 0 0),(.ref 182),(I 102 0),(I 0 0),(.ref 187),(I 104 0),(I 0 0),(.ref 194),(I 106 0),(I 0 0),(.ref 199),(I 108 0),(I 0 0),(.ref 206),(I 119 0),(I 0 0),(.ref 211),(I 123 0),(I 0 0),(.ref 216),(I 126 0),(I 0 0),(.ref 221),(I 135 0),(I 0 0),(.ref 228),(I 141 0),(I 0 0),(.ref 235),(I 148 0),(I 0 0),(.ref 242),(I 169 0),(I 0 0),(.ref 280),(I 171 0),(I 0 0),(.ref 287),(I 176 0),(I 0 0),(.ref 292),(I 178 0),(I 0 0),(.ref 297),(I 180 0),(I 0 0),(.ref 304),(I 188 0),(I 0 0),(.ref 309),(I 193 0),(I 0 0),(.ref 316),(I 198 0),(I 0 0),(.ref 321),(I 202 0),(I 0 0),(.ref 326),(I 204 0),(I 0 0),(.ref 331),(I 212 0),(I 0 0),(.ref 336),(I 227 0),(I 0 0),(.ref 341),(I 231 0),(I 0 0),(.ref 346),(I 239 0),(I 0 0),(.ref 353),(I 241 0),(I 0 0),(.ref 360),(I 246 0),(I 0 0),(.ref 367),(I 253 0),(I 0 0),(.ref 374),(I 258 0),(I 0 0),(.ref 381),(I 262 0),(I 0 0),(.ref 386),(I 267 0),(I 0 0),(.ref 393),(I 272 0),(I 0 0),(.ref 400),(I 276 0),(I 0 0),(.ref 405),(I 285 0),(I 0 0),(.ref 412),(I 295 0),(I 0 0),(.ref 417),(I 311 0),(I 0 0),(.ref 422),(I 313 0),(I 0 0),(.ref 427),(I 318 0),(I 0 0),(.ref 432),(I 330 0),(I 0 0),(.ref 437),(I 332 0),(I 0 0),(.ref 444),(I 339 0),(I 0 0),(.ref 449),(I 344 0),(I 0 0),(.ref 454),(I 355 0),(I 0 0),(.ref 459),(I 358 0),(I 0 0),(.ref 466),(I 364 0),(I 0 0),(.ref 473),(I 368 0),(I 0 0),(.ref 480),(I 370 0),(I 0 0),(.ref 485),(I 374 0),(I 0 0),(.ref 492),(I 379 0),(I 0 0),(.ref 499),(I 383 0),(I 0 0),(.ref 506),(I 393 0),(I 0 0),(.ref 513),(I 400 0),(I 0 0),(.ref 518),(I 409 0),(I 0 0),(.ref 525),(I 414 0),(I 0 0),(.ref 530),(I 423 0),(I 0 0),(.ref 535),(I 437 0),(I 0 0),(.ref 542),(I 445 0),(I 0 0),(.ref 547)]⟩) ⟨[]⟩
noncomputable abbrev l5:String:=SL.s6070975301684473832x10
noncomputable abbrev l6:String:=SL.s11030030927630378310x26
noncomputable abbrev l7:String:=SL.s10062305145149207511x16
noncomputable abbrev l8:String:=SL.s17162191345867700912x4
noncomputable def Ez:PO:=fun P=>Obj.mk (.type l6) none (.fields ⟨[(.builtin l7),(.type l8)]⟩) ⟨[]⟩
noncomputable def EY:Str:=⟨⟨[95,95,109,111,100,117,108,101,95,95]⟩⟩
noncomputable def ND:Str:=⟨⟨[95,95,113,117,97,108,110,97,109,101,95,95]⟩⟩
noncomputable def E2:Str:=⟨⟨[95,95,102,105,114,115,116,108,105,110,101,110,111,95,95]⟩⟩
noncomputable def E3:Str:=⟨⟨[95,95,115,116,97,116,105,99,95,97,116,116,114,105,98,117,116,101,115,95,95]⟩⟩
noncomputable def RD:Str:=⟨⟨[95,95,119,101,97,107,114,101,102,95,95]⟩⟩
noncomputable abbrev l9:String:=SL.s5946037652744460706x9
noncomputable abbrev YB:String:=SL.s4278001404047624695x13
noncomputable abbrev Ru:String:=SL.s2742458400755230247x6
noncomputable abbrev Ys:String:=SL.s4209523147560561109x18
noncomputable abbrev Vc:String:=SL.s14755015743595814543x17
noncomputable abbrev Yv:String:=SL.s10220274742760427390x26
noncomputable abbrev l15:String:=SL.s4290257624100764138x5
noncomputable def hc (a:Nat):PO:=fun _=>Obj.mk (.type l15) none (.fields ⟨[(.ref a),(.ref a),(.ref a)]⟩) ⟨[]⟩
noncomputable abbrev l16:String:=SL.s4860613602091757760x24
noncomputable def hd (a:Nat):PO:=fun _=>Obj.mk (.type l6) none (.fields ⟨[(.builtin l16),(.ref a)]⟩) ⟨[]⟩
noncomputable def I0:PO:=fun P=>Obj.mk (.type l0) none (.seq ⟨[(.ref 24)]⟩ 0) ⟨[]⟩
noncomputable def he (a:Str)(b:Nat)(c:Nat)(d:Nat)(e:Nat):PO:=fun _=>Obj.mk (.type l8) none (.cls (PySem.ClassData.mk a [(.ref 24)] [(.ref b),(.ref 24),(.type l5),(.type l9),(.type YB),(.type Ru)] c a Bool.true [] [] Bool.false none Bool.false)) ⟨[(some (.ref d)),none,(some (.str a e)),(some (.str a (e+8))),(some (.builtin Ys)),(some (.bool Bool.true))]⟩
noncomputable def hf (a:Str)(b:Nat)(c:Str)(d:Str)(e:Str)(f:Str):PO:=fun _=>Obj.mk (.type l0) none (.seq ⟨[(.str a b),(.str c (b+1)),(.str d (b+2)),(.str e (b+3)),(.str f (b+4))]⟩ 0) ⟨[]⟩
noncomputable def hg (a:Str)(b:Nat):PO:=fun _=>Obj.mk .none none (.func { fnOf a a (L2.lQ (tp b)) (L2.kY (tp b)) (L2.jP (tp b)) .none .none .none .none none .none .none with globals:=0,builtins:=0 }) ⟨[]⟩
noncomputable def hh (a:Str)(b:Nat)(c:Str)(d:Nat)(e:Nat)(f:Nat)(g:Value)(h:Value)(i:Nat)(j:Nat):PO:=fun _=>Obj.mk (.type l1) none (.fields ⟨[(.str a b),(.str c (b+1)),(.str (p 198) (b+2)),(I d 0),(I e 0),(I 0 0),(I 0 0),(I 3 0),(.ref f),(.bool Bool.true),(I 181 0),(.ref (f+1)),.none,g,h,(.ref i),(I j 0),(I d 0),(.str (p 198) (j+1))]⟩) ⟨[]⟩
noncomputable abbrev Rr:String:=SL.s7174869446012820540x8
noncomputable def hi (a:Str)(b:Nat)(c:Str)(d:Nat)(e:Nat):PO:=fun _=>Obj.mk (.type Rr) none (.func (fnOf a a (L2.lQ (tp b)) (L2.kY (tp b)) (L2.jP (tp b)) .none .none .none (.str c d) none (.ref e) .none)) ⟨[]⟩
noncomputable def hj (a:Str)(b:Nat)(c:Str):PO:=fun _=>Obj.mk (.type l0) none (.seq ⟨[(.str a b),(.str c (b+1))]⟩ 0) ⟨[]⟩
noncomputable def hk (a:Str)(b:Nat)(c:Str)(d:Str)(e:Str)(f:Str)(g:Str):PO:=fun _=>Obj.mk (.type l0) none (.seq ⟨[(.str a b),(.str c (b+1)),(.str d (b+2)),(.str e (b+3)),(.str f (b+4)),(.str g (b+5))]⟩ 0) ⟨[]⟩
noncomputable def hl (a:Str)(b:Nat)(c:Str)(d:Str)(e:Str)(f:Str)(g:Str)(h:Str):PO:=fun _=>Obj.mk (.type l0) none (.seq ⟨[(.str a b),(.str c (b+1)),(.str d (b+2)),(.str e (b+3)),(.str f (b+4)),(.str g (b+5)),(.str h (b+6))]⟩ 0) ⟨[]⟩
noncomputable def hm (a:Str)(b:Nat)(c:Str)(d:Str)(e:Str):PO:=fun _=>Obj.mk (.type l0) none (.seq ⟨[(.str a b),(.str c (b+1)),(.str d (b+2)),(.str e (b+3))]⟩ 0) ⟨[]⟩
noncomputable def hn (a:Str)(b:Nat)(c:Str)(d:Str):PO:=fun _=>Obj.mk (.type l0) none (.seq ⟨[(.str a b),(.str c (b+1)),(.str d (b+2))]⟩ 0) ⟨[]⟩
noncomputable def MG:Str:=⟨⟨[70,114,97,109,101,46,95,95,105,110,105,116,95,95]⟩⟩
noncomputable def ho (a:Str)(b:Str)(c:Nat):PO:=fun _=>Obj.mk .none none (.func { fnOf a b (L2.lQ (L2.inClass (tp 39) c)) (L2.kY (L2.inClass (tp 39) c)) (L2.jP (L2.inClass (tp 39) c)) .none .none .none .none none .none .none with globals:=0,builtins:=0 }) ⟨[]⟩
noncomputable def hp (a:Str)(b:Str)(c:Nat)(d:Nat):PO:=fun _=>Obj.mk (.type Rr) none (.func (fnOf a b (L2.lQ (L2.inClass (tp 39) c)) (L2.kY (L2.inClass (tp 39) c)) (L2.jP (L2.inClass (tp 39) c)) .none .none .none (.str (p 165) 510) none (.ref d) .none)) ⟨[]⟩
noncomputable def Ma:Str:=⟨⟨[70,114,97,109,101,46,109,105,115,115,101,100]⟩⟩
noncomputable def Lv:Str:=⟨⟨[70,114,97,109,101,46,99,111,117,110,116,115]⟩⟩
noncomputable def MI:Str:=⟨⟨[70,114,97,109,101,46,119,101,105,103,104,116,115]⟩⟩
noncomputable def OL:Str:=⟨⟨[95,95,100,105,99,116,95,95]⟩⟩
noncomputable abbrev l18:String:=SL.s11443829558043349243x14
noncomputable abbrev l19:String:=SL.s6511155373996960695x17
noncomputable abbrev l20:String:=SL.s12411053484034534018x21
noncomputable def T0:PB:=(nN boot_o_0 (nN boot_o_1 (nN o24 (nN boot_o_7 (nN (fun P=>Obj.mk (.type l0) none (.seq ⟨[(.type l5)]⟩ 0) ⟨[]⟩) (nN o0 (nN (hd 61) (nN (hg (p 72) 16) (nA (hp (p 100) Ma 1 254) (nL o0)) (nL o0)) (nN (hj (p 31) 444 (p 159)) (nL o2) (nL o2))) (nN (hh (p 81) 294 (p 81) 24 3 90 (.ref 92) (.ref 93) 94 303) (nN o0 (nA (hh (p 119) 577 (p 119) 171 3 282 (.ref 284) (.ref 285) 286 586) (nL (hi (p 38) 89 (p 75) 833 542))) (nL o2)) (nN o0 (nL o0) (nL (hg (p 9) 79))))) (nN o0 (nN o0 (nN o2 (nA (fun P=>Obj.mk (.type l3) none (.dict ⟨[(E P EY 519 (.str (p 165) 510)),(E P E2 523 (I 148 522)),(E P (p 147) 529 (.ref 248)),(E P (p 100) 537 (.ref 255)),(E P (p 102) 545 (.ref 262)),(E P (p 54) 554 (.ref 269)),(E P E3 563 (.ref 270)),(E P OL 565 (.ref 273)),(E P RD 567 (.ref 274)),(E P q5 568 .none)]⟩ 4) ⟨[]⟩) (nL o0)) (nL (hg (p 94) 62))) (nN (hi (p 70) 31 (p 173) 424 206) (nL (hg (p 127) 50)) (nL (hk (p 2) 824 (p 63) (p 54) (p 71) (p 32) (p 26))))) (nN o0 (nN (hh (p 172) 414 (p 172) 96 3 170 (.ref 172) (.ref 173) 174 421) (nL (hg (p 149) 44)) (nL (hg (p 76) 68))) (nN (fun P=>Obj.mk (.type l3) none (.dict ⟨[(E P EY 519 (.str (p 165) 510)),(E P ND 521 (.str (p 99) 520)),(E P E2 523 (I 148 522)),(E P (p 147) 529 (.ref 248)),(E P (p 100) 537 (.ref 255)),(E P (p 102) 545 (.ref 262)),(E P (p 54) 554 (.ref 269)),(E P E3 563 (.ref 270))]⟩ 8) ⟨[]⟩) (nL (hh (p 65) 687 (p 65) 246 2 362 (.ref 364) (.ref 365) 366 694)) (nL o2))))) (nN (fun P=>Obj.mk (.type l3) none (.dict ⟨[(E P EY 196 (.str (p 196) 187)),(E P E2 200 (I 2 199)),(E P E3 201 (.ref 22)),(E P RD 203 (.ref 25)),(E P q5 204 .none)]⟩ 3) ⟨[]⟩) (nN (hd 37) (nN o0 (nN (hh (p 59) 356 (p 59) 63 2 130 (.ref 132) (.ref 133) 134 361) (nA o0 (nL (hi (p 0) 85 (p 75) 833 518))) (nL o0)) (nN (hh (p 64) 449 (p 64) 106 1 196 .none .none 198 452) (nL (hi (p 144) 48 (p 165) 510 326)) (nL (hi (p 51) 74 (p 93) 805 454)))) (nN (hi (p 178) 11 (p 193) 271 102) (nN (hg (p 168) 24) (nL o2) (nL (hi (p 112) 66 (p 139) 683 422))) (nN o2 (nL (hg (p 116) 54)) (nL o0)))) (nN o0 (nN (hg (p 111) 9) (nN (hn (p 2) 386 (p 31) (p 159)) (nA (hg (p 104) 40) (nL (hh (p 29) 918 (p 29) 423 3 532 .none .none 534 921))) (nL o0)) (nN (hg (p 90) 34) (nL o0) (nL o0))) (nN o2 (nN (hi (p 162) 27 (p 173) 424 182) (nL o0) (nL o0)) (nN (hh (p 147) 524 MG 150 4 244 .none .none 246 527) (nL (hi (p 124) 58 (p 139) 683 374)) (nL (hn (p 2) 878 (p 1) (p 31)))))))) (nN o0 (nN o2 (nN o0 (nN o0 (nN o2 (nA o0 (nL o0)) (nL (hi (p 118) 60 (p 139) 683 386))) (nN (hi (p 166) 29 (p 173) 424 194) (nL o0) (nL o0))) (nN (hj (p 179) 309 (p 180)) (nN o0 (nA (hg (p 151) 42) (nL (hh (p 43) 937 (p 43) 445 1 544 .none .none 546 940))) (nL o0)) (nN (hg (p 161) 36) (nL o0) (nL o2)))) (nN (hd 49) (nN o0 (nN (hh (p 125) 372 (p 125) 69 1 142 (.ref 144) (.ref 145) 146 380) (nA (hc 272) (nL (hi (p 20) 87 (p 75) 833 530))) (nL o2)) (nN (hh (p 167) 469 (p 167) 119 3 208 .none .none 210 472) (nL o2) (nL (hi (p 68) 76 (p 93) 805 466)))) (nN (hg (p 185) 13) (nN (hn (p 2) 429 (p 159) (p 32)) (nL o2) (nL o2)) (nN (hb 242 239 (p 165) 510) (nL (hj (p 41) 700 (p 1))) (nL (hh (p 36) 867 (p 36) 379 2 494 (.ref 496) (.ref 497) 498 872)))))) (nN (hd 24) (nN o0 (nN (hd 73) (nN (hg (p 67) 18) (nA (ho (p 54) MI 3) (nL o0)) (nL o0)) (nN (fun P=>Obj.mk (.type l0) none (.seq ⟨[(.str (p 15) 458),(.str (p 2) 459),(.str (p 69) 460),(.str (p 57) 461),(.str (p 31) 462),(.str (p 159) 463),(.str (p 32) 464),(.str (p 26) 465)]⟩ 0) ⟨[]⟩) (nL (hh (p 145) 641 (p 145) 204 2 328 .none .none 330 644)) (nL (hh (p 66) 815 (p 66) 355 2 456 .none .none 458 818)))) (nN o0 (nN o2 (nL o0) (nL (hh (p 113) 768 (p 113) 313 3 424 .none .none 426 771))) (nN (hh (p 17) 500 (p 17) 141 1 230 (.ref 232) (.ref 233) 234 507) (nL o2) (nL (hg (p 37) 81))))) (nN o0 (nN o2 (nN (hi (p 177) 21 (p 176) 370 154) (nA o2 (nL (hl (p 2) 927 (p 39) (p 40) (p 25) (p 35) (p 41) (p 42)))) (nL (hg (p 101) 64))) (nN o2 (nL (hi (p 133) 52 (p 165) 510 346)) (nL o0))) (nN (hh (p 87) 340 (p 87) 56 3 118 (.ref 120) (.ref 121) 122 347) (nN (hh (p 156) 435 (p 156) 102 2 184 .none .none 186 438) (nL (hg (p 142) 46)) (nL (hg (p 85) 70))) (nN (hj (p 148) 533 (p 97)) (nL o0) (nL (hi (p 12) 83 (p 75) 833 506)))))))) (nN boot_o_5 (nN boot_o_9 (nN (fun P=>Obj.mk (.type l3) none (.dict ⟨[(E P EY 196 (.str (p 196) 187)),(E P ND 198 (.str (p 192) 197)),(E P E2 200 (I 2 199)),(E P E3 201 (.ref 22))]⟩ 4) ⟨[]⟩) (nN (ha (p 169) 209 4 31) (nN Ez (nN (hi (p 72) 16 (p 191) 338 128) (nA o2 (nL (hh (p 19) 884 (p 19) 393 2 508 (.ref 510) (.ref 511) 512 895))) (nL (hg (p 118) 60))) (nN (hg (p 166) 29) (nL (hh (p 114) 629 (p 114) 198 4 318 .none .none 320 632)) (nL (hh (p 91) 799 (p 91) 339 2 446 .none .none 448 802)))) (nN o0 (nN (hh (p 146) 392 (p 146) 87 2 156 (.ref 158) (.ref 159) 160 398) (nA o0 (nL o2)) (nL (hh (p 108) 756 (p 108) 295 4 414 .none .none 416 759))) (nN (hf (p 31) 492 (p 159) (p 163) (p 126) (p 160)) (nL (hh (p 137) 665 (p 137) 239 3 348 (.ref 350) (.ref 351) 352 671)) (nL (hi (p 9) 79 (p 75) 833 480))))) (nN (he (p 174) 49 48 40 223) (nN (hh (p 194) 275 (p 194) 14 2 76 (.ref 78) (.ref 79) 80 283) (nN o0 (nA (fun P=>Obj.mk (.type Vc) none (.fields ⟨[(.str OL 564),(.ref 272),(.builtin l19),(.builtin l20)]⟩) ⟨[]⟩) (nL (hg (p 20) 87))) (nL (hi (p 94) 62 (p 139) 683 400))) (nN o2 (nL (hi (p 127) 50 (p 165) 510 336)) (nL (hg (p 68) 76)))) (nN (hl (p 70) 328 (p 186) (p 180) (p 26) (p 187) (p 188) (p 189)) (nN o0 (nL (hi (p 149) 44 (p 165) 510 304)) (nL (hi (p 76) 68 (p 139) 683 432))) (nN (fun P=>Obj.mk .none none (.fields ⟨[(I 150 0),(I 4 0),(.ref 247),(I 160 0),(I 4 0),(.ref 254),(I 163 0),(I 4 0),(.ref 261),(I 166 0),(I 4 0),(.ref 268)]⟩) ⟨[]⟩) (nL o0) (nL o0))))) (nN (fun P=>Obj.mk (.type Vc) none (.fields ⟨[(.str RD 202),(.ref 24),(.builtin Yv),.none]⟩) ⟨[]⟩) (nN Ez (nN (he (p 157) 73 72 64 255) (nN o0 (nA (hn (p 148) 549 (p 86) (p 16)) (nL o2)) (nL (hh (p 109) 720 (p 109) 267 2 388 (.ref 390) (.ref 391) 392 727))) (nN o0 (nL o2) (nL o2))) (nN o2 (nN (hi (p 168) 24 (p 171) 401 168) (nL (hh (p 103) 595 (p 103) 178 2 294 .none .none 296 598)) (nL o2)) (nN o0 (nL (hi (p 116) 54 (p 165) 510 360)) (nL (hf (p 5) 859 (p 54) (p 24) (p 10) (p 26)))))) (nN (ha (p 60) 241 8 55) (nN (hi (p 111) 9 (p 193) 271 88) (nN (hg (p 177) 21) (nA (hi (p 104) 40 (p 165) 510 280) (nL o0)) (nL (hk (p 96) 747 (p 92) (p 106) (p 107) (p 16) (p 41)))) (nN (hi (p 90) 34 (p 155) 475 216) (nL (hg (p 133) 52)) (nL (hh (p 45) 835 (p 45) 364 2 468 (.ref 470) (.ref 471) 472 840)))) (nN o0 (nN o2 (nL (hn (p 5) 623 (p 78) (p 41))) (nL (hl (p 77) 789 (p 78) (p 55) (p 86) (p 88) (p 79) (p 89)))) (nN o0 (nL o2) (nL (hg (p 12) 83))))))) (nN o3 (nN (hb 20 17 (p 196) 187) (nN (he (p 169) 37 36 28 207) (nN (ha (p 157) 257 10 67) (nN o0 (nA (hh (p 102) 538 Lv 163 2 256 (.ref 258) (.ref 259) 260 543) (nL (hg (p 0) 85))) (nL o2)) (nN o2 (nL (hg (p 144) 48)) (nL (hg (p 51) 74)))) (nN (hg (p 178) 11) (nN (hf (p 15) 406 (p 31) (p 32) (p 26) (p 88)) (nL (hi (p 151) 42 (p 165) 510 292)) (nL (hg (p 112) 66))) (nN (hi (p 161) 36 (p 155) 475 228) (nL (hn (p 41) 677 (p 130) (p 70))) (nL (hh (p 23) 850 (p 23) 370 2 482 .none .none 484 853))))) (nN Ez (nN (hj (p 10) 289 (p 28)) (nN o0 (nA o0 (nL o2)) (nL (hh (p 95) 738 (p 95) 276 3 402 .none .none 404 741))) (nN o0 (nL (hh (p 131) 653 (p 131) 227 3 338 .none .none 340 656)) (nL o2))) (nN (hi (p 185) 13 (p 193) 271 116) (nN (hg (p 162) 27) (nL (hh (p 140) 614 (p 140) 188 3 306 .none .none 308 617)) (nL (hh (p 82) 780 (p 82) 330 5 434 .none .none 436 783))) (nN o2 (nL (hg (p 124) 58)) (nL o0))))) (nN Ez (nN (ha (p 174) 225 6 43) (nN o2 (nN (hi (p 67) 18 (p 191) 338 140) (nA (hp (p 54) MI 3 268) (nL (hh (p 14) 904 (p 14) 409 1 520 (.ref 522) (.ref 523) 524 909))) (nL (hj (p 55) 733 (p 41)))) (nN (hg (p 70) 31) (nL o0) (nL o0))) (nN (hh (p 181) 314 (p 181) 34 2 104 (.ref 106) (.ref 107) 108 322) (nN o0 (nL (hl (p 96) 604 (p 98) (p 1) (p 41) (p 126) (p 69) (p 78))) (nL o0)) (nN o0 (nL o0) (nL (hi (p 37) 81 (p 75) 833 492))))) (nN (he (p 60) 61 60 52 239) (nN o0 (nN o2 (nA o0 (nL (hg (p 38) 89))) (nL (hi (p 101) 64 (p 139) 683 412))) (nN (hh (p 73) 483 (p 73) 126 2 218 .none .none 220 486) (nL o2) (nL (fun P=>Obj.mk (.type l0) none (.seq ⟨[(.str (p 1) 846)]⟩ 0) ⟨[]⟩)))) (nN o0 (nN o0 (nL (hi (p 142) 46 (p 165) 510 316)) (nL (hi (p 85) 70 (p 139) 683 444))) (nN (ho (p 100) Ma 1) (nL (hh (p 123) 705 (p 123) 258 3 376 (.ref 378) (.ref 379) 380 711)) (nL o2)))))))) (nN boot_o_2 (nN boot_o_4 (nN boot_o_8 (nN Ez (nN o2 (nN I0 (nN (hh (p 72) 350 (p 72) 60 2 125 .none .none 127 353) (nA o0 (nL (hg (p 19) 84))) (nL o2)) (nN o0 (nL (hg (p 114) 47)) (nL (hg (p 91) 71)))) (nN (hi (p 81) 10 (p 193) 271 95) (nN (hg (p 146) 22) (nA (hi (p 119) 41 (p 165) 510 287) (nL o0)) (nL (hg (p 108) 65))) (nN o2 (nL (hg (p 137) 53)) (nL (hh (p 9) 843 (p 9) 368 1 475 (.ref 477) (.ref 478) 479 847))))) (nN (fun P=>Obj.mk (.type l3) none (.dict ⟨[(E P EY 230 (.str (p 196) 187)),(E P E2 234 (I 6 233)),(E P E3 235 (.ref 47)),(E P q5 236 .none)]⟩ 2) ⟨[]⟩) (nN (hg (p 194) 8) (nN (hf (p 2) 375 (p 1) (p 69) (p 31) (p 159)) (nA (fun P=>Obj.mk (.type l8) none (.cls (PySem.ClassData.mk (p 99) [(.type Ru)] [(.ref 272),(.type Ru)] 271 (p 99) Bool.true [] [] Bool.false none Bool.false)) ⟨[none,none,(some (.str (p 99) 512)),(some (.str (p 99) 520)),(some (.builtin l18)),(some (.bool Bool.true))]⟩) (nL o2)) (nL (hh (p 94) 730 (p 94) 272 2 395 (.ref 397) (.ref 398) 399 735))) (nN o0 (nL (hh (p 127) 647 (p 127) 212 4 333 .none .none 335 650)) (nL o0))) (nN o2 (nN (hi (p 172) 25 (p 171) 401 175) (nL (hh (p 149) 601 (p 149) 180 2 299 (.ref 301) (.ref 302) 303 611)) (nL (hh (p 76) 774 (p 76) 318 3 429 .none .none 431 777))) (nN o0 (nL (hi (p 65) 57 (p 139) 683 367)) (nL (hj (p 41) 870 (p 55))))))) (nN (fun P=>Obj.mk (.type l8) none (.cls (PySem.ClassData.mk (p 192) [(.type l5)] [(.ref 24),(.type l5),(.type l9),(.type YB),(.type Ru)] 23 (p 192) Bool.true [] [(.ref 37),(.ref 49),(.ref 61),(.ref 73)] Bool.false none Bool.false)) ⟨[(some (.ref 15)),none,(some (.str (p 192) 189)),(some (.str (p 192) 197)),(some (.builtin Ys)),(some (.bool Bool.true))]⟩) (nN I0 (nN (fun P=>Obj.mk (.type l3) none (.dict ⟨[(E P EY 262 (.str (p 196) 187)),(E P E2 266 (I 10 265)),(E P E3 267 (.ref 71)),(E P q5 268 .none)]⟩ 2) ⟨[]⟩) (nN (hi (p 59) 17 (p 191) 338 135) (nA o2 (nL o0)) (nL (hg (p 109) 61))) (nN (hi (p 64) 30 (p 173) 424 199) (nL o0) (nL o0))) (nN o0 (nN (hh (p 168) 403 (p 168) 93 4 163 (.ref 165) (.ref 166) 167 411) (nL (hg (p 103) 43)) (nL o0)) (nN (hm (p 15) 503 (p 16) (p 32) (p 141)) (nL (hh (p 116) 674 (p 116) 241 2 355 (.ref 357) (.ref 358) 359 680)) (nL o2)))) (nN o2 (nN (hh (p 111) 286 (p 111) 22 2 83 (.ref 85) (.ref 86) 87 291) (nN o0 (nA (hh (p 104) 571 (p 104) 169 2 277 .none .none 279 574) (nL (hi (p 29) 88 (p 75) 833 535))) (nL o2)) (nN (hh (p 90) 477 (p 90) 123 2 213 .none .none 215 480) (nL o2) (nL (hg (p 45) 78)))) (nN (hm (p 2) 343 (p 32) (p 141) (p 71)) (nN o0 (nL o2) (nL o2)) (nN (hp (p 147) MG 0 247) (nL o0) (nL o0)))))) (nN Wa (nN (ha (p 192) 191 2 18) (nN (fun P=>Obj.mk (.type l3) none (.dict ⟨[(E P EY 214 (.str (p 196) 187)),(E P E2 218 (I 4 217)),(E P E3 219 (.ref 35)),(E P q5 220 .none)]⟩ 2) ⟨[]⟩) (nN o2 (nN (hj (p 10) 359 (p 28)) (nA (ho (p 102) Lv 2) (nL o2)) (nL o0)) (nN o0 (nL o2) (nL o2))) (nN o0 (nN o2 (nA (hh (p 151) 589 (p 151) 176 1 289 .none .none 291 592) (nL (hi (p 43) 90 (p 75) 833 547))) (nL o2)) (nN (hh (p 161) 489 (p 161) 135 3 223 (.ref 225) (.ref 226) 227 497) (nL o2) (nL (hg (p 23) 80))))) (nN I0 (nN o2 (nN (hi (p 125) 20 (p 176) 370 147) (nA (hd 272) (nL o0)) (nL (hg (p 95) 63))) (nN (hi (p 167) 32 (p 173) 424 211) (nL (hg (p 131) 51)) (nL o0))) (nN (hh (p 185) 325 (p 185) 42 2 111 (.ref 113) (.ref 114) 115 335) (nN o0 (nL (hg (p 140) 45)) (nL (hg (p 82) 69))) (nN o0 (nL o0) (nL (hi (p 36) 82 (p 75) 833 499)))))) (nN I0 (nN o2 (nN o0 (nN (hh (p 67) 364 (p 67) 66 2 137 .none .none 139 367) (nA (hh (p 54) 546 MI 166 2 263 (.ref 265) (.ref 266) 267 552) (nL (hg (p 14) 86))) (nL o2)) (nN o0 (nL (hi (p 145) 49 (p 165) 510 331)) (nL (hi (p 66) 75 (p 93) 805 459)))) (nN (hg (p 181) 12) (nN (hm (p 2) 417 (p 31) (p 32) (p 126)) (nL o2) (nL (hi (p 113) 67 (p 139) 683 427))) (nN (hi (p 17) 37 (p 155) 475 235) (nL (hm (p 96) 690 (p 97) (p 98) (p 16))) (nL (hh (p 37) 856 (p 37) 374 2 487 (.ref 489) (.ref 490) 491 864))))) (nN (fun P=>Obj.mk (.type l3) none (.dict ⟨[(E P EY 246 (.str (p 196) 187)),(E P E2 250 (I 8 249)),(E P E3 251 (.ref 59)),(E P q5 252 .none)]⟩ 2) ⟨[]⟩) (nN (hk (p 10) 297 (p 28) (p 134) (p 129) (p 102) (p 180)) (nN o0 (nA (hk (p 121) 580 (p 153) (p 154) (p 71) (p 88) (p 41)) (nL o0)) (nL (hh (p 101) 744 (p 101) 285 3 407 (.ref 409) (.ref 410) 411 753))) (nN (hg (p 73) 35) (nL o0) (nL o2))) (nN (hi (p 87) 15 (p 191) 338 123) (nN (hi (p 156) 28 (p 173) 424 187) (nL (hh (p 142) 620 (p 142) 193 1 311 (.ref 313) (.ref 314) 315 626)) (nL (hh (p 85) 786 (p 85) 332 3 439 (.ref 441) (.ref 442) 443 796))) (nN o0 (nL (hg (p 123) 59)) (nL o0))))))) (nN boot_o_6 (nN boot_o_10 (nN o0 (nN (hb 33 30 (p 196) 187) (nN (fun P=>Obj.mk (.type l3) none (.dict ⟨[(E P EY 262 (.str (p 196) 187)),(E P ND 264 (.str (p 157) 263)),(E P E2 266 (I 10 265)),(E P E3 267 (.ref 71))]⟩ 4) ⟨[]⟩) (nN o0 (nA (hj (p 148) 541 (p 97)) (nL (hi (p 19) 84 (p 75) 833 513))) (nL (hh (p 118) 714 (p 118) 262 3 383 .none .none 385 717))) (nN (hh (p 166) 441 (p 166) 104 2 189 (.ref 191) (.ref 192) 193 446) (nL (hi (p 114) 47 (p 165) 510 321)) (nL (hi (p 91) 71 (p 139) 683 449)))) (nN o2 (nN (hi (p 146) 22 (p 176) 370 161) (nA o2 (nL (hg (p 43) 90))) (nL (hi (p 108) 65 (p 139) 683 417))) (nN o0 (nL (hi (p 137) 53 (p 165) 510 353)) (nL o0)))) (nN (hc 49) (nN (hi (p 194) 8 (p 193) 271 81) (nN (hg (p 125) 20) (nA (fun P=>Obj.mk (.type Vc) none (.fields ⟨[(.str RD 566),(.ref 272),(.builtin Yv),.none]⟩) ⟨[]⟩) (nL (hh (p 20) 912 (p 20) 414 3 527 .none .none 529 915))) (nL o0)) (nN (hg (p 167) 32) (nL o0) (nL (hh (p 68) 821 (p 68) 358 3 461 (.ref 463) (.ref 464) 465 830)))) (nN o0 (nN o2 (nL o0) (nL o0)) (nN (ha (p 99) 514 148 240) (nL o2) (nL (hg (p 36) 82)))))) (nN (hc 24) (nN (fun P=>Obj.mk (.type l3) none (.dict ⟨[(E P EY 230 (.str (p 196) 187)),(E P ND 232 (.str (p 174) 231)),(E P E2 234 (I 6 233)),(E P E3 235 (.ref 47))]⟩ 4) ⟨[]⟩) (nN (hc 73) (nN o2 (nA o0 (nL (hj (p 15) 907 (p 16)))) (nL (hi (p 109) 61 (p 139) 683 393))) (nN o2 (nL (hg (p 145) 49)) (nL (hg (p 66) 75)))) (nN (hf (p 129) 317 (p 134) (p 182) (p 184) (p 180)) (nN o0 (nL (hi (p 103) 43 (p 165) 510 297)) (nL (hg (p 113) 67))) (nN (hg (p 17) 37) (nL o0) (nL o0)))) (nN (hb 57 54 (p 196) 187) (nN o0 (nN (hh (p 177) 383 (p 177) 82 2 149 (.ref 151) (.ref 152) 153 389) (nA o0 (nL o2)) (nL o0)) (nN o0 (nL (hh (p 133) 659 (p 133) 231 2 343 .none .none 345 662)) (nL (hi (p 45) 78 (p 75) 833 473)))) (nN (hg (p 87) 15) (nN (hg (p 156) 28) (nL o0) (nL o0)) (nN o2 (nL (hn (p 96) 708 (p 97) (p 16))) (nL (hh (p 12) 875 (p 12) 383 1 501 (.ref 503) (.ref 504) 505 881))))))) (nN o7 (nN o0 (nN (hc 37) (nN (hb 69 66 (p 196) 187) (nN (hg (p 59) 17) (nA (hp (p 102) Lv 2 261) (nL (hh (p 0) 898 (p 0) 400 2 515 .none .none 517 901))) (nL (hm (p 96) 723 (p 30) (p 41) (p 126)))) (nN (hg (p 64) 30) (nL (hh (p 144) 635 (p 144) 202 3 323 .none .none 325 638)) (nL (hh (p 51) 809 (p 51) 344 2 451 .none .none 453 812)))) (nN (hh (p 178) 306 (p 178) 32 2 97 (.ref 99) (.ref 100) 101 311) (nN o0 (nL o0) (nL (hh (p 112) 762 (p 112) 311 2 419 .none .none 421 765))) (nN o0 (nL o0) (nL (hi (p 23) 80 (p 75) 833 485))))) (nN (fun P=>Obj.mk (.type l3) none (.dict ⟨[(E P EY 246 (.str (p 196) 187)),(E P ND 248 (.str (p 60) 247)),(E P E2 250 (I 8 249)),(E P E3 251 (.ref 59))]⟩ 4) ⟨[]⟩) (nN o0 (nN o2 (nA o2 (nL (hg (p 29) 88))) (nL (hi (p 95) 63 (p 139) 683 405))) (nN o2 (nL (hi (p 131) 51 (p 165) 510 341)) (nL (hj (p 44) 838 (p 35))))) (nN o0 (nN (hh (p 162) 426 (p 162) 100 3 177 (.ref 179) (.ref 180) 181 432) (nL (hi (p 140) 45 (p 165) 510 309)) (nL (hi (p 82) 69 (p 139) 683 437))) (nN (ho (p 147) MG 0) (nL (hh (p 124) 697 (p 124) 253 1 369 (.ref 371) (.ref 372) 373 702)) (nL o2))))) (nN (fun P=>Obj.mk (.type l3) none (.dict ⟨[(E P EY 214 (.str (p 196) 187)),(E P ND 216 (.str (p 169) 215)),(E P E2 218 (I 4 217)),(E P E3 219 (.ref 35))]⟩ 4) ⟨[]⟩) (nN (hb 45 42 (p 196) 187) (nN (hf (p 10) 278 (p 28) (p 47) (p 195) (p 69)) (nN o0 (nA (fun P=>Obj.mk (.type l0) none (.seq ⟨[(.str (p 105) 555),(.str (p 150) 556),(.str (p 1) 557),(.str (p 55) 558),(.str (p 98) 559),(.str (p 57) 560),(.str (p 121) 561),(.str (p 128) 562)]⟩ 0) ⟨[]⟩) (nL (hi (p 14) 86 (p 75) 833 525))) (nL o0)) (nN (hh (p 70) 455 (p 70) 108 1 201 (.ref 203) (.ref 204) 205 466) (nL o2) (nL o2))) (nN (hi (p 181) 12 (p 193) 271 109) (nN (hg (p 172) 25) (nL o0) (nL o2)) (nN Ez (nL (hg (p 65) 57)) (nL o0)))) (nN (hc 61) (nN (hg (p 81) 10) (nN (hn (p 126) 395 (p 2) (p 16)) (nA (hg (p 119) 41) (nL (hh (p 38) 924 (p 38) 437 3 537 (.ref 539) (.ref 540) 541 934))) (nL o0)) (nN (hi (p 73) 35 (p 155) 475 221) (nL (hn (p 41) 668 (p 130) (p 134))) (nL o0))) (nN o2 (nN o2 (nL o0) (nL o0)) (nN (hh (p 100) 530 Ma 160 2 249 (.ref 251) (.ref 252) 253 535) (nL (hi (p 123) 59 (p 139) 683 381)) (nL (fun P=>Obj.mk (.type l0) none (.seq ⟨[(.str (p 2) 887),(.str (p 57) 888),(.str (p 15) 889),(.str (p 31) 890),(.str (p 32) 891),(.str (p 26) 892),(.str (p 35) 893),(.str (p 42) 894)]⟩ 0) ⟨[]⟩))))))))))
noncomputable def Yy (w:PySem.World)(os:PySem.OsState):PySem.W.SharedT:=PySem.W.SharedT.mk (T0 w.params) 549 LF (Array.mk []) (PySem.Drawn.mk 0 0 0 0) 943 os
noncomputable def Tf:PB:=T0
noncomputable def RE (w:PySem.World)(os:PySem.OsState):PySem.W.SharedT:=PySem.W.SharedT.mk (Tf w.params) 549 LF (Array.mk []) (PySem.Drawn.mk 0 0 0 0) 943 os
abbrev AS:List PySem.Addr:=List.range' 0 16++[22,23,24,25,28,35,36,37,40,47,48,49,52,59,60,61,64,71,72,73]++List.range' 76 161++List.range' 244 31++List.range' 277 272
noncomputable def KF:Params->Frag:=fun P=>AS.map fun a=>(a,((Tf P).get a).getD (o0 P))
abbrev keep:List Nat:=[1,2,3,4,5,7,8,9,10,11,12,13,15,16,17,18,20,21,22,24,25,27,28,29,30,31,32,34,35,36,37,39,40,41,42,43,44,45,46,47,48,49,50,51,52,53,54,56,57,58,59,60,61,62,63,64,65,66,67,68,69,70,71,73,74,75,76,78,79,80,81,82,83,84,85,86,87,88,89,90]
abbrev loose:List PySem.Str:=[]
noncomputable abbrev Ml:List PySem.Stmt:=((behindTheImports TW).drop 0).take 91
abbrev Od:PySem.Pos:=(PySem.Pos.mk 445 0 467 73)
theorem pre (w:World):(fun os=>topGo treeTable TW w m0 ann kA ⟨boot_heap w.params,Array.mk [],boot_drawn,boot_toks,os⟩ (topStub TW))=fun os=>some ((Yt w os).abs,⟨denote treeTable cE,cE,Ox,Bs⟩):=by
 rw[te15667345088766844465,te14364793385576792824,te11892475500146522536]
 kernel_rfl
theorem blk (w:World):(fun os=>segRunT treeTable TW w m0 ann 1 (kB+1) (Yt w os) (blockOf (behindTheImports TW) env cE Ox Bs))=fun os=>some (Flow.next,Pf w os,cE,posB):=by
 rw[te10110043849684766642,te14364793385576792824]
 kernel_rfl
theorem pc0 (w:World):(fun os=>segRunT treeTable TW w m0 ann 1 3572 (Pf w os) (piecesOf Ml env cE posB Bs))=fun os=>some (Flow.next,Yy w os,cE,Od):=by
 rw[te10110043849684766642,te14364793385576792824]
 kernel_rfl
theorem fin (w:World):(fun os=>topRun treeTable TW w m0 ann (kF+1) (Yy w os).abs ⟨doneF Flow.next,cE,Od,Bs⟩)=fun os=>some (RE w os).abs:=by
 rw[te14082659384304107361,te14364793385576792824]
 kernel_rfl
theorem cut:behindTheImports TW=Ml++[]:=by kernel_rfl
theorem rest (w:World)(os:OsState):topRun treeTable TW w m0 ann (3572+(kF+1)) (Pf w os).abs (restOf (behindTheImports TW) env cE posB Bs)=some (RE w os).abs:=by
 have h:topRun treeTable TW w m0 ann (3572+(kF+1)) (Pf w os).abs (restOf (Ml++[]) env cE posB Bs)=some (RE w os).abs:=piece_app (segRun_of (iV (pc0 w) os)) (piece_nil (iV (fin w) os));exact(cU (fun b=>topRun treeTable TW w m0 ann (3572+(kF+1)) (Pf w os).abs (restOf b env cE posB Bs)) cut).trans h
theorem run (w:World)(os:OsState):topRun treeTable TW w m0 ann (kA+(kB+1+(3572+(kF+1)))) ⟨boot_heap w.params,Array.mk [],boot_drawn,boot_toks,os⟩ (topStub TW)=some (RE w os).abs:=go_top (iV (pre w) os) (piece_block (segRun_of (iV (blk w) os)) (rest w os))
theorem opn:opening TW=plainProg TW.main.scope.names:=by
 kernel_rfl
theorem fence (s:Shared):fenceModules? TW s=some s:=by
 try rw[te14289696077712309145]
 kernel_rfl
theorem size (w:World):((boot_heap w.params).isNs mainGlobals && (Array.mk []:Array GenState).size == 0,(boot_heap w.params).objs.size,(boot_heap w.params).nsMap mainGlobals "__annotations__")=(true,m0,ann):=by
 try rw[te8920871248978507458]
 kernel_rfl
noncomputable abbrev Q:PySem.Program:=view TW keep
noncomputable def Hf (P:Params):Heap:=absHeap (Tf P) 549 LF
noncomputable abbrev Xt (s:Shared):Bool:=xlAt Q [] s && recOk (RowW.records (OpenRow.toRowW (OpenLaw.row PySem.Challenge.rw_evenhub_k38_blocks_or_a_bar))) s
theorem lk0 (w:World)(os:OsState):(staticsOk (importedModules TW.main.body) (boot_heap w.params) (Hf w.params) && namesBound TW (Hf w.params) && gensDone ⟨Hf w.params,(Array.mk []),(PySem.Drawn.mk 0 0 0 0),943,os⟩ && laidKept (boot_heap w.params) (Hf w.params))=true:=by
 try rw[te5923862056798008813]
 try rw[te5160383126252970620]
 try rw[te3399658132070893891]
 try rw[te5991557255702980513]
 try rw[te10880121769531294198]
 try rw[te821141287760084731]
 try rw[te7409074990110511671]
 try rw[te13664370479719496447]
 try rw[te14722251495701143533]
 try rw[te10994771534591457954]
 try rw[te479339242167458305]
 try rw[te16090120013241838585]
 try rw[te3247288618530077131]
 try rw[te2386780881361962483]
 try rw[te11698064438423848299]
 try rw[te7317090234206586261]
 try rw[te7369524293546568484]
 kernel_rfl
theorem lk1 (w:World)(os:OsState):openSeen Q loose (importedModules TW.main.body) Xt true ⟨Hf w.params,(Array.mk []),(PySem.Drawn.mk 0 0 0 0),943,os⟩=openGood Q loose:=by
 unfold openSeen openGood;refine fH ?_ (fH ?_ (fH ?_ (fH ?_ (fH ?_ (fH ?_ (fH ?_ (fH ?_ ?_)))))))<;>((try rw[te5923862056798008813]);(try rw[te5160383126252970620]);(try rw[te3399658132070893891]);(try rw[te5991557255702980513]);(try rw[te10880121769531294198]);(try rw[te821141287760084731]);(try rw[te7409074990110511671]);(try rw[te13664370479719496447]);(try rw[te14722251495701143533]);(try rw[te10994771534591457954]);(try rw[te479339242167458305]);(try rw[te16090120013241838585]);(try rw[te3247288618530077131]);(try rw[te2386780881361962483]);(try rw[te11698064438423848299]);(try rw[te7317090234206586261]);(try rw[te7369524293546568484]);kernel_rfl)
theorem lk2 (w:World)(os:OsState):X.obsZ AS ⟨Hf w.params,(Array.mk []),(PySem.Drawn.mk 0 0 0 0),943,os⟩=X.valZ KF 549 943 w:=by kernel_rfl
theorem left:LeftO TW Q loose Xt (X.obsZ AS) (X.valZ KF 549 943) 7268 :=
 LeftO.of_pieces (H₀:=boot_heap) (H₁:=Hf) (gs₀:=Array.mk []) (gs₁:=(Array.mk [])) (d₀:=boot_drawn) (d₁:=(PySem.Drawn.mk 0 0 0 0)) (k₀:=boot_toks) (k₁:=943) (m₀:=m0) (ann:=ann) (M:=kA+(kB+1+(3572+(kF+1))))
  (boot_open opn L fence) size run L (fun w=>funext fun os=>fH (lk0 w os) (fH (lk1 w os) (lk2 w os)))
theorem nU:LeftO PySem.Challenge.pw_evenhub_k38_blocks_or_a_bar (view PySem.Challenge.pw_evenhub_k38_blocks_or_a_bar keep) loose (fun s=>xlAt (view PySem.Challenge.pw_evenhub_k38_blocks_or_a_bar keep) [] s && recOk (RowW.records (OpenRow.toRowW (OpenLaw.row PySem.Challenge.rw_evenhub_k38_blocks_or_a_bar))) s) (X.obsZ AS) (X.valZ KF 549 943) 7268:=by
 rw[te10082645097605034880];exact left
end Hd
theorem PySem.W.X.walkX_of {q:PySem.Program}{loose:List PySem.Str}{XP:(PySem.Str->Option PySem.Value)->PySem.Heap->Prop}{K:PySem.Params->PySem.W.Frag}{as:List PySem.Addr}{n t:Nat}{r:PySem.W.RowW}{d:PySem.DefRec}{kwd:List (PySem.Str×PySem.Expr)}{run:PySem.Value->List PySem.Value->PySem.Sem PySem.Value}
  (e:∀P,as=(K P).map (·.1))(W:PySem.W.WalkO q loose XP (fun w h=>(K w.params).In h) r d kwd run):PySem.W.WalkX q loose XP (PySem.W.X.obsZ as) (PySem.W.X.valZ K n t) r d kwd run :=
 fun w s₀ s₁ mg mb G y a o pm cd doc dV kV ho hd DV hD M0 hg args vals asx zfL ET Qh YL Qf wX =>
  W w s₀ s₁ mg mb G (PySem.W.InK.keeps w _ _ (PySem.W.X.z_facts e y).2.1 zfL.keeps) a o pm cd doc dV kV ho hd DV hD M0 hg args vals asx ET Qh YL Qf wX
namespace Hd
open PySem PySem.W L2
variable {K:Frag}{x m q:Str}{st:Stmt}{C:Addr}
theorem fk (f:Addr)(p:Str)(t:Nat)(a:nsIn K mainGlobals x=some (some (.ref f)):=by kernel_rfl)(l:K.lookup f=some ⟨(.type Rr),none,.func (fnOf x x (lQ st) (kY st) (jP st) .none .none .none (.str p t) none (.ref (f-1)) .none),⟨[]⟩⟩:=by kernel_rfl)(c:codeIn K (.ref (f-1)) x=true:=by kernel_rfl)(k:keepIn K (.ref f)=true:=by kernel_rfl):Fa K x st:=.of a l c k
theorem fm (f:Addr)(p:Str)(t:Nat)(a:findIn K (.ref C) m=some (some (.ref f)):=by kernel_rfl)(i:isFn K (.ref f)=true:=by kernel_rfl)(l:K.lookup f=some ⟨(.type Rr),none,.func (fnOf m q (lQ st) (kY st) (jP st) .none .none .none (.str p t) none (.ref (f-1)) .none),⟨[]⟩⟩:=by kernel_rfl)(c:codeIn K (.ref (f-1)) q=true:=by kernel_rfl)(k:keepIn K (.ref f)=true:=by kernel_rfl):Fm K C m q st:=.of a i l c k
end Hd
open PySem PySem.W PySem.W.X PyProof.Rows Hd PwT in
set_option maxRecDepth 100000 in
set_option maxHeartbeats 0 in
theorem PySem.Challenge.cw_evenhub_k38_blocks_or_a_bar_holds : PySem.Challenge.rw_evenhub_k38_blocks_or_a_bar.Holds := by
 w_on;o_law
 refine holds_openX (q:=(view PySem.Challenge.pw_evenhub_k38_blocks_or_a_bar keep)) (loose:=loose) (Xt:=fun s=>xlAt (view PySem.Challenge.pw_evenhub_k38_blocks_or_a_bar keep) [] s && recOk (RowW.records (OpenRow.toRowW (OpenLaw.row PySem.Challenge.rw_evenhub_k38_blocks_or_a_bar))) s) (XP:=XL (view PySem.Challenge.pw_evenhub_k38_blocks_or_a_bar keep) []) (Yf:=X.obsZ AS) (Ya:=X.valZ KF 549 943) (N:=7268) nU (fun s e=>xl_of s (fV.mp e).1) XL.keeps jC jC jC (fun s e=>recFacts_of (fV.mp e).2) jC (by first | assumption | decide +kernel) L ⟨Z,Z,Z,Z,Z,L⟩ ?hw ?hc
 case hw=>w_witness2
 refine PySem.W.X.walkX_of (fun _=>by kernel_rfl) (K38.walk (l:=PySem.Challenge.rw_evenhub_k38_blocks_or_a_bar) Z Z (fun w h Y=>Y) ?F);intro w mg fa h KX G M0
 refine' K38.all_mk (tL:=273) (tF:=685) (tM:=807) (CF:=272) KX G M0 (fk 82 (p 193) 271) (fk 89 (p 193) 271) (fk 96 (p 193) 271) (fk 103 (p 193) 271) (fk 110 (p 193) 271) (fk 117 (p 193) 271) (fk 124 (p 191) 338) (fk 129 (p 191) 338) (fk 136 (p 191) 338) (fk 141 (p 191) 338) (fk 148 (p 176) 370) (fk 155 (p 176) 370) (fk 162 (p 176) 370) (fk 169 (p 171) 401) (fk 176 (p 171) 401) (fk 183 (p 173) 424) (fk 188 (p 173) 424) (fk 195 (p 173) 424) (fk 200 (p 173) 424) (fk 207 (p 173) 424) (fk 212 (p 173) 424) (fk 217 (p 155) 475) (fk 222 (p 155) 475) (fk 229 (p 155) 475) (fk 236 (p 155) 475) (fk 281 (p 165) 510) (fk 288 (p 165) 510) (fk 293 (p 165) 510) (fk 298 (p 165) 510) (fk 305 (p 165) 510) (fk 310 (p 165) 510) (fk 317 (p 165) 510) (fk 322 (p 165) 510) (fk 327 (p 165) 510) (fk 332 (p 165) 510) (fk 337 (p 165) 510) (fk 342 (p 165) 510) (fk 347 (p 165) 510) (fk 354 (p 165) 510) (fk 361 (p 165) 510) (fk 368 (p 139) 683) (fk 375 (p 139) 683) (fk 382 (p 139) 683) (fk 387 (p 139) 683) (fk 394 (p 139) 683) (fk 401 (p 139) 683) (fk 406 (p 139) 683) (fk 413 (p 139) 683) (fk 418 (p 139) 683) (fk 423 (p 139) 683) (fk 428 (p 139) 683) (fk 433 (p 139) 683) (fk 438 (p 139) 683) (fk 445 (p 139) 683) (fk 450 (p 139) 683) (fk 455 (p 93) 805) (fk 460 (p 93) 805) (fk 467 (p 93) 805) (fk 474 (p 75) 833) (fk 481 (p 75) 833) (fk 486 (p 75) 833) (fk 493 (p 75) 833) (fk 500 (p 75) 833) (fk 507 (p 75) 833) (fk 514 (p 75) 833) (fk 519 (p 75) 833) (fk 526 (p 75) 833) (fk 531 (p 75) 833) (fk 536 (p 75) 833) (fk 543 (p 75) 833) (fk 548 (p 75) 833) (aM0:=fm 248 (p 165) 510) (aM1:=fm 255 (p 165) 510) (aM2:=fm 262 (p 165) 510) (aM3:=fm 269 (p 165) 510)
