import PyProof.Rows.All
import Wide.All
import OpenK.AllK
import Wide.FinOn
import Lean
import PyProof.EqAt
import PyProof.EqKinds
import PyProof.TupleCall
import KE.KMinKey
import PySem.Challenge.RW_evenhub_k39_whole_blocks_and_rings
set_option Elab.async false
set_option linter.all false
set_option maxRecDepth 100000
theorem J{p:Prop}(h:p:=by lia):p:=h
theorem O{p:Prop}(h:p:=by decide):p:=h
theorem jI{p:Prop}(h:p:=by rfl):p:=h
theorem L{p:Prop}(h:p:=by decide +kernel):p:=h
theorem jJ{p:Prop}(h:p:=by omega):p:=h
theorem jH{p:Prop}(h:p:=by simp):p:=h
theorem jP{p:Prop}(h:p:=by show 2 ≤ PySem.sizeLine; decide):p:=h
theorem jS{p:Prop}(h:p:=by show 1 ≤ PySem.sizeLine; decide):p:=h
theorem jY{p:Prop}(h:p:=by show 3 ≤ PySem.sizeLine; decide):p:=h
theorem kd{p:Prop}(h:p:=by show 4 ≤ PySem.sizeLine; decide):p:=h
theorem zgU{p:Prop}(h:p:=by rw [aa]; lia):p:=h
theorem zgV{p:Prop}(h:p:=by rw [af, Rx.lD J]; rfl):p:=h
theorem zgW{p:Prop}(h:p:=by show 1 * _ ≤ _; exact nF J):p:=h
theorem zgX{p:Prop}(h:p:=by rw [aa, aa]):p:=h
theorem zgY{p:Prop}(h:p:=by rw [cA]; exact aZ _):p:=h
theorem zgZ{p:Prop}(h:p:=by rw [aa, Rx.ow]; lia):p:=h
theorem Z{α:Sort _}{a:α}:a=a:=rfl
def aa:=@List.length_map
def ae:=@Int.toNat_natCast
def af:=@List.getElem?_map
def ah:=@List.getD_eq_getElem?_getD
def ak:=@List.mem_of_getElem?
def ao:=@if_neg
def aq:=@List.mem_cons_self
def ar:=@List.mem_cons_of_mem
def av:=@Int.mul_le_mul_of_nonneg_right
def ax:=@List.getElem?_eq_getElem
def ay:=@Int.dvd_mul_of_dvd_right
def az:=@Int.emod_lt_of_pos
def aA:=@Int.mul_le_mul_of_nonneg_left
def aB:=@Int.mul_comm
def aC:=@Int.emod_nonneg
def aD:=@if_pos
def aE:=@Int.dvd_mul_of_dvd_left
def aF:=@List.getElem?_eq_some_iff
def aG:=@Int.mul_ediv_cancel_left
def aH:=@Nat.le_refl
def aI:=@List.length_append
def aJ:=@PySem.PassesOwn.never
def aK:=@Int.mul_assoc
def aL:=@Int.emod_eq_emod_iff_emod_sub_eq_zero
def aM:=@Int.natAbs_mul
def aO:=@List.map_append
def aP:=@Int.natCast_mul
def aQ:=@PySem.Heap.get?_push_of_some
def aR:=@Int.emod_eq_of_lt
def aS:=@Int.eq_of_mul_eq_mul_left
def aT:=@Classical.byContradiction
def aU:=@Int.le_of_dvd
def aV:=@List.length_replicate
def aW:=@Int.emod_emod_of_dvd
def aX:=@Int.natAbs_dvd_natAbs
def aY:=@Int.zero_mul
def aZ:=@Int.dvd_zero
def bf:=@Int.dvd_sub
def bi:=@Bool.false_ne_true
def bj:=@List.length_cons
def bp:=@Nat.lt_of_lt_of_le
def bu:=@List.mem_append_right
def bw:=@List.mem_singleton
def bx:=@Int.pow_succ
def bB:=@Int.mul_zero
def bE:=@Int.mul_nonneg
def bF:=@Int.dvd_trans
def bI:=@Nat.not_lt_zero
def bJ:=@Nat.lt_succ_of_lt
def bK:=@Option.some.inj
def bL:=@Nat.le_trans
def bO:=@Nat.lt_succ_self
def bP:=@Int.emod_add_mul_ediv
def bQ:=@Int.dvd_add
def bR:=@PySem.Heap.lt_size
def bS:=@Int.dvd_of_emod_eq_zero
def bT:=@Int.emod_eq_zero_of_dvd
def bU:=@List.getElem?_zipWith
def bV:=@List.take_length
def bX:=@Int.mul_one
def bY:=@Nat.pow_le_pow_right
def bZ:=@PySem.Heap.get?_push_size
def b3:=@Nat.lt_of_le_of_lt
def b5:=@PySem.W.mg_none_of
def b8:=@Int.ediv_le_self
def b9:=@List.getElem_mem
def cf:=@List.length_set
def cm:=@decide_eq_true
def cq:=@Int.toNat_of_nonneg
def cx:=@List.length_drop
def cy:=@List.size_toArray
def cA:=@Int.sub_self
def cB:=@Nat.mul_le_mul_right
def cC:=@Int.natAbs_natCast
def cD:=@PySem.F.slot_list_append
def cF:=@PySem.F.type_list_append
def cG:=@PyProof.Rows.callWith_type1
def cH:=@List.getElem?_eq_none
def cI:=@PySem.wpAny_bind
def cJ:=@List.length_take
def cK:=@List.getElem?_append_right
def cL:=@Nat.mul_le_mul
def cM:=@PySem.F.plainAttrs_list
def cN:=@List.mem_append_left
def cO:=@List.getElem?_append_left
def cP:=@Nat.ne_of_lt
def cQ:=@congrArg
def cR:=@Int.ediv_nonneg
def cS:=@Int.mul_le_mul
def cT:=@Int.mul_sub
def cU:=@Int.sub_mul
def cV:=@Int.dvd_mul_right
def cW:=@Int.add_zero
def cX:=@Int.fmod_eq_emod_of_nonneg
def cY:=@Int.one_mul
def cZ:=@Int.mul_ediv_cancel'
def c5:=@Int.dvd_refl
def c7:=@List.pairwise_iff_getElem
def c9:=@List.replicate_succ
def de:=@List.take_add_one
def df:=@List.map_cons
def dh:=@Int.sub_zero
def dj:=@Ne.symm
def dr:=@Int.add_mul_emod_self_left
def dC:=@List.getElem?_range
def dD:=@List.length_singleton
def dE:=@List.all_eq_true
def dF:=@Int.zero_add
def dH:=@Nat.pow_succ
def dI:=@List.mem_map
def dJ:=@Nat.zero_le
def dL:=@Int.dvd_neg
def dM:=@PySem.wpAny_pure
def dO:=@List.getElem?_cons_succ
def dQ:=@Int.natCast_pow
def dR:=@False
def dS:=@List.length_zipWith
def dU:=@Nat.zero_add
def dW:=@PySem.F.slot_int_bit_length
def dX:=@PySem.F.type_int_bit_length
def dY:=@Int.le_refl
def dZ:=@List.mem_range
def d4:=@Int.fdiv_eq_ediv_of_nonneg
def d5:=@decide_eq_false
def d6:=@Nat.le_of_lt
def d7:=@Nat.lt_irrefl
def d8:=@Int.zero_emod
def d9:=@Nat.Coprime.dvd_of_dvd_mul_left
def ef:=@Nat.mul_le_mul_left
def eC:=@PySem.wpAny_mono
def eD:=@Int.pow_add
def eI:=@Int.add_mul
def eJ:=@List.getElem?_set_self
def eL:=@Int.pow_zero
def eM:=@Int.sub_emod
def eO:=@PySem.F.plainAttrs_int
def eQ:=@Bool.eq_iff_iff
def eR:=@List.nodup_cons
def eT:=@List.flatten_cons
def eU:=@of_decide_eq_true
def eV:=@Int.add_mul_emod_self_right
def eY:=@PySem.wpAny_passesOwn
def eZ:=@List.pairwise_append
def e8:=@Int.mul_add
def e9:=@Nat.pow_pos
def fe:=@PySem.Paired.length
def fi:=@PySem.intBits_le_64
def fj:=@Nat.le_of_not_lt
def fq:=@Int.dvd_mul_left
def fv:=@PySem.mem_of_lookup
def fD:=@List.mem_cons
def fE:=@PySem.W.mg_of
def fF:=@PySem.W.kia_one
def fG:=@List.pairwise_cons
def fH:=@List.mem_replicate
def fI:=@decide_eq_true_iff
def fJ:=@PySem.W.looks_pair
def fK:=@List.getElem?_replicate
def fL:=@Int.mul_neg
def fM:=@Nat.mul_pos
def fO:=@Int.pow_pos
def fQ:=@Nat.succ_mul
def fR:=@Nat.mul_comm
def fS:=@Nat.min_self
def fT:=@PySem.wpAny_Call_Name_kw
def fU:=@Bool.and_eq_true
def fV:=@List.getElem?_set_ne
def fW:=@PySem.wpAny_truthy_bool
def fX:=@Bool.and_eq_true_iff
def fY:=@Int.one_dvd
def fZ:=@List.mem_of_mem_take
def f7:=@Int.mul_neg_one
def f9:=@beq_eq_false_iff_ne
def ga:=@Int.ediv_mul_cancel
def gc:=@Int.zero_dvd
def ge:=@Int.dvd_natAbs
def gf:=@List.map_singleton
def gg:=@Nat.eq_of_mul_eq_mul_left
def gh:=@List.drop_eq_getElem_cons
def gi:=@Nat.le_succ
def gk:=@List.append_assoc
def gn:=@List.length_range
def gq:=@List.getElem_take
def gu:=@Nat.le_of_dvd
def gx:=@Nat.mul_assoc
def gy:=@List.pairwise_singleton
def gz:=@Option.getD_some
def gA:=@Int.mul_emod
def gC:=@Nat.mod_lt
def gE:=@Nat.sub_self
def gF:=@Int.ediv_eq_zero_of_lt
def gH:=@List.mem_append
def gI:=@List.append_nil
def gJ:=@Nat.div_add_mod
def gK:=@Int.mul_eq_zero
def gL:=@Option.map_some
def gN:=@PySem.IntMulOk.of_right
def gO:=@Int.ediv_lt_of_lt_mul
def gP:=@Nat.le_of_ble_eq_true
def gQ:=@Nat.div_lt_of_lt_mul
def gR:=@Int.natAbs_neg
def gS:=@Nat.pow_add
def gT:=@List.mem_of_mem_drop
def gU:=@PySem.W.plainGet_of
def gV:=@Nat.pow_le_pow_left
def gX:=@Int.mul_ediv_cancel
def gY:=@PySem.wpAny_execs_nil
def gZ:=@beq_iff_eq
def g3:=@PySem.W.callWith_K
def g4:=@PySem.Heap.size_push
def g5:=@Int.le_of_lt
def g6:=@List.ext_getElem?
def g7:=@Nat.pow_zero
def g8:=@Nat.succ_pos
def g9:=@List.nodup_append
def hE:=@PySem.Paired.snoc
def hI:=@List.lookup_cons
def hV:=@Int.gcd_mul_left
def hZ:=@Nat.mod_eq_of_lt
def ia:=@Nat.log2_lt
def ib:=@Nat.mul_one
def ic:=@List.eq_nil_of_length_eq_zero
def ie:=@Int.mul_pos
def ig:=@List.mem_filter
def ii:=@List.nil_append
def io:=@Nat.min_eq_left
def ip:=@Int.natCast_add
def ir:=@Int.dvd_of_mul_dvd_mul_left
def iu:=@True
def iw:=@PySem.codeAny_mono
def ix:=@Nat.le_of_mul_le_mul_left
def iy:=@PySem.wpAny_execs_cons
def iz:=@Option.isSome_iff_exists
def iA:=@List.getElem?_take_of_lt
def iB:=@List.all_cons
def iC:=@List.any_cons
def iD:=@Int.add_assoc
def iE:=@Nat.dvd_mul_left_of_dvd
def iF:=@Nat.ne_of_gt
def iG:=@Nat.le_of_eq
def iH:=@PySem.W.cellsFrom_some
def iI:=@List.map_nil
def iJ:=@List.take_of_length_le
def iK:=@List.map_map
def iL:=@PyProof.noPylong_small
def iM:=@Nat.lt_trans
def iN:=@List.drop_of_length_le
def iO:=@Nat.gcd_comm
def iP:=@Int.emod_def
def iQ:=@Nat.div_div_eq_div_mul
def iR:=@Nat.dvd_refl
def iS:=@Int.add_mul_ediv_right
def iT:=@Int.add_mul_ediv_left
def iU:=@PySem.Calls.Name_function_global
def iV:=@Nat.Coprime.pow_left
def iW:=@Int.neg_mul
def iX:=@Nat.add_mul_div_left
def iY:=@Nat.mod_mod
def iZ:=@List.replicate_succ'
def i4:=@congrFun
def i5:=@PySem.W.shaped_ints
def i6:=@Nat.pow_lt_pow_left
def i7:=@Array.append_assoc
def i8:=@PySem.wpAny_holding
def i9:=@PySem.wpAny_standAt
def ja:=@Int.natCast_nonneg
def jb:=@Int.ofNat_dvd_left
def jc:=@Int.mul_emod_right
def jd:=@PySem.W.kitx_list
def je:=@PySem.W.kitx_dict
def jf:=@Int.mul_left_comm
def jg:=@Int.emod_add_emod
def jh:=@List.getElem_drop
def jj:=@Int.dvd_add_right
def jm:=@PySem.wpAny_pyNext_range_end
def jo:=@PySem.wpAny_pyIter_rangeiter
def jp:=@PySem.seqIndex_neg
def jq:=@PySem.Heap.get?_update_other
def jr:=@PySem.Calls.callWith_builtin
def js:=@Nat.div_eq_of_lt
def jt:=@Nat.succ_lt_succ
def ju:=@Int.natCast_succ
def jv:=@Int.lt_of_not_ge
def jw:=@List.getElem_map
def jx:=@List.drop_length
def jy:=@List.filter_cons
def jA:=@List.of_mem_zip
def jB:=@List.range_succ
def jC:=@Int.dvd_coe_gcd
def jD:=@PySem.IsRange.new
def jE:=@PySem.seqIndex_of
def jF:=@Int.natAbs_pow
def jG:=@List.take_zero
namespace L2
open PySem PySem.Spec PyProof.Rows
abbrev Key:=Sum Int Str
def KO:Key->Value->Bool
 | .inl k,v=>Value.isInt k v
 | .inr x,v=>Value.isStrOf x v
def VA (w:World):Key->Int
 | .inl k=>hashInt k
 | .inr x=>hashStr w x
theorem mh:∀{k:Key}{v:Value},KO k v=true->(∃i t,k=Sum.inl i/\v=Value.int i t)\/(∃x t,k=Sum.inr x/\v=Value.str x t)
 | .inl i,v,h=>by
  obtain⟨t,e⟩:=Value.isInt_shape (k:=i) (v:=v) h;exact .inl ⟨i,t,Z,e⟩
 | .inr x,v,h=>by
  obtain⟨t,e⟩:=Value.isStrOf_shape (x:=x) (v:=v) h;exact .inr ⟨x,t,Z,e⟩
theorem Mv (a b:Int):decide ((Sum.inl a:Key)=Sum.inl b)=(a == b):=by
 by_cases e:a=b
 .subst e;simp
 .have h:¬(Sum.inl a:Key)=Sum.inl b:=fun q=>e (Sum.inl.inj q);rw[d5 h];exact(f9.mpr e).symm
theorem LV (a b:Str):decide ((Sum.inr a:Key)=Sum.inr b)=decide (a=b):=by
 by_cases e:a=b
 .subst e;simp
 .have h:¬(Sum.inr a:Key)=Sum.inr b:=fun q=>e (Sum.inr.inj q);rw[d5 h,d5 e]
theorem L1 (a:Int)(b:Str):decide ((Sum.inl a:Key)=Sum.inr b)=false:=d5 (fun q=>nomatch q)
theorem L3 (a:Str)(b:Int):decide ((Sum.inr a:Key)=Sum.inl b)=false:=d5 (fun q=>nomatch q)
def DH (prog:Program)(w:World):PySem.KeyKind prog w Key where
 is:=KO
 hash:=VA w
 inj:=fun v a b ha hb=>by
  rcases mh ha with ⟨i,t,rfl,rfl⟩ | ⟨x,t,rfl,rfl⟩
  .rcases mh hb with ⟨j,u,rfl,e⟩ | ⟨y,u,rfl,e⟩
   .injection e with e1 _;rw[e1]
   .exact nomatch e
  .rcases mh hb with ⟨j,u,rfl,e⟩ | ⟨y,u,rfl,e⟩
   .exact nomatch e
   .injection e with e1 _;rw[e1]
 byValue:=fun k v h=>by
  rcases mh h with ⟨i,t,rfl,rfl⟩ | ⟨x,t,rfl,rfl⟩<;>rfl
 pyHash:=fun hv h=>by
  rcases mh hv with ⟨i,t,rfl,rfl⟩ | ⟨x,t,rfl,rfl⟩
  .exact wpAny_pyHash_int h
  .exact wpAny_pyHash_str h
 eqBool:=fun hu hv h=>by
  rcases mh hu with ⟨i,t,rfl,rfl⟩ | ⟨x,t,rfl,rfl⟩
  .rcases mh hv with ⟨j,u,rfl,rfl⟩ | ⟨y,u,rfl,rfl⟩
   .rw[Mv] at h;exact wpAny_eqBool_int h
   .rw[L1] at h;exact SeqAt.EqAt.int_str i t y u _ _ _ _ h
  .rcases mh hv with ⟨j,u,rfl,rfl⟩ | ⟨y,u,rfl,rfl⟩
   .rw[L3] at h;exact SeqAt.EqAt.str_int x t j u _ _ _ _ h
   .rw[LV] at h;exact wpAny_eqBool_str h
 «strs»:=fun k x t v h=>by
  rcases mh h with ⟨i,u,rfl,e⟩ | ⟨y,u,rfl,e⟩
  .exact nomatch e
  .injection e with e1 _;subst e1;cases v<;>rfl
inductive V where
 | non | bl (b:Bool) | int (i:Int) | str (x:Str) | byt (b:Array UInt8) | flt (b:UInt64) | ref (a:Addr) | ty (n:String)
 deriving DecidableEq
def RelV:V->Value->Prop
 | .non,u=>u=Value.none
 | .bl b,u=>u=Value.bool b
 | .int i,u=>∃t,u=Value.int i t
 | .str x,u=>∃t,u=Value.str x t
 | .byt b,u=>∃t,u=Value.bytes b t
 | .flt b,u=>∃t,u=Value.float b t
 | .ref a,u=>u=Value.ref a
 | .ty n,u=>u=Value.type n
abbrev Vals:List V->List Value->Prop:=Paired RelV
theorem Vals.length {xs:List V}{us:List Value}(r:Vals xs us):xs.length=us.length:=fe r
theorem Vals.get:∀{xs:List V}{us:List Value}{i:Nat}{x:V},Vals xs us->xs[i]?=some x->∃u,us[i]?=some u/\RelV x u
 | _,_,_,_,.nil,e=>by simp at e
 | _,_,0,_,.cons r _,e=>by simp at e;subst e;exact⟨_,Z,r⟩
 | _,_,i+1,x,.cons _ t,e=>by
  obtain⟨u,h1,h2⟩:=Vals.get (i:=i) (x:=x) t (by simpa using e);exact⟨u,by simpa using h1,h2⟩
theorem Vals.set {x:V}{u:Value}(r:RelV x u):∀{xs:List V}{us:List Value}(i:Nat),Vals xs us->Vals (xs.set i x) (us.set i u)
 | _,_,_,.nil=>.nil
 | _,_,0,.cons _ t=>.cons r t
 | _,_,i+1,.cons q t=>.cons q (Vals.set r i t)
theorem Vals.append:∀{xs ys:List V}{us ws:List Value},Vals xs us->Vals ys ws->Vals (xs++ys) (us++ws)
 | _,_,_,_,.nil,s=>s
 | _,_,_,_,.cons r t,s=>.cons r (Vals.append t s)
theorem Vals.take:∀{xs:List V}{us:List Value}(n:Nat),Vals xs us->Vals (xs.take n) (us.take n)
 | _,_,0,_=>.nil
 | _,_,_+1,.nil=>.nil
 | _,_,n+1,.cons r t=>.cons r (Vals.take n t)
theorem Vals.drop:∀{xs:List V}{us:List Value}(n:Nat),Vals xs us->Vals (xs.drop n) (us.drop n)
 | _,_,0,r=>r
 | _,_,_+1,.nil=>.nil
 | _,_,n+1,.cons _ t=>Vals.drop n t
def vC:Option V->Option Value->Prop
 | some v,some u=>RelV v u
 | none,none=>iu
 | _,_=>dR
def KV {κ:Type}:List (κ×V)->List (κ×Value)->Prop:=Paired fun (p:κ×V)(q:κ×Value)=>p.1=q.1/\RelV p.2 q.2
def kV:Key->V
 | .inl i=>.int i
 | .inr x=>.str x
inductive HO where
 /-- a list -/
 | lst (xs:List V)
 /-- a tuple (never changes) -/
 | tup (xs:List V)
 /-- a dict whose keys are ints and texts;one whose keys are tuples of ints and texts (the empty one is both) -/
 | dK (kvs:List (Key×V)) | dT (kvs:List (List Key×V))
 /-- a set of ints: its members,its size -/
 | set (S:Int->Bool)(n:Nat)
 /-- an instance of the class at C,its dict at dx,its attributes -/
 | ins (C dx:Addr)(fs:List (Str×V))
 /-- the dict of the instance at x -/
 | own (x:Addr)
 /-- the dict of an exception -/
 | xd (fs:List (Str×V))
 /-- a bound method,f of x -/
 | met (f x:Addr)
 /-- a range object lo,lo+1,.. below hi -/
 | AI (lo hi:Int)
 /-- a thing that is known to the object (the script;a dict while a loop walks it): read,never written while it is so -/
 | frz (o:Obj)(u:HO)
 /-- a code object's table -/
 | tbl (ps:Array Value)
 /-- any other thing,by what is true of its one object (a def of one's own: SetO a S n:=HO.ext fun h=>..) -/
 | ext (φ:Heap->Prop)
abbrev Hp:=Addr->Option HO
def upd (H:Hp)(a:Addr)(o:HO):Hp:=fun b=>if b=a then some o else H b
theorem jO {H:Hp}{a:Addr}{o:HO}:upd H a o a=some o:=by unfold upd;rw[if_pos Z]
theorem j5 {H:Hp}{a b:Addr}{o:HO}(h:b≠a):upd H a o b=H b:=by unfold upd;rw[if_neg h]
theorem nV {H:Hp}{a b:Addr}{o u:HO}(h:H a=some o)(h':H b=some u)(d:o≠u):a≠b:=by
 intro e;subst e;rw[h] at h';exact d (bK h')
theorem j8 {H:Hp}{a b:Addr}{o:HO}(h:H a=some o)(h':H b=none):a≠b:=by
 intro e;subst e;rw[h] at h';cases h'
section
variable (P:Program)(w:World)
def nI (H:Hp)(h:Heap)(a:Addr):HO->Prop
 | .lst xs=>xs.length<=sizeLine/\∃(its:List Value)(n:Nat),Vals xs its/\h.get? a=some { cls:=.type "list",data:=.seq its.toArray n }
 | .tup xs=>xs.length<=sizeLine/\∃its:List Value,Vals xs its/\IsTup h a its.toArray
 | .dK kvs=>kvs.length<=sizeLine/\(a == sysModules)=false/\∃vs,KV kvs vs/\h.DictOf (DH P w) a vs
 | .dT kvs=>kvs.length<=sizeLine/\(a == sysModules)=false/\∃xs:List (List Key×Addr×Value),
   Paired (fun (p:List Key×V)(q:List Key×Addr×Value)=>p.1=q.1/\H q.2.1=some (.tup (p.1.map kV))/\RelV p.2 q.2.2) kvs xs /\
   ∃o es ep,h.get? a=some o/\o.ExactDict/\o.data=.dict es ep/\es.toList=xs.map (entryOfKey (tupleKind (DH P w)))/\(xs.map (·.1)).Nodup
 | .set S n=>h.SetOf (intKind P w) a S n
 | .ins C dx fs=>H dx=some (.own a)/\fs.length<=1000/\dx≠a/\h.get? a=some (PySem.W.instObj C dx) /\
   ∃mA,h.Ns1 dx mA/\(∀f,vC (fs.lookup f) (mA f))/\PySem.Within mA (fs.map (·.1))
 | .own _=>∃o,h.get? a=some o
 | .xd fs=>∃mA,h.Ns1 a mA/\∀f,vC (fs.lookup f) (mA f)
 | .AI lo hi=>∃t u v,h.get? a=some { cls:=.type "range",data:=.fields #[.int lo t,.int hi u,.int 1 v] }
 | .frz o u=>h.get? a=some o/\nI H h a u
 | .tbl ps=>h.get? a=some { cls:=.none,data:=.fields ps }
 | .met f x=>h.get? a=some (PySem.W.methodObj (.ref f) (.ref x))
 | .ext φ=>φ h/\(∃o,h.get? a=some o)/\∀h1 h2:Heap,φ h1->(∀o,h1.get? a=some o->h2.get? a=some o)->φ h2
def vK (H:Hp)(h:Heap):Prop:=∀a o,H a=some o->nI P w H h a o
end
section
variable {P:Program}{w:World}{H H':Hp}{h h':Heap}{a:Addr}{o:HO}
theorem nI.lt (x:nI P w H h a o):a<h.objs.size:=by
 cases o with
 | lst xs=>obtain⟨_,_,_,_,e⟩:=x;exact Heap.lt_size e
 | tup xs=>obtain⟨_,_,_,p⟩:=x;exact p.lt
 | dK kvs=>obtain⟨_,_,_,_,o,_,_,e,_⟩:=x;exact Heap.lt_size e
 | dT kvs=>obtain⟨_,_,_,_,o,_,_,e,_⟩:=x;exact Heap.lt_size e
 | set S n=>obtain⟨o,_,_,_,e,_⟩:=x;exact Heap.lt_size e
 | ins C dx fs=>obtain⟨_,_,_,e,_⟩:=x;exact Heap.lt_size e
 | own y=>obtain⟨_,e⟩:=x;exact Heap.lt_size e
 | xd fs=>obtain⟨_,⟨_,_,_,e,_⟩,_⟩:=x;exact Heap.lt_size e
 | AI lo hi=>obtain⟨_,_,_,e⟩:=x;exact Heap.lt_size e
 | frz ob u=>obtain⟨e,_⟩:=x;exact Heap.lt_size e
 | tbl ps=>exact bR (show h.get? a=some _ from x)
 | met f y=>exact bR (show h.get? a=some _ from x)
 | ext φ=>obtain⟨_,⟨_,e⟩,_⟩:=x;exact Heap.lt_size e
theorem Paired.xU {α β:Type}{F G:α->β->Prop}:∀{Ie:List α}{Ig:List β},Paired F Ie Ig->(∀a b,F a b->G a b)->Paired G Ie Ig
 | _,_,.nil,_=>.nil
 | _,_,.cons r t,f=>.cons (f _ _ r) (Paired.xU t f)
theorem nI.CL (x:nI P w H h a o)(k:∀b u,(b=a\/H b=some (.own a))->h.get? b=some u->h'.get? b=some u)
  (ho:∀b,H b=some (.own a)->H' b=some (.own a))(ht:∀b xs,H b=some (.tup xs)->H' b=some (.tup xs)):nI P w H' h' a o:=by
 induction o with
 | lst xs=>obtain⟨z,its,n,r,e⟩:=x;exact⟨z,its,n,r,k _ _ (.inl rfl) e⟩
 | tup xs=>obtain⟨z,its,r,ob,e,c⟩:=x;exact⟨z,its,r,ob,k _ _ (.inl rfl) e,c⟩
 | dK kvs=>obtain⟨z,y,vs,r,ob,es,ep,e,c⟩:=x;exact⟨z,y,vs,r,ob,es,ep,k _ _ (.inl rfl) e,c⟩
 | dT kvs =>
  obtain⟨z,y,xs,r,ob,es,ep,e,c⟩:=x;exact⟨z,y,xs,Paired.xU r fun p q z=>⟨z.1,ht _ _ z.2.1,z.2.2⟩,ob,es,ep,k _ _ (.inl Z) e,c⟩
 | set S n=>obtain⟨ob,es,ep,t,e,c⟩:=x;exact⟨ob,es,ep,t,k _ _ (.inl rfl) e,c⟩
 | ins C dx fs =>
  obtain⟨d,z,ne,e,mA,⟨od,es,ep,e2,c⟩,r⟩:=x;exact⟨ho _ d,z,ne,k _ _ (.inl Z) e,mA,⟨od,es,ep,k _ _ (.inr d) e2,c⟩,r⟩
 | own y=>obtain⟨ob,e⟩:=x;exact⟨ob,k _ _ (.inl rfl) e⟩
 | xd fs=>obtain⟨mA,⟨od,es,ep,e,c⟩,r⟩:=x;exact⟨mA,⟨od,es,ep,k _ _ (.inl rfl) e,c⟩,r⟩
 | AI lo hi=>obtain⟨t,u,v,e⟩:=x;exact⟨t,u,v,k _ _ (.inl rfl) e⟩
 | frz ob u ih=>obtain⟨e,q⟩:=x;exact⟨k _ _ (.inl rfl) e,ih q⟩
 | tbl ps =>
  have e:h.get? a=some { cls:=.none,data:=.fields ps }:=x;show h'.get? a=some { cls:=.none,data:=.fields ps }
  exact k a _ (.inl Z) e
 | met f y =>
  have e:h.get? a=some (PySem.W.methodObj (.ref f) (.ref y)):=x;show h'.get? a=some (PySem.W.methodObj (.ref f) (.ref y))
  exact k a _ (.inl Z) e
 | ext φ=>obtain⟨p,⟨o,e⟩,st⟩:=x;exact⟨st _ _ p fun o q=>k _ _ (.inl rfl) q,⟨o,k _ _ (.inl rfl) e⟩,st⟩
theorem vK.lt (x:vK P w H h)(e:H a=some o):a<h.objs.size:=(x a o e).lt
theorem vK.fresh (x:vK P w H h)(e:h.objs.size<=a):H a=none:=by
 cases q:H a with
 | none=>rfl
 | some u=>exact absurd (bp (x.lt q) e) (d7 _)
theorem vK.kept (x:vK P w H h)(k:∀b u,h.get? b=some u->h'.get? b=some u):vK P w H h':=fun a o e =>
 (x a o e).CL (fun b u _ q=>k b u q) (fun _ q=>q) fun _ _ q=>q
theorem vK.laid (x:vK P w H h)(k:∀b u,h.get? b=some u->h'.get? b=some u)(hp:h.objs.size<=a)(new:nI P w (upd H a o) h' a o):vK P w (upd H a o) h':=fun b u e=>by
 have hn:=x.fresh hp
 by_cases hb:b=a
 .subst hb;rw[jO] at e;cases e;exact new
 .rw[j5 hb] at e;exact(x b u e).CL (fun c v _ q=>k c v q) (fun c q=>by rw[j5 (j8 q hn)];exact q) fun c xs q=>by rw[j5 (j8 q hn)];exact q
end
def Rd (H:Hp)(a:Addr)(u:HO):Prop:=H a=some u\/∃o,H a=some (.frz o u)
theorem Rd.of {H:Hp}{a:Addr}{u:HO}(h:H a=some u):Rd H a u:=.inl h
theorem Rd.ok {P:Program}{w:World}{H:Hp}{h:Heap}{a:Addr}{u:HO}(r:Rd H a u)(x:vK P w H h):nI P w H h a u:=by
 rcases r with r | ⟨o,r⟩
 .exact x a u r
 .obtain⟨_,q⟩:=x a _ r;exact q
def R4:Option HO->Prop
 | some (.lst _)=>iu
 | some (.dK _)=>iu
 | some (.dT _)=>iu
 | some (.set _ _)=>iu
 | some (.ins _ _ _)=>iu
 | some (.ext _)=>iu
 | _=>dR
section
variable {P:Program}{w:World}{H:Hp}{h h':Heap}{x e:Addr}{o':HO}
theorem vK.write (ok:vK P w H h)(mu:R4 (H x))(he:e=x\/H e=some (.own x))(k:∀b u,b≠e->h.get? b=some u->h'.get? b=some u)(N7:∃u,h'.get? e=some u)
  (new:nI P w (upd H x o') h' x o'):vK P w (upd H x o') h':=fun b u q=>by
 have Qu:∀c y,H c=some (.own y)->c≠x:=fun c y r z=>by subst z;rw[r] at mu;exact mu
 have Xe:∀c xs,H c=some (.tup xs)->c≠x:=fun c xs r z=>by subst z;rw[r] at mu;exact mu
 by_cases hb:b=x
 .subst hb;rw[jO] at q;cases q;exact new
 .rw[j5 hb] at q
  by_cases Nn:b=e
  .have q':H b=some (.own x):=by
    rcases he with z | z
    .exact absurd (Nn.trans z) hb
    .rw[Nn];exact z
   rw[q] at q';cases q';obtain⟨v,hv⟩:=N7;exact⟨v,by rw[Nn];exact hv⟩
  .refine(ok b u q).CL (fun c v hc r=>k c v ?_ r) (fun c r=>by rw[j5 (Qu c b r)];exact r) fun c xs r=>by rw[j5 (Xe c xs r)];exact r
   rcases hc with rfl | hc
   .exact Nn
   .rintro rfl;rcases he with z | z
    .exact Qu c b hc z
    .rw[hc] at z;cases z;exact hb Z
end
structure Un (fs ex:List Addr)(H H':Hp)(h h':Heap):Prop where
 keep:∀b o,h.get? b=some o->H b=none->b∉fs->b∉ex->h'.get? b=some o
 slot:∀b o,h.get? b=some o->H b=none->b∈fs->b∉ex->∃sl,h'.get? b=some { o with slots:=sl }
 free:∀b o,h.get? b=some o->H b=none->b∉ex->H' b=none
 there:∀b o,h.get? b=some o->b∉ex->∃o',h'.get? b=some o'
 tups:∀b xs,H b=some (.tup xs)->H' b=some (.tup xs)
 frzs:∀b o u,H b=some (.frz o u)->H' b=some (.frz o u)
 tbls:∀b ps,H b=some (.tbl ps)->∃more,H' b=some (.tbl (ps++more))
section
variable {fs ex:List Addr}{H H1 H2:Hp}{h h1 h2 h':Heap}{a x e:Addr}{o:HO}
theorem Un.any (u:Un fs ex H H1 h h1){b:Addr}{ob:Obj}(q:h.get? b=some ob)(n:H b=none)(hx:b∉ex):∃sl,h1.get? b=some { ob with slots:=sl }:=by
 by_cases hb:b∈fs
 .exact u.slot b ob q n hb hx
 .exact⟨ob.slots,u.keep b ob q n hb hx⟩
theorem Un.trans (a:Un fs ex H H1 h h1)(b:Un fs ex H1 H2 h1 h2):Un fs ex H H2 h h2 where
 keep:=fun c ob q n hc hx=>b.keep c ob (a.keep c ob q n hc hx) (a.free c ob q n hx) hc hx
 slot:=fun c ob q n hc hx=>by
  obtain⟨sl,e1⟩:=a.slot c ob q n hc hx;obtain⟨Xf,e2⟩:=b.slot c _ e1 (a.free c ob q n hx) hc hx;exact⟨Xf,e2⟩
 free:=fun c ob q n hx=>by
  obtain⟨o',e1⟩:=a.there c ob q hx;exact b.free c o' e1 (a.free c ob q n hx) hx
 there:=fun c ob q hx=>by
  obtain⟨o',e1⟩:=a.there c ob q hx;exact b.there c o' e1 hx
 tups:=fun c xs q=>b.tups c xs (a.tups c xs q)
 frzs:=fun c ob xs q=>b.frzs c ob xs (a.frzs c ob xs q)
 tbls:=fun c ps q=>by
  obtain⟨m1,e1⟩:=a.tbls c ps q;obtain⟨m2,e2⟩:=b.tbls c _ e1;exact⟨m1++m2,by rw[e2,i7]⟩
theorem Un.kept (k:∀b u,h.get? b=some u->h'.get? b=some u):Un fs ex H H h h' :=
 ⟨fun b ob q _ _ _=>k b ob q,fun b ob q _ _ _=>⟨ob.slots,k b ob q⟩,fun _ _ _ n _=>n,fun b ob q _=>⟨ob,k b ob q⟩,fun _ _ q=>q,fun _ _ _ q=>q,fun _ ps q=>⟨#[],by rw[q];simp⟩⟩
theorem Un.refl:Un fs ex H H h h:=Un.kept fun _ _ q=>q
theorem Un.laid (k:∀b u,h.get? b=some u->h'.get? b=some u)(hp:h.objs.size<=a)(hn:H a=none):Un fs ex H (upd H a o) h h' where
 keep:=fun b u q _ _ _=>k b u q
 slot:=fun b u q _ _ _=>⟨u.slots,k b u q⟩
 free:=fun b u q n _=>by rw[j5 (cP (bp (bR q) hp))];exact n
 there:=fun b u q _=>⟨u,k b u q⟩
 tups:=fun b xs q=>by rw[j5 (j8 q hn)];exact q
 frzs:=fun b u xs q=>by rw[j5 (j8 q hn)];exact q
 tbls:=fun b ps q=>⟨#[],by rw[j5 (j8 q hn),q];simp⟩
theorem Un.write (mu:R4 (H x))(he:e=x\/H e=some (.own x))(k:∀b u,b≠e->h.get? b=some u->h'.get? b=some u)(N7:∃u,h'.get? e=some u):Un fs ex H (upd H x o) h h':=by
 have hx:∀b,H b=none->b≠x:=fun b n z=>by subst z;rw[n] at mu;exact mu
 have hb:∀b,H b=none->b≠e:=fun b n z=>by
  subst z;rcases he with r | r
  .exact hx b n r
  .rw[n] at r;cases r
 have hm:∀b u,H b=some u->¬R4 (some u)->b≠x:=fun b u q nm z=>by subst z;rw[q] at mu;exact nm mu
 refine⟨fun b u q n _ _=>k b u (hb b n) q,fun b u q n _ _=>⟨u.slots,k b u (hb b n) q⟩,fun b u q n _=>by rw[j5 (hx b n)];exact n,fun b u q _=>?_,
  fun b xs q=>by rw[j5 (hm b _ q fun z=>z)];exact q,fun b u xs q=>by rw[j5 (hm b _ q fun z=>z)];exact q,fun b ps q=>⟨#[],by rw[j5 (hm b _ q fun z=>z),q];simp⟩⟩
 by_cases Nn:b=e
 .subst Nn;exact N7
 .exact⟨u,k b u Nn q⟩
end
def R5 (h:Heap)(H:Hp):List Addr:=(List.range h.objs.size).filter fun a=>(H a).isSome
def za (h:Heap)(H:Hp):Heap:=PySem.W.hideAll h (R5 h H)
theorem Ez (h:Heap)(H:Hp):(za h H).objs.size=h.objs.size:=PySem.W.hideAll_size _ _
theorem F9 {h:Heap}{H:Hp}{b:Addr}{o:Obj}(e:h.get? b=some o)(n:H b=none):(za h H).get? b=some o :=
 PySem.W.hideAll_get _ e fun hm=>by
  have q:(H b).isSome=true:=(ig.mp hm).2;rw[n] at q;simp at q
theorem J4 {h:Heap}{H:Hp}{b:Addr}{o:Obj}(e:(za h H).get? b=some o):h.get? b=some o/\H b=none:=by
 have e':h.get? b=some o:=PySem.W.of_hideAll (R5 h H) e;refine⟨e',?_⟩;cases q:H b with
 | none=>rfl
 | some x =>
  have hm:b∈R5 h H:=ig.mpr ⟨dZ.mpr (bR e'),by simp[q]⟩;have z:(za h H).get? b=none:=PySem.W.hideAll_none (R5 h H) hm;rw[z] at e;cases e
def Jr (g h:Heap)(zgT:Addr):List (Addr×Obj):=(List.range h.objs.size).filterMap fun a=>if a=zgT\/(g.get? a).isSome=true then none else (h.get? a).map fun o=>(a,o)
def rest (g h:Heap)(zgT d:Addr):List (Addr×Obj):=(Jr g h zgT).filter fun p=>decide (p.1≠d)
structure Mod (K:PySem.W.Frag)(mg:Str->Option Value)(base:Heap):Prop where
 kin:K.In base
 glob:base.Ns mainGlobals mg
 blt:∃mb,base.Ns builtinsNs mb/\∀x:Str,x≠"__name__"->mb x=bootBuiltins x
 nolimit:base.NoLimit
structure Cx where
 prog:Program
 w:World
 K:PySem.W.Frag
 mg:Str->Option Value
 base:Heap
 A:Around
 N:List Str
 s₀:Shared
 H₀:Hp
 env:Env
 outer:List Env
 stack:List Env
 ex:List Addr
 fn:Str->Bool
 calm:Bool
 pn:List (Addr×Obj)
 xe:Value->Shared->Prop
def EJ (l:List Env):List Addr:=l.filterMap (·.frame)
abbrev Cx.fs (X:Cx):List Addr:=EJ X.outer
def R3 (sc:Scope)(x:Str):Prop:=sc.names.lookup x=some .local\/sc.names.lookup x=some .cell\/sc.names.lookup x=some .free
def Loc (sc:Scope)(x:Str):Prop:=sc.names.lookup x=some .local\/sc.names.lookup x=some .cell
def Look (env:Env)(h:Heap)(m:Str->Option Value)(x:Str)(u:Value):Prop :=
 (env.kindOf x=some .local/\m x=some u)\/((env.kindOf x=some .cell\/env.kindOf x=some .free)/\∃c,env.cells.lookup x=some c/\h.IsCell c (some u))
structure Cx.Ok (X:Cx):Prop where
 mod:Mod X.K X.mg X.base
 kind:X.env.scope.kind=.function
 glob:X.env.globals=mainGlobals
 blt:X.env.builtins=builtinsNs
 above:X.s₀.heap.objs.size<=X.env.locals
 inj:∀x y c,X.env.cells.lookup x=some c->X.env.cells.lookup y=some c->x=y
 has:∀x,(X.env.kindOf x=some .cell\/X.env.kindOf x=some .free)->∃c,X.env.cells.lookup x=some c
 cab:∀x c,X.fn x=true->X.env.cells.lookup x=some c->X.s₀.heap.objs.size<=c
 hd:X.calm=true->X.A.handled=none
 frames:X.A.frames=some X.stack
 stk:X.stack=X.outer\/(X.stack=X.env::X.outer/\X.env.frame=some X.env.locals)
 exf:∀b∈X.ex,b≠X.env.locals/\∀x c,X.env.cells.lookup x=some c->c≠b
 bs:∀b o,X.base.get? b=some o->X.s₀.heap.get? b=some o/\X.H₀ b=none
 bsz:X.base.objs.size<=X.s₀.heap.objs.size
 noex:∀b o,X.base.get? b=some o->b∉X.ex
 exfs:∀b∈X.ex,b∉X.fs
 ve:X.s₀.heap.FunFrames X.base X.outer
 frf:∀b∈X.fs,X.H₀ b=none
structure Inv (X:Cx)(pins:List (Addr×Obj))(σ:List (Option V))(H:Hp)(s:Shared):Prop where
 ok:X.Ok
 os:s.os=X.s₀.os
 bare:AllBare s.gens
 base:Un X.fs X.ex X.H₀ H X.s₀.heap s.heap
 loc:∃m,s.heap.Ns X.env.locals m/\∀(i:Nat)(x:Str)(v:V),X.N[i]?=some x->σ[i]?=some (some v)->R3 X.env.scope x->∃u,RelV v u/\Look X.env s.heap m x u
 cell:∀x c,X.env.cells.lookup x=some c->∃v,s.heap.IsCell c v
 free:H X.env.locals=none
 freeC:∀x c,X.env.cells.lookup x=some c->H c=none
 pin:∀p∈X.pn++pins,s.heap.get? p.1=some p.2/\H p.1=none/\p.1≠X.env.locals/\p.1∉X.fs/\∀v,p.2.data≠.cell v
 hok:vK X.prog X.w H s.heap
 len:σ.length=X.N.length
section
variable {g':Array GenState}{t':Nat}{ch:List Addr}{E:Value->Shared->Prop}{Q:Unit->Shared->Prop}
variable {X:Cx}{pins:List (Addr×Obj)}{σ:List (Option V)}{H H':Hp}{s:Shared}{h':Heap}
theorem Cx.Ok.Vz (ok:X.Ok){b:Addr}{o:Obj}(e:X.base.get? b=some o):b∉X.fs:=fun hb=>by
 have:=(ok.ve.mem hb).1;rw[e] at this;cases this
theorem Inv.bs (I:Inv X pins σ H s):∀b o,X.base.get? b=some o->s.heap.get? b=some o/\H b=none:=fun b o e =>
 ⟨I.base.keep b o (I.ok.bs b o e).1 (I.ok.bs b o e).2 (I.ok.Vz e) (I.ok.noex b o e),I.base.free b o (I.ok.bs b o e).1 (I.ok.bs b o e).2 (I.ok.noex b o e)⟩
theorem Inv.bk (I:Inv X pins σ H s):∀b o,X.base.get? b=some o->s.heap.get? b=some o:=fun b o e=>(I.bs b o e).1
theorem Inv.mod (I:Inv X pins σ H s):Mod X.K X.mg X.base:=I.ok.mod
theorem Inv.vJ (I:Inv X pins σ H s):X.K.In s.heap:=I.ok.mod.kin.keeps I.bk
theorem Inv.fr (I:Inv X pins σ H s):∃m,Fr X.base X.env.locals s.heap m :=
 let ⟨m,hn,_⟩:=I.loc
 ⟨m,hn,I.bk,bL I.ok.bsz I.ok.above⟩
theorem Inv.lt (I:Inv X pins σ H s):X.env.locals<s.heap.objs.size:=let ⟨_,hn,_⟩:=I.loc;hn.lt
theorem Inv.sz (I:Inv X pins σ H s):X.s₀.heap.objs.size<=s.heap.objs.size:=bL I.ok.above (d6 I.lt)
theorem Inv.Wh (I:Inv X pins σ H s){a:Addr}(h:s.heap.objs.size<=a):a∉X.fs:=fun hb=>by
 obtain⟨_,o,ho,_⟩:=I.ok.ve.mem hb;exact absurd (bp (bR ho) (bL I.sz h)) (d7 _)
theorem Inv.Ml (I:Inv X pins σ H s):∀x c,X.env.cells.lookup x=some c->c≠X.env.locals:=fun x c e z=>by
 obtain⟨v,o,ho,hd⟩:=I.cell x c e;obtain⟨m,⟨o',es,ep,Ih,N8,_⟩,_⟩:=I.loc;rw[z,Ih] at ho;cases ho;rw[N8] at hd;cases hd
theorem Inv.ve (I:Inv X pins σ H s):s.heap.FunFrames X.base X.outer:=by
 have all:∀(l:List Env),(∀b∈EJ l,b∈X.fs)->X.s₀.heap.FunFrames X.base l->s.heap.FunFrames X.base l:=by
  intro l
  induction l with
  | nil=>intro _ _;trivial
  | cons env r ih =>
   intro hs hl;obtain⟨hk,⟨zgT,o,hf,hn,ho,hd⟩,hr⟩:=hl;have hL:zgT∈X.fs:=hs zgT (by unfold EJ;rw[List.filterMap_cons,hf];exact List.mem_cons_self);obtain⟨sl,e⟩:=I.base.slot zgT o ho (I.ok.frf zgT hL) hL fun z=>I.ok.exfs zgT z hL;exact⟨hk,⟨zgT,_,hf,hn,e,hd⟩,ih (fun b hb=>hs b (by unfold EJ;rw[List.filterMap_cons,hf];exact List.mem_cons_of_mem _ hb)) hr⟩
 exact all X.outer (fun _ hb=>hb) I.ok.ve
theorem Inv.stack (I:Inv X pins σ H s):s.heap.FunFrames X.base X.stack:=by
 rcases I.ok.stk with e | ⟨e,hf⟩
 .rw[e];exact I.ve
 .rw[e];obtain⟨m,hn,_⟩:=I.loc;refine .cons (by rw[I.ok.kind];decide) hf hn ?_ I.ve;exact Heap.get?_none_of_le (bL I.ok.bsz I.ok.above)
theorem Inv.B2 (I:Inv X pins σ H s):∀b∈EJ X.stack,b∈X.env.locals::X.fs:=fun b hb=>by
 rcases I.ok.stk with e | ⟨e,hf⟩
 .rw[e] at hb;exact ar _ hb
 .rw[e] at hb;unfold EJ at hb;rw[List.filterMap_cons,hf] at hb;exact hb
theorem Inv.DF (I:Inv X pins σ H s):∀b∈EJ X.stack,H b=none:=fun b hb=>by
 rcases List.mem_cons.mp (I.B2 b hb) with e | hb
 .rw[e];exact I.free
 .obtain⟨_,o,ho,_⟩:=I.ok.ve.mem hb;exact I.base.free b o ho (I.ok.frf b hb) fun z=>I.ok.exfs b z hb
theorem Inv.step {d':Drawn}(I:Inv X pins σ H s)
 (Ao:∀b∈ch,(b∈X.ex\/X.s₀.heap.objs.size<=b)/\b≠X.env.locals/\(∀x c,X.env.cells.lookup x=some c->c≠b)/\∀p∈X.pn++pins,p.1≠b)
 (keep:∀b o,b≠X.env.locals->b∉X.fs->b∉ch->s.heap.get? b=some o->H b=none->h'.get? b=some o)
 (slot:∀b o,b≠X.env.locals->b∈X.fs->b∉ch->s.heap.get? b=some o->H b=none->∃sl,h'.get? b=some { o with slots:=sl })(free:∀b o,b∉ch->s.heap.get? b=some o->H b=none->H' b=none)
 (there:∀b o,b∉ch->s.heap.get? b=some o->∃o',h'.get? b=some o')
 (tups:∀b xs,H b=some (.tup xs)->H' b=some (.tup xs))(frzs:∀b o u,H b=some (.frz o u)->H' b=some (.frz o u))(tbls:∀b ps,H b=some (.tbl ps)->∃more,H' b=some (.tbl (ps++more)))
 (ns:∀m,s.heap.Ns X.env.locals m->h'.Ns X.env.locals m)(hok:vK X.prog X.w H' h')(hg:AllBare g') :
    Inv X pins σ H' { s with heap:=h',gens:=g',drawn:=d',toks:=t' }:=by
  have Zp:∀b o,X.s₀.heap.get? b=some o->b≠X.env.locals:=fun b o e=>cP (bp (bR e) I.ok.above);have Sb:∀b o,X.s₀.heap.get? b=some o->b∉X.ex->b∉ch:=fun b o e hx hb=>by
    rcases (Ao b hb).1 with z | z
    · exact hx z
    · exact absurd (bp (bR e) z) (d7 _)
  have cellK:∀x c,X.env.cells.lookup x=some c->∀v,s.heap.IsCell c v->h'.IsCell c v:=fun x c e v ⟨o,ho,hd⟩=>by
    have Qv:c∉ch:=fun z=>(Ao c z).2.2.1 x c e Z
    by_cases hc:c∈X.fs
    · obtain⟨sl,q⟩:=slot c o (I.Ml x c e) hc Qv ho (I.freeC x c e)
      exact⟨_,q,hd⟩
    · exact⟨o,keep c o (I.Ml x c e) hc Qv ho (I.freeC x c e),hd⟩
  refine⟨I.ok,I.os,hg,⟨fun b o e n hb hx=>?_,fun b o e n hb hx=>?_,fun b o e n hx=>?_,fun b o e hx=>?_,fun b xs e=>tups b xs (I.base.tups b xs e),fun b o xs e=>frzs b o xs (I.base.frzs b o xs e),fun b ps e=>?_⟩,?_,fun x c e=>?_,?_,fun x c e=>?_,fun p hp=>?_,hok,I.len⟩
  · exact keep b o (Zp b o e) hb (Sb b o e hx) (I.base.keep b o e n hb hx) (I.base.free b o e n hx)
  · obtain⟨sl,e1⟩:=I.base.slot b o e n hb hx
    obtain⟨Xf,e2⟩:=slot b _ (Zp b o e) hb (Sb b o e hx) e1 (I.base.free b o e n hx);exact⟨Xf,e2⟩
  · obtain⟨o',e1⟩:=I.base.there b o e hx
    exact free b o' (Sb b o e hx) e1 (I.base.free b o e n hx)
  · obtain⟨o',e1⟩:=I.base.there b o e hx
    exact there b o' (Sb b o e hx) e1
  · obtain⟨m1,e1⟩:=I.base.tbls b ps e
    obtain⟨m2,e2⟩:=tbls b _ e1;exact⟨m1++m2,by rw[e2,i7]⟩
  · obtain⟨m,hn,hl⟩:=I.loc
    refine⟨m,ns m hn,fun i x v e1 e2 e3=>?_⟩;obtain⟨u,r,l⟩:=hl i x v e1 e2 e3;refine⟨u,r,?_⟩;rcases l with l | ⟨k,c,e,z⟩
    · exact .inl l
    · exact .inr ⟨k,c,e,cellK x c e _ z⟩
  · obtain⟨v,z⟩:=I.cell x c e
    exact⟨v,cellK x c e v z⟩
  · obtain⟨m,⟨o,_,_,ho,_⟩,_⟩:=I.loc
    exact free _ o (fun z=>(Ao _ z).2.1 Z) ho I.free
  · obtain⟨v,o,ho,hd⟩:=I.cell x c e
    exact free c o (fun z=>(Ao c z).2.2.1 x c e Z) ho (I.freeC x c e)
  · obtain⟨e,n,ne,nf,d⟩:=I.pin p hp
    have Qv:p.1∉ch:=fun z=>(Ao p.1 z).2.2.2 p hp Z;exact⟨keep p.1 p.2 ne nf Qv e n,free p.1 p.2 Qv e n,ne,nf,d⟩
theorem Inv.un (I:Inv X pins σ H s)(u:Un X.fs [] H H' s.heap h')(hok:vK X.prog X.w H' h'):Inv X pins σ H' { s with heap:=h',toks:=t' }:=by
 obtain⟨m,⟨o,es,ep,ho,r⟩,_⟩:=id I.loc;obtain⟨sl,hL⟩:=u.any ho I.free jH;exact I.step (g':=s.gens) (d':=s.drawn) (ch:=[]) (fun _ z=>nomatch z) (fun b o _ hb _ e n=>u.keep b o e n hb jH) (fun b o _ hb _ e n=>u.slot b o e n hb jH) (fun b o _ e n=>u.free b o e n jH) (fun b o _ e=>u.there b o e jH) u.tups u.frzs u.tbls (fun m' hm=>by
  obtain⟨o',Xg,Xh,Ih,r'⟩:=hm;rw[ho] at Ih;cases Ih;exact⟨_,Xg,Xh,hL,r'⟩) hok I.bare
theorem Inv.call {d':Drawn}(I:Inv X pins σ H s)(u:Un (EJ X.stack) ch H H' s.heap h')(hok:vK X.prog X.w H' h')(hg:AllBare g')
 (Ao:∀b∈ch,(b∈X.ex\/X.s₀.heap.objs.size<=b)/\b≠X.env.locals/\(∀x c,X.env.cells.lookup x=some c->c≠b)/\∀p∈X.pn++pins,p.1≠b) :
    Inv X pins σ H' { s with heap:=h',gens:=g',drawn:=d',toks:=t' }:=by
  obtain⟨m,⟨o,es,ep,ho,r⟩,_⟩:=id I.loc;obtain⟨sl,hL⟩:=u.any ho I.free fun z=>(Ao _ z).2.1 Z;exact I.step (ch:=ch) Ao (fun b o hL hb hc e n=>u.keep b o e n (fun z=>(fD.mp (I.B2 b z)).elim hL hb) hc) (fun b o _ _ hc e n=>u.any e n hc) (fun b o hc e n=>u.free b o e n hc) (fun b o hc e=>u.there b o e hc) u.tups u.frzs u.tbls (fun m' hm=>by
    obtain⟨o',Xg,Xh,Ih,r'⟩:=hm;rw[ho] at Ih;cases Ih;exact⟨_,Xg,Xh,hL,r'⟩) hok hg
theorem Inv.turned {it:Addr}(I:Inv X pins σ H s)(k:∀b o,b≠it->s.heap.get? b=some o->h'.get? b=some o)(hn:H it=none)(hL:it≠X.env.locals)
 (h1:it∈X.ex\/X.s₀.heap.objs.size<=it)(h2:∀x c,X.env.cells.lookup x=some c->c≠it)(h3:∀p∈X.pn++pins,p.1≠it):Inv X pins σ H { s with heap:=h',toks:=t' }:=by
  have Qw:∀b u,H b=some u->b≠it:=fun b u e z=>by rw[z,hn] at e;cases e
  refine I.step (g':=s.gens) (d':=s.drawn) (ch:=[it]) (fun b hb=>?_) (fun b o _ _ hc e _=>k b o (fun z=>hc (by simp[z])) e) (fun b o _ _ hc e _=>⟨o.slots,k b o (fun z=>hc (by simp[z])) e⟩) (fun _ _ _ _ n=>n)
    (fun b o hc e=>⟨o,k b o (fun z=>hc (by simp[z])) e⟩) (fun _ _ e=>e) (fun _ _ _ e=>e) (fun b ps e=>⟨#[],by rw[e];simp⟩) (fun m hm=>?_) (fun b u e=>?_) I.bare
  · have e:b=it:=by simpa using hb
    subst e;exact⟨h1,hL,h2,h3⟩
  · obtain⟨o,es,ep,ho,r⟩:=hm
    exact⟨o,es,ep,k _ o (dj hL) ho,r⟩
  · refine(I.hok b u e).CL (fun c v hc q=>k c v ?_ q) (fun _ q=>q) fun _ _ q=>q
    rcases hc with z | z
    · rw[z];exact Qw b u e
    · exact Qw c _ z
theorem Inv.tok (I:Inv X pins σ H s)(t:Nat):Inv X pins σ H { s with toks:=t }:=I.un (h':=s.heap) (t':=t) Un.refl I.hok
theorem Inv.kept {t':Nat}(I:Inv X pins σ H s)(k:∀b u,s.heap.get? b=some u->h'.get? b=some u):Inv X pins σ H { s with heap:=h',toks:=t' }:=I.un (Un.kept k) (I.hok.kept k)
theorem Inv.laid {a:Addr}{o:HO}{t':Nat}(I:Inv X pins σ H s)(k:∀b u,s.heap.get? b=some u->h'.get? b=some u)(hp:s.heap.objs.size<=a)(new:nI X.prog X.w (upd H a o) h' a o) :
  Inv X pins σ (upd H a o) { s with heap:=h',toks:=t' }:=I.un (Un.laid k hp (I.hok.fresh hp)) (I.hok.laid k hp new)
theorem Inv.write {x e:Addr}{o:HO}{t':Nat}(I:Inv X pins σ H s)(mu:R4 (H x))(he:e=x\/H e=some (.own x))(k:∀b u,b≠e->s.heap.get? b=some u->h'.get? b=some u)(N7:∃u,h'.get? e=some u)
  (new:nI X.prog X.w (upd H x o) h' x o):Inv X pins σ (upd H x o) { s with heap:=h',toks:=t' }:=I.un (Un.write mu he k N7) (I.hok.write mu he k N7 new)
theorem Inv.weak {lh:List (Option V)}(I:Inv X pins σ H s)(hl:lh.length=σ.length)(w:∀(i:Nat) v,lh[i]?=some (some v)->σ[i]?=some (some v)):Inv X pins lh H s :=
 ⟨I.ok,I.os,I.bare,I.base,let ⟨m,hn,hl'⟩:=I.loc;⟨m,hn,fun i x v e1 e2 e3=>hl' i x v e1 (w i v e2) e3⟩,I.cell,I.free,I.freeC,I.pin,I.hok,hl.trans I.len⟩
theorem Inv.ug {Lh:List (Addr×Obj)}(I:Inv X pins σ H s)(h:∀p∈Lh,s.heap.get? p.1=some p.2/\H p.1=none/\p.1≠X.env.locals/\p.1∉X.fs/\∀v,p.2.data≠.cell v):Inv X Lh σ H s :=
 ⟨I.ok,I.os,I.bare,I.base,I.loc,I.cell,I.free,I.freeC,fun p hp=>(gH.mp hp).elim (fun z=>I.pin p (cN _ z)) (h p),I.hok,I.len⟩
theorem AF {N:List Str}(hN:N.Nodup){i j:Nat}{x:Str}(a:N[i]?=some x)(b:N[j]?=some x):i=j:=by
 obtain⟨h1,e1⟩:=List.getElem?_eq_some_iff.mp a;obtain⟨h2,e2⟩:=List.getElem?_eq_some_iff.mp b;exact(List.getElem_inj hN).mp (e1.trans e2.symm)
theorem yJ {M:Model}{A:Around}{i:Nat}{x:Str}{v:V}{u:Value}(I:Inv X pins σ H s)(hN:X.N.Nodup)(hi:X.N[i]?=some x)(hx:Loc X.env.scope x)(r:RelV v u)
 (h:∀s',Inv X pins (σ.set i (some v)) H s'->(∃a,Heap.SameBut a s.heap s'.heap/\(a=X.env.locals\/X.env.cells.lookup x=some a))->Q () s')(hf:X.fn x=true\/X.env.scope.names.lookup x=some .local:=by first | exact .inl Z | exact .inr Z | assumption):wpAny M A (storeName X.env x u) Q E s:=by
  obtain⟨m,hn,hl⟩:=id I.loc;have Xi:(X.env.scope.kind == .class || (X.env.scope.kind == .module && X.env.locals != X.env.globals))=false:=by rw[I.ok.kind];rfl
  have Qx:i<σ.length:=by rw[I.len];exact(aF.mp hi).1
  have Ml:=I.Ml;have tracked:∀{a:Addr}{h':Heap},(∃o,s.heap.get? a=some o/\H a=none)->Heap.SameBut a s.heap h'->vK X.prog X.w H h':=fun {a h'} ha hs b ob e=>by
    obtain⟨_,_,rB⟩:=ha;refine(I.hok b ob e).CL (fun c w' hc q=>(hs.2 c ?_).trans q) (fun _ q=>q) fun _ _ q=>q;rintro rfl;rcases hc with rfl | hc
    · rw[rB] at e;cases e
    · rw[rB] at hc;cases hc
  rcases hx with hk | hk
  · refine wpAny_storeName_local hk hn (fun h' hn' hs=>?_) Xi
    obtain⟨oL,_,_,hoL,_⟩:=id hn;refine h _ ⟨I.ok,I.os,I.bare,⟨fun b o e n hb hx=>?_,fun b o e n hb hx=>?_,I.base.free,fun b o e hx=>?_,I.base.tups,I.base.frzs,I.base.tbls⟩,⟨_,hn',fun j y v' e1 e2 e3=>?_⟩,fun y c e=>?_,I.free,I.freeC,fun p hp=>?_,tracked ⟨oL,hoL,I.free⟩ hs,by simpa using I.len⟩ ⟨_,hs,.inl Z⟩
    · exact(hs.2 b (cP (bp (bR e) I.ok.above))).trans (I.base.keep b o e n hb hx)
    · obtain⟨sl,e1⟩:=I.base.slot b o e n hb hx
      exact⟨sl,(hs.2 b (cP (bp (bR e) I.ok.above))).trans e1⟩
    · obtain⟨o',e1⟩:=I.base.there b o e hx
      exact⟨o',(hs.2 b (cP (bp (bR e) I.ok.above))).trans e1⟩
    · by_cases hj:j=i
      · subst hj
        rw[hi] at e1;cases e1;rw[eJ Qx] at e2;cases e2;exact⟨u,r,.inl ⟨hk,jH⟩⟩
      · rw[fV (dj hj)] at e2
        obtain⟨u',r',q⟩:=hl j y v' e1 e2 e3;refine⟨u',r',?_⟩;rcases q with ⟨k,e⟩ | ⟨k,c,e,z⟩
        · refine .inl ⟨k,?_⟩
          have:y≠x:=fun e=>hj (AF hN e1 (e▸hi));simp[this,e]
        · exact .inr ⟨k,c,e,z.sameBut hs (Ml y c e)⟩
    · obtain⟨w',z⟩:=I.cell y c e
      exact⟨w',z.sameBut hs (Ml y c e)⟩
    · obtain⟨e,n,ne,nf,d⟩:=I.pin p hp
      exact⟨(hs.2 p.1 ne).trans e,n,ne,nf,d⟩
  · have Xj:X.fn x=true:=by
      rcases hf with z | z
      · exact z
      · rw[z] at hk;cases hk
    obtain⟨c,hc⟩:=I.ok.has x (.inl hk);obtain⟨w',z⟩:=I.cell x c hc;refine wpAny_storeName_cell I.ok.kind hk hc z (fun h' xt hs=>?_);obtain⟨oc,Zq,Xk⟩:=id z;refine h { s with heap:=h' } ⟨I.ok,I.os,I.bare,⟨fun b o e n hb hx=>?_,fun b o e n hb hx=>?_,I.base.free,fun b o e hx=>?_,I.base.tups,I.base.frzs,I.base.tbls⟩,⟨m,hn.sameBut hs (dj (Ml x c hc)),fun j y v' e1 e2 e3=>?_⟩,fun y c' e=>?_,I.free,I.freeC,fun p hp=>?_,tracked ⟨oc,Zq,I.freeC x c hc⟩ hs,by simpa using I.len⟩ ⟨c,hs,.inr hc⟩
    · exact(hs.2 b (cP (bp (bR e) (I.ok.cab x c Xj hc)))).trans (I.base.keep b o e n hb hx)
    · obtain⟨sl,e1⟩:=I.base.slot b o e n hb hx
      exact⟨sl,(hs.2 b (cP (bp (bR e) (I.ok.cab x c Xj hc)))).trans e1⟩
    · obtain⟨o',e1⟩:=I.base.there b o e hx
      exact⟨o',(hs.2 b (cP (bp (bR e) (I.ok.cab x c Xj hc)))).trans e1⟩
    · by_cases hj:j=i
      · subst hj
        rw[hi] at e1;cases e1;rw[eJ Qx] at e2;cases e2;exact⟨u,r,.inr ⟨.inl hk,c,hc,xt⟩⟩
      · rw[fV (dj hj)] at e2
        obtain⟨u',r',q⟩:=hl j y v' e1 e2 e3;refine⟨u',r',?_⟩;rcases q with q | ⟨k,c',e,z'⟩
        · exact .inl q
        · refine .inr ⟨k,c',e,z'.sameBut hs ?_⟩
          rintro rfl;exact hj (AF hN e1 (I.ok.inj _ _ _ e hc▸hi))
    · by_cases Qy:c'=c
      · subst Qy;exact⟨_,xt⟩
      · obtain⟨w2,z2⟩:=I.cell y c' e
        exact⟨w2,z2.sameBut hs Qy⟩
    · obtain⟨e,n,ne,nf,d⟩:=I.pin p hp
      refine⟨(hs.2 p.1 ?_).trans e,n,ne,nf,d⟩;intro q;rw[q,Zq] at e;have q':oc=p.2:=bK e;exact d w' (by rw[<-q'];exact Xk)
theorem Bi {M:Model}{A:Around}{i:Nat}{x:Str}{v:V}{u:Value}(I:Inv X pins σ H s)(hN:X.N.Nodup)(hi:X.N[i]?=some x)(hx:Loc X.env.scope x)(r:RelV v u)
 (h:∀s',Inv X pins (σ.set i (some v)) H s'->Q () s')(hf:X.fn x=true\/X.env.scope.names.lookup x=some .local:=by first | exact .inl Z | exact .inr Z | assumption):wpAny M A (storeName X.env x u) Q E s :=
  yJ I hN hi hx r (fun s' I' _=>h s' I') hf
theorem Inv.Qj {s':Shared}(I:Inv X pins σ H s)(ho:s'.os=s.os)(u:Un (EJ X.stack) ch H H' s.heap s'.heap)(hok:vK X.prog X.w H' s'.heap)(hg:AllBare s'.gens)
 (Ao:∀b∈ch,(b∈X.ex\/X.s₀.heap.objs.size<=b)/\b≠X.env.locals/\(∀x c,X.env.cells.lookup x=some c->c≠b)/\∀p∈X.pn++pins,p.1≠b):Inv X pins σ H' s':=by
  obtain⟨h',g',d',t',o'⟩:=s';have e:o'=s.os:=ho;subst e;exact I.call (g':=g') (t':=t') (d':=d') u hok hg Ao
end
abbrev XK:=Value->Option Addr->Hp->Prop
abbrev St:=List (Option V)
abbrev VK:=V->Hp->Prop
abbrev TE:=St->Hp->VK->Prop
abbrev TT:=St->Hp->(Bool->Hp->Prop)->Prop
abbrev TA:=St->Hp->(List V->Hp->Prop)->Prop
structure Ends where
 nx:St->Hp->Prop
 rt:VK
 bk:St->Hp->Prop:=fun _ _=>dR
 ct:St->Hp->Prop:=fun _ _=>dR
abbrev TS:=Ends->St->Hp->Prop
def EP (X:Cx)(pins:List (Addr×Obj))(σ:St)(Q:VK)(u:Value)(s':Shared):Prop:=∃v H',Inv X pins σ H' s'/\RelV v u/\Q v H'
def TP (X:Cx)(pins:List (Addr×Obj))(σ:St)(Q:Bool->Hp->Prop)(b:Bool)(s':Shared):Prop:=∃H',Inv X pins σ H' s'/\Q b H'
def AP (X:Cx)(pins:List (Addr×Obj))(σ:St)(Q:List V->Hp->Prop)(us:List Value)(s':Shared):Prop:=∃vs H',Inv X pins σ H' s'/\Vals vs us/\Q vs H'
def SP (X:Cx)(pins:List (Addr×Obj))(D:Ends)(f:Flow)(s':Shared):Prop :=
 match f with
 | .next=>∃lh H',Inv X pins lh H' s'/\D.nx lh H'
 | .brk=>∃lh H',Inv X pins lh H' s'/\D.bk lh H'
 | .cont=>∃lh H',Inv X pins lh H' s'/\D.ct lh H'
 | .ret u=>∃v lh H',Inv X pins lh H' s'/\RelV v u/\D.rt v H'
def PE (X:Cx)(e:Expr)(t:TE):Prop :=
 ∀(pins:List (Addr×Obj))(s:Shared)(σ:St)(H:Hp)(Q:VK),Inv X pins σ H s->t σ H Q->wpAny (model X.prog X.w) X.A (eval e X.env) (EP X pins σ Q) X.xe s
def PT (X:Cx)(e:Expr)(t:TT):Prop :=
 ∀(pins:List (Addr×Obj))(s:Shared)(σ:St)(H:Hp)(Q:Bool->Hp->Prop),Inv X pins σ H s->t σ H Q->wpAny (model X.prog X.w) X.A (isTrue e X.env (eval e X.env)) (TP X pins σ Q) X.xe s
def PW (X:Cx)(e:Expr)(t:TT):Prop :=
 ∀(whole:Sem Value)(pins:List (Addr×Obj))(s:Shared)(σ:St)(H:Hp)(Q:Bool->Hp->Prop),Inv X pins σ H s->t σ H Q->wpAny (model X.prog X.w) X.A (isTrue e X.env whole) (TP X pins σ Q) X.xe s
theorem PW.pt {X:Cx}{e:Expr}{t:TT}(h:PW X e t):PT X e t:=h _
def PA (X:Cx)(es:List Expr)(t:TA):Prop :=
 ∀(pos:Pos)(pins:List (Addr×Obj))(s:Shared)(σ:St)(H:Hp)(Q:List V->Hp->Prop),Inv X pins σ H s->t σ H Q->wpAny (model X.prog X.w) X.A (spliced (backTo pos (starEach es X.env))) (AP X pins σ Q) X.xe s
def PS (X:Cx)(st:Stmt)(t:TS):Prop :=
 ∀(pins:List (Addr×Obj))(s:Shared)(σ:St)(H:Hp)(D:Ends),Inv X pins σ H s->t D σ H->wpAny (model X.prog X.w) X.A (exec st X.env) (SP X pins D) X.xe s
def yp (X:Cx)(st:List Stmt)(t:TS):Prop :=
 ∀(pins:List (Addr×Obj))(s:Shared)(σ:St)(H:Hp)(D:Ends),Inv X pins σ H s->t D σ H->wpAny (model X.prog X.w) X.A (execs st X.env) (SP X pins D) X.xe s
theorem mQ {α:Type}{t:Sem α}{Q Q':α->Shared->Prop}{M:Model}{A:Around}{E:Value->Shared->Prop}{s:Shared}(h:wpAny M A t Q E s)(hQ:∀a s,Q a s->Q' a s):wpAny M A t Q' E s:=eC h hQ fun _ _ x=>x
section
variable {x:Str}{E Q:Value->Shared->Prop}{pins:List (Addr×Obj)}{u:Value}
variable {X:Cx}
def Qf (i:Nat):TE:=fun σ H Q=>∃v,σ[i]?=some (some v)/\Q v H
def tC (v:V):TE:=fun _ H Q=>Q v H
theorem Mj {i:Nat}{pos:Pos}(hN:X.N[i]?=some x)(hv:R3 X.env.scope x)(hd:(x == ("__debug__":Str))=false:=by decide)(Ec:(x == ("__classdict__":Str))=false:=by decide):PE X (.Name x pos) (Qf i):=by
 intro pins s σ H Q I h;obtain⟨v,e,h⟩:=h;obtain⟨m,hn,hl⟩:=I.loc;obtain⟨u,r,l⟩:=hl i x v hN e hv;have fin:EP X pins σ Q u s:=⟨v,H,I,r,h⟩;rcases l with ⟨hk,hm⟩ | ⟨hk,c,hc,qE⟩
 .exact wpAny_Name (wpAny_loadName_local I.ok.kind hk hn hm fin) hd
 .rcases hk with hk | hk
  .exact wpAny_Name (wpAny_loadName_cell I.ok.kind hk hc qE fin) hd
  .exact wpAny_Name (wpAny_loadName_free I.ok.kind hk hc qE fin Ec) hd
theorem jM {i j pos}:PE X (.Constant (.int i) j pos) (tC (.int i)):=fun _ _ _ H _ I h=>wpAny_Constant_int ⟨.int i,H,I.tok _,⟨_,Z⟩,h⟩
theorem qk {b j pos}:PE X (.Constant (.bool b) j pos) (tC (.bl b)):=fun _ _ _ H _ I h=>Constant_bool ⟨.bl b,H,I,Z,h⟩
theorem rH {j pos}:PE X (.Constant .none j pos) (tC .non):=fun _ _ _ H _ I h=>Constant_none ⟨.non,H,I,Z,h⟩
theorem oG {x j pos}:PE X (.Constant (.str x) j pos) (tC (.str x)):=fun _ _ _ H _ I h=>Calls.Constant_str ⟨.str x,H,I.tok _,⟨_,Z⟩,h⟩
def Gl (X:Cx)(x:Str):Prop:=X.env.kindOf x=some .globalImplicit
theorem zt {s:Shared}{σ:St}{H:Hp}{pos:Pos}(I:Inv X pins σ H s)(hg:Gl X x)(hm:X.mg x=some u)(h:Q u s)
 (hd:(x == ("__debug__":Str))=false:=by decide):wpAny (model X.prog X.w) X.A (eval (.Name x pos) X.env) Q E s :=
  iU I.ok.kind hg (Calls.loadGlobal_global (by rw[I.ok.glob];exact I.mod.glob.keeps I.bk) hm h) hd
theorem pV {s:Shared}{σ:St}{H:Hp}{pos:Pos}(I:Inv X pins σ H s)(hg:Gl X x)(hm:X.mg x=none)(hv:bootBuiltins x=some u)(h:Q u s)
 (hn:x≠"__name__":=by decide)(hd:(x == ("__debug__":Str))=false:=by decide):wpAny (model X.prog X.w) X.A (eval (.Name x pos) X.env) Q E s:=by
  obtain⟨mb,h1,h2⟩:=I.mod.blt;exact iU I.ok.kind hg (Calls.loadGlobal_builtin (by rw[I.ok.glob];exact I.mod.glob.keeps I.bk) hm (by rw[I.ok.blt];exact h1.keeps I.bk) ((h2 x hn).trans hv) h) hd
theorem vO {v:V}{pos:Pos}(hg:Gl X x)(hm:X.mg x=some u)(r:RelV v u)(hd:(x == ("__debug__":Str))=false:=by decide):PE X (.Name x pos) (tC v) :=
 fun _ _ _ H _ I h=>zt I hg hm ⟨v,H,I,r,h⟩ hd
theorem pR {v:V}{pos:Pos}(hg:Gl X x)(hm:X.mg x=none)(hv:bootBuiltins x=some u)(r:RelV v u)(hn:x≠"__name__":=by decide)(hd:(x == ("__debug__":Str))=false:=by decide):PE X (.Name x pos) (tC v) :=
 fun _ _ _ H _ I h=>pV I hg hm hv ⟨v,H,I,r,h⟩ hn hd
variable {a b:Expr}{ta tb:TE}{pos:Pos}
def tB (t:TE):TT:=fun σ H Q=>t σ H fun x H1=>∃c,x=.bl c/\Q c H1
theorem mY {e:Expr}{t:TE}(h:PE X e t)(he:∀whole,isTrue e X.env whole=(do let v <-whole;standAt e.pos;holding [v] (truthy v)):=by intro _;rfl):PT X e (tB t):=by
 intro pins s σ H Q I hw;refine isTrue_plain (mQ (h pins s σ H _ I hw) fun v s1 ⟨x,H1,I1,r1,q1⟩=>?_) (he _);obtain⟨d,rfl,q⟩:=q1;cases r1;exact fW ⟨H1,I1,q⟩
variable {tA Zr:TT}{rest:List Expr}
def tOr (t u:TT):TT:=fun σ H Q=>t σ H fun c H1=>if c=true then Q true H1 else u σ H1 Q
def Wm (t:TT):TT:=fun σ H Q=>t σ H fun c H1=>Q (!c) H1
theorem rW (ha:PT X a tA):PW X (.BoolOp .Or [a] pos) tA:=by
 intro wh pins s σ H Q I h;refine isTrue_or (mQ (ha pins s σ H Q I h) fun c s1 e=>?_);cases c with
 | false=>exact isTrue_or_nil e
 | true=>exact e
theorem oY (ha:PT X a tA)(hb:PW X (.BoolOp .Or (b::rest) pos) Zr):PW X (.BoolOp .Or (a::b::rest) pos) (tOr tA Zr):=by
 intro wh pins s σ H Q I h;refine isTrue_or (mQ (ha pins s σ H _ I h) fun c s1 ⟨H1,I1,q1⟩=>?_);cases c with
 | true=>exact⟨H1,I1,q1⟩
 | false=>exact hb wh pins s1 σ H1 Q I1 q1
theorem nB (ha:PT X a tA):PT X (.UnaryOp .Not a pos) (Wm tA):=by
 intro pins s σ H Q I h;exact isTrue_not (ha pins s σ H (fun c H1=>Q (!c) H1) I h)
def PK (ta tb:TE):TE:=fun σ H Q=>ta σ H fun x H1=>∃c,x=.bl c/\if c=true then tb σ H1 Q else Q (.bl false) H1
def Qd (ta:TE):TE:=fun σ H Q=>ta σ H fun x H1=>∃c,x=.bl c/\Q (.bl (!c)) H1
theorem B5 {op}{t:TE}(h:PE X a t):PE X (.BoolOp op [a] pos) t:=fun pins s σ H Q I hw=>BoolOp_one (h pins s σ H Q I hw)
theorem Bz (ha:PE X a ta)(hb:PE X (.BoolOp .And (b::rest) pos) tb):PE X (.BoolOp .And (a::b::rest) pos) (PK ta tb):=by
 intro pins s σ H Q I h;refine BoolOp_and (mQ (ha pins s σ H _ I h) fun v s1 ⟨x,H1,I1,r1,q1⟩=>?_);obtain⟨c,rfl,q1⟩:=q1;cases r1;refine fW ?_;cases c with
 | true=>exact hb pins s1 σ H1 Q I1 q1
 | false=>exact⟨.bl false,H1,I1,Z,q1⟩
theorem GQ (ha:PE X a ta):PE X (.UnaryOp .Not a pos) (Qd ta):=by
 intro pins s σ H Q I h;refine UnaryOp_ (mQ (ha pins s σ H _ I h) fun v s1 ⟨x,H1,I1,r1,q1⟩=>?_);obtain⟨c,rfl,q1⟩:=q1;cases r1;exact not_of (fW ⟨.bl (!c),H1,I1,Z,q1⟩)
def tIf (t:TT)(ta tb:TE):TE:=fun σ H Q=>t σ H fun c H1=>if c=true then ta σ H1 Q else tb σ H1 Q
theorem Gq {c:Expr}(hc:PT X c tA)(ha:PE X a ta)(hb:PE X b tb):PE X (.IfExp c a b pos) (tIf tA ta tb):=by
 intro pins s σ H Q I h;refine wpAny_IfExp (mQ (hc pins s σ H _ I h) fun d s1 ⟨H1,I1,q1⟩=>?_);cases d with
 | true=>exact ha pins s1 σ H1 Q I1 q1
 | false=>exact hb pins s1 σ H1 Q I1 q1
end
def j6 (K:PySem.W.Frag)(H:Hp)(a:Addr)(xs:List V):Prop :=
 Rd H a (.lst xs) \/
  ∃(o:Obj)(its:Array Value)(n:Nat),K.lookup a=some o/\o.cls=.type "list"/\o.dict=none/\o.data=.seq its n/\its.size<=sizeLine/\Vals xs its.toList
def kQ (K:PySem.W.Frag)(H:Hp)(a:Addr)(xs:List V):Prop :=
 Rd H a (.tup xs) \/
  ∃(o:Obj)(its:Array Value)(n:Nat),K.lookup a=some o/\o.cls=.type "tuple"/\o.data=.seq its n/\its.size<=sizeLine/\Vals xs its.toList
def Ue:Value->Option V
 | .none=>some .non
 | .bool b=>some (.bl b)
 | .int i _=>some (.int i)
 | .str x _=>some (.str x)
 | .bytes b _=>some (.byt b)
 | .float b _=>some (.flt b)
 | .ref a=>some (.ref a)
 | .type n=>some (.ty n)
 | _=>none
theorem RelV.abs {x:V}{u:Value}(r:RelV x u):Ue u=some x:=by
 cases x with
 | non=>cases r;rfl
 | bl _=>cases r;rfl
 | int _=>obtain⟨t,rfl⟩:=r;rfl
 | str _=>obtain⟨t,rfl⟩:=r;rfl
 | byt _=>obtain⟨t,rfl⟩:=r;rfl
 | flt _=>obtain⟨t,rfl⟩:=r;rfl
 | ref _=>cases r;rfl
 | ty _=>cases r;rfl
theorem RelV.inj {x y:V}{u:Value}(r:RelV x u)(q:RelV y u):x=y:=bK (r.abs.symm.trans q.abs)
theorem Vals.inj:∀{xs ys:List V}{us:List Value},Vals xs us->Vals ys us->xs=ys
 | _,_,_,.nil,.nil=>rfl
 | _,_,_,.cons r t,.cons r' t'=>by rw[r.inj r',Vals.inj t t']
section
variable {X:Cx}{pins:List (Addr×Obj)}{σ:St}{H:Hp}{s:Shared}{a:Addr}{xs ys:List V}
theorem j6.of {K:PySem.W.Frag}(h:H a=some (.lst xs)):j6 K H a xs:=.inl (.inl h)
theorem kQ.of {K:PySem.W.Frag}(h:H a=some (.tup xs)):kQ K H a xs:=.inl (.inl h)
theorem Inv.list (I:Inv X pins σ H s)(h:j6 X.K H a xs):∃its:List Value,Vals xs its/\PlainL s.heap a its.toArray/\xs.length<=sizeLine:=by
 rcases h with h | ⟨o,its,n,hk,hc,hd,hs,hz,r⟩
 .obtain⟨z,its,n,r,e⟩:=h.ok I.hok;exact⟨its,r,⟨_,n,e,Z,Z,Z⟩,z⟩
 .refine⟨its.toList,r,⟨o,n,I.vJ a o hk,hc,hd,by simpa using hs⟩,?_⟩;have e:=r.length;simp only[Array.length_toList] at e;omega
theorem Inv.tuple (I:Inv X pins σ H s)(h:kQ X.K H a xs):∃its:List Value,Vals xs its/\IsTup s.heap a its.toArray/\xs.length<=sizeLine:=by
 rcases h with h | ⟨o,its,n,hk,hc,hs,hz,r⟩
 .obtain⟨z,its,r,p⟩:=h.ok I.hok;exact⟨its,r,p,z⟩
 .refine⟨its.toList,r,⟨o,I.vJ a o hk,hc,n,by simpa using hs⟩,?_⟩;have e:=r.length;simp only[Array.length_toList] at e;omega
theorem Inv.tV (I:Inv X pins σ H s)(h:j6 X.K H a xs)(h':j6 X.K H a ys):xs=ys:=by
 obtain⟨its,r,⟨o,n,e,_,_,d⟩,_⟩:=I.list h;obtain⟨its',r',⟨o',n',e',_,_,d'⟩,_⟩:=I.list h';rw[e] at e';cases e';rw[d] at d';injection d' with d1 _;have:its=its':=by simpa using congrArg Array.toList d1
 subst this;exact r.inj r'
theorem Inv.EV (I:Inv X pins σ H s)(h:kQ X.K H a xs)(h':kQ X.K H a ys):xs=ys:=by
 obtain⟨its,r,⟨o,e,_,n,d⟩,_⟩:=I.tuple h;obtain⟨its',r',⟨o',e',_,n',d'⟩,_⟩:=I.tuple h';rw[e] at e';cases e';rw[d] at d';injection d' with d1 _;have:its=its':=by simpa using congrArg Array.toList d1
 subst this;exact r.inj r'
end
abbrev Cx.vy (X:Cx)(E:Value->Shared->Prop):Cx:={ X with xe:=E }
abbrev Cx.Fk (X:Cx):Cx:=X.vy fun _ _=>dR
theorem Cx.Ok.vy {X:Cx}(ok:X.Ok)(E:Value->Shared->Prop):(X.vy E).Ok :=
 ⟨ok.mod,ok.kind,ok.glob,ok.blt,ok.above,ok.inj,ok.has,ok.cab,ok.hd,ok.frames,ok.stk,ok.exf,ok.bs,ok.bsz,ok.noex,ok.exfs,ok.ve,ok.frf⟩
theorem Cx.Ok.pZ {X:Cx}{E:Value->Shared->Prop}(ok:(X.vy E).Ok):X.Ok :=
 ⟨ok.mod,ok.kind,ok.glob,ok.blt,ok.above,ok.inj,ok.has,ok.cab,ok.hd,ok.frames,ok.stk,ok.exf,ok.bs,ok.bsz,ok.noex,ok.exfs,ok.ve,ok.frf⟩
section
variable {X:Cx}{pins:List (Addr×Obj)}{σ:St}{H:Hp}{s:Shared}{E:Value->Shared->Prop}
theorem Inv.vy (I:Inv X pins σ H s)(E:Value->Shared->Prop):Inv (X.vy E) pins σ H s:=⟨I.ok.vy E,I.os,I.bare,I.base,I.loc,I.cell,I.free,I.freeC,I.pin,I.hok,I.len⟩
theorem Inv.pZ (I:Inv (X.vy E) pins σ H s):Inv X pins σ H s:=⟨I.ok.pZ,I.os,I.bare,I.base,I.loc,I.cell,I.free,I.freeC,I.pin,I.hok,I.len⟩
theorem SP.pZ {D:Ends}{f:Flow}{s':Shared}(h:SP (X.vy E) pins D f s'):SP X pins D f s':=by
 cases f with
 | next=>obtain⟨lh,H',I,q⟩:=h;exact⟨lh,H',I.pZ,q⟩
 | brk=>obtain⟨lh,H',I,q⟩:=h;exact⟨lh,H',I.pZ,q⟩
 | cont=>obtain⟨lh,H',I,q⟩:=h;exact⟨lh,H',I.pZ,q⟩
 | ret u=>obtain⟨v,lh,H',I,r,q⟩:=h;exact⟨v,lh,H',I.pZ,r,q⟩
theorem PE.Fk {e:Expr}{t:TE}(h:PE X.Fk e t):PE X e t:=fun pins s σ H Q I hw =>
 eC (h pins s σ H Q (I.vy _) hw) (fun _ _ ⟨v,H',I',r,q⟩=>⟨v,H',I'.pZ,r,q⟩) fun _ _ z=>False.elim z
theorem PT.Fk {e:Expr}{t:TT}(h:PT X.Fk e t):PT X e t:=fun pins s σ H Q I hw =>
 eC (h pins s σ H Q (I.vy _) hw) (fun _ _ ⟨H',I',q⟩=>⟨H',I'.pZ,q⟩) fun _ _ z=>False.elim z
theorem yp.Fk {st:List Stmt}{t:TS}(h:yp X.Fk st t):yp X st t:=fun pins s σ H D I hw =>
 eC (h pins s σ H D (I.vy _) hw) (fun _ _ q=>q.pZ) fun _ _ z=>False.elim z
end
section
variable {X:Cx}{st:Stmt}{rest:List Stmt}{t u:TS}{e:Expr}{te:TE}{pos:Pos}
def Qk:TS:=fun D σ H=>D.nx σ H
def Vc (t u:TS):TS:=fun D σ H=>t { D with nx:=u D } σ H
theorem kD:yp X [] Qk:=fun _ _ σ H _ I h=>gY ⟨σ,H,I,h⟩
theorem jK (h1:PS X st t)(h2:yp X rest u):yp X (st::rest) (Vc t u):=by
 intro pins s σ H D I h;refine iy (mQ (h1 pins s σ H { D with nx:=u D } I h) fun f s1 q=>?_);cases f with
 | next =>
  obtain⟨lh,H',I',q⟩:=q;exact h2 pins s1 lh H' D I' q
 | ret v=>exact q
 | brk=>exact q
 | cont=>exact q
theorem jQ (h1:PS X st t):yp X [st] t:=by
 intro pins s σ H D I h;refine iy (mQ (h1 pins s σ H D I h) fun f s1 q=>?_);cases f with
 | next=>exact gY q
 | ret v=>exact q
 | brk=>exact q
 | cont=>exact q
theorem Inv.quiet {pins:List (Addr×Obj)}{σ:St}{H:Hp}{s:Shared}(I:Inv X pins σ H s):interactive X.env=false:=by simp[interactive,I.ok.kind]
def Pn (te:TE):TS:=fun D σ H=>te σ H fun _ H1=>D.nx σ H1
theorem mR (he:PE X e te)(hs:swapsWith e none pos.line X.env=pure false:=by rfl):PS X (.Expr e pos) (Pn te):=by
 intro pins s σ H D I h;exact wpAny_Expr_any (mQ (he pins s σ H _ I h) fun v s1 ⟨x,H1,I1,r1,q1⟩=>⟨σ,H1,I1,q1⟩) I.quiet hs
def TZ (te:TE):TS:=fun D σ H=>te σ H D.rt
theorem j4 (he:PE X e te):PS X (.Return (some e) pos) (TZ te):=by
 intro pins s σ H D I h;exact wpAny_Return_some (mQ (he pins s σ H _ I h) fun v s1 ⟨x,H1,I1,r1,q1⟩=>⟨x,σ,H1,I1,r1,q1⟩)
def VH (c:TT)(t u:TS):TS:=fun D σ H=>c σ H fun b H1=>if b=true then t D σ H1 else u D σ H1
theorem kY {c:Expr}{a b:List Stmt}{tc:TT}(hc:PT X c tc)(ha:yp X a t)(hb:yp X b u):PS X (.If c a b pos) (VH tc t u):=by
 intro pins s σ H D I h;refine wpAny_If (mQ (hc pins s σ H _ I h) fun d s1 ⟨H1,I1,q1⟩=>?_);cases d with
 | true=>exact ha pins s1 σ H1 D I1 q1
 | false=>exact hb pins s1 σ H1 D I1 q1
def MG:TS:=fun _ _ _=>dR
theorem xg:PS X st MG:=fun _ _ _ _ _ _ h=>h.elim
end
abbrev TG:=V->St->Hp->(St->Hp->Prop)->Prop
abbrev M6:=List V->St->Hp->(St->Hp->Prop)->Prop
def PG (X:Cx)(target:Expr)(t:TG):Prop :=
 ∀(pins:List (Addr×Obj))(s:Shared)(σ:St)(H:Hp)(v:V)(u:Value)(Q:St->Hp->Prop),Inv X pins σ H s->RelV v u->t v σ H Q ->
  wpAny (model X.prog X.w) X.A (assign target X.env u) (fun _ s'=>∃lh H',Inv X pins lh H' s'/\Q lh H') X.xe s
def R1 (X:Cx)(ts:List Expr)(t:M6):Prop :=
 ∀(pins:List (Addr×Obj))(s:Shared)(σ:St)(H:Hp)(vs:List V)(us:List Value)(Q:St->Hp->Prop),Inv X pins σ H s->Vals vs us->t vs σ H Q ->
  wpAny (model X.prog X.w) X.A (assignInOrder ((assignEach ts X.env).map (·.2)) us) (fun _ s'=>∃lh H',Inv X pins lh H' s'/\Q lh H') X.xe s
abbrev L6:=V->V->V->Hp->(Hp->Prop)->Prop
def Pj (X:Cx)(t:L6):Prop :=
 ∀(pins:List (Addr×Obj))(s:Shared)(σ:St)(H:Hp)(o i v:V)(ov iv u:Value)(Q:Hp->Prop),Inv X pins σ H s->RelV o ov->RelV i iv->RelV v u->t o i v H Q ->
  wpAny (model X.prog X.w) X.A (setItem ov iv u) (fun _ s'=>∃H',Inv X pins σ H' s'/\Q H') X.xe s
section
variable {X:Cx}{pos:Pos}
def kW (i:Nat):TG:=fun v σ H Q=>Q (σ.set i (some v)) H
theorem oq {i:Nat}{x:Str}(hN:X.N.Nodup)(hi:X.N[i]?=some x)(hx:Loc X.env.scope x)(hf:X.fn x=true\/X.env.scope.names.lookup x=some .local:=by first | exact .inl Z | exact .inr Z | assumption):PG X (.Name x pos) (kW i):=by
 intro pins s σ H v u Q I r h;exact wpAny_assign_Name (Bi I hN hi hx r (fun s' I'=>⟨_,H,I',h⟩) hf)
def Kd:M6:=fun vs σ H Q=>vs=[]/\Q σ H
def vi (t:TG)(u:M6):M6:=fun vs σ H Q=>∃v r,vs=v::r/\t v σ H fun lh H'=>u r lh H' Q
theorem lO:R1 X [] Kd:=by
 intro pins s σ H vs us Q I r h;obtain⟨e,h⟩:=h;subst e;cases r;exact assignInOrder_nil ⟨σ,H,I,h⟩
theorem kg {e:Expr}{es:List Expr}{t:TG}{u:M6}(h1:PG X e t)(h2:R1 X es u)
  (hs:(assignEach (e::es) X.env).map (·.2)=assign e X.env::(assignEach es X.env).map (·.2):=by rfl):R1 X (e::es) (vi t u):=by
 intro pins s σ H vs us Q I r h;obtain⟨v,vr,e1,h⟩:=h;subst e1;cases r with
 | cons r rr =>
  rw[hs];refine assignInOrder_cons (mQ (h1 pins s σ H _ _ _ I r h) fun _ s1 ⟨Oa,H1,I1,q1⟩=>?_);exact h2 pins s1 Oa H1 _ _ Q I1 rr q1
def I0 (K:PySem.W.Frag)(n:Nat)(t:M6):TG:=fun v σ H Q=>∃a xs,v=.ref a/\kQ K H a xs/\xs.length=n/\t xs σ H Q
theorem mv {es:List Expr}{k:Nat}{t:M6}{n:Nat}(hc:X.calm=true)(h:R1 X es t)
  (hn:(assignEach es X.env).length=n:=by rfl)(uv:(assignEach es X.env).findIdx? (·.1)=none:=by rfl):PG X (.Tuple es k pos) (I0 X.K n t):=by
 intro pins s σ H v u Q I r hw;obtain⟨a,xs,e1,hq,hl,hw⟩:=hw;subst e1;cases r;obtain⟨its,rv,ht,hz⟩:=I.tuple hq;refine assign_Tuple_tuple (I.ok.hd hc) ht (by simp[hn,<-hl,rv.length]) uv fun h' hx=>?_;have I1:Inv X pins σ H { s with heap:=h' }:=I.kept (t':=s.toks) fun b o e=>hx b o (cP (bR e)) e;exact h pins _ σ H xs _ Q I1 (by simpa using rv) hw
def Tw (to ti:TE)(t:L6):TG:=fun v σ H Q=>to σ H fun o H1=>ti σ H1 fun i H2=>t o i v H2 fun H3=>Q σ H3
theorem oH {o i:Expr}{to ti:TE}{t:L6}(ho:PE X o to)(hi:PE X i ti)(hs:Pj X t)
  (ha:∀v,assign (.Subscript o i pos) X.env v=(do
   let ov <-holding [v] (eval o X.env)
   let iv <-holding [v,ov] (eval i X.env)
   standAt pos
   holding [v,ov,iv] (setItem ov iv v)
   release [v,ov,iv] []):=by intro _;rfl):PG X (.Subscript o i pos) (Tw to ti t):=by
 intro pins s σ H v u Q I r h;rw[ha];refine cI (i8 (mQ (ho pins s σ H _ I h) fun ov s1 ⟨x,H1,I1,r1,q1⟩=>?_));refine cI (i8 (mQ (hi pins s1 σ H1 _ I1 q1) fun iv s2 ⟨y,H2,I2,r2,q2⟩=>?_));refine cI (i9 (cI (i8 (mQ (hs pins s2 σ H2 x y v ov iv u _ I2 r1 r2 r q2) fun _ s3 ⟨H3,I3,q3⟩=>?_))));exact wpAny_release ⟨σ,H3,I3,q3⟩
def Gy (te:TE)(g:TG):TS:=fun D σ H=>te σ H fun x H1=>g x σ H1 D.nx
theorem oM {tg e:Expr}{te:TE}{g:TG}(he:PE X e te)(hg:PG X tg g)(hs:swapsWithSole [tg] e pos.line X.env=pure false:=by rfl)(hw:swappedStores [tg] e X.env=pure none:=by rfl)
  (h1:(assignEach [tg] X.env).map (·.2)=[assign tg X.env]:=by rfl):PS X (.Assign [tg] e pos) (Gy te g):=by
 intro pins s σ H D I h;refine wpAny_Assign_stores (mQ (he pins s σ H _ I h) fun v s1 ⟨x,H1,I1,r1,q1⟩=>?_) hs hw;rw[h1];exact mQ (hg pins s1 σ H1 x v _ I1 r1 q1) fun _ s2 q=>q
theorem LD {i:Nat}{x:Str}{e:Expr}{te:TE}{pos':Pos}(hN:X.N.Nodup)(hi:X.N[i]?=some x)(hx:Loc X.env.scope x)(he:PE X e te)(hs:swapsWith e (some (.Name x pos')) pos.line X.env=pure false:=by rfl)(hf:X.fn x=true\/X.env.scope.names.lookup x=some .local:=by first | exact .inl Z | exact .inr Z | assumption) :
  PS X (.Assign [.Name x pos'] e pos) (Gy te (kW i)):=by
 intro pins s σ H D I h;refine wpAny_Assign_Name (mQ (he pins s σ H _ I h) fun v s1 ⟨y,H1,I1,r1,q1⟩=>?_) hs;exact Bi I1 hN hi hx r1 (fun s2 I2=>⟨_,H1,I2,q1⟩) hf
end
section
variable {X:Cx}{pos:Pos}
def LQ (c:TT)(tb:TS):TS:=fun D σ H=>∃W:Nat->St->Hp->Prop,(∃m,W m σ H)/\∀m σ H,W m σ H ->
 c σ H fun b H1=>if b=true then ∃N:St->Hp->Prop,(∀lh H',N lh H'->∃m',m'<m/\W m' lh H')/\tb { D with nx:=N,ct:=N,bk:=D.nx } σ H1 else D.nx σ H1
theorem mP {c:Expr}{body:List Stmt}{tc:TT}{tb:TS}(hp:PassesOwn (model X.prog X.w) X.A X.env X.xe)(hc:PT X c tc)(hb:yp X body tb):PS X (.While c body [] pos) (LQ tc tb):=by
 intro pins s σ H D I h;obtain⟨W,⟨m0,w0⟩,turn⟩:=h;refine wpAny_While (codeAny_whileLoop (fun n s'=>∃lh H',Inv X pins lh H' s'/\W n lh H') ?_ m0 ⟨σ,H,I,w0⟩);rintro n s1 ⟨Oa,H1,I1,w1⟩;refine eY hp (mQ (hc pins s1 Oa H1 _ I1 (turn n Oa H1 w1)) fun b s2 ⟨H2,I2,q2⟩=>?_);cases b with
 | true =>
  obtain⟨N,hN,q2⟩:=q2;rw[aD Z];refine eY hp (mQ (hb pins s2 Oa H2 _ I2 q2) fun f s3 q3=>?_);cases f with
  | next =>
   obtain⟨Ii,H3,I3,n3⟩:=q3;obtain⟨m',hm,w3⟩:=hN Ii H3 n3;exact⟨m',hm,Ii,H3,I3,w3⟩
  | cont =>
   obtain⟨Ii,H3,I3,n3⟩:=q3;obtain⟨m',hm,w3⟩:=hN Ii H3 n3;exact⟨m',hm,Ii,H3,I3,w3⟩
  | brk=>exact q3
  | ret v=>exact q3
 | false =>
  rw[ao bi];exact gY ⟨Oa,H2,I2,q2⟩
end
structure It where
 go:Nat->Hp->Prop
 yld:Nat->Hp->V->Hp->Prop
 stop:Nat->Hp->Prop
def zG (X:Cx)(pins:List (Addr×Obj))(H:Hp)(b:Addr):Prop :=
 H b=none/\b≠X.env.locals/\b∉X.fs/\(b∈X.ex\/X.s₀.heap.objs.size<=b)/\(∀x c,X.env.cells.lookup x=some c->c≠b)/\∀p∈X.pn++pins,p.1≠b
theorem Inv.BO {X:Cx}{pins:List (Addr×Obj)}{σ:St}{H H':Hp}{s:Shared}{b:Addr}(I:Inv X pins σ H s)(hb:s.heap.objs.size<=b)(hn:H' b=none):zG X pins H' b:=by
 refine⟨hn,iF (bp I.lt hb),I.Wh hb,.inr (bL I.sz hb),fun x c e z=>?_,fun p hp z=>?_⟩
 .obtain⟨v,q⟩:=I.cell x c e;exact absurd (bp q.lt (by rw[z];exact hb)) (d7 _)
 .exact absurd (bp (bR (I.pin p hp).1) (by rw[z];exact hb)) (d7 _)
structure Turn (P:Program)(w:World)(K:PySem.W.Frag)(tg:Expr)(zgR:It)(fp:List Addr)(it:Addr)(tn:Nat->Heap->Prop):Prop where
 mem:it∈fp
 obj:∀i h,tn i h->∀b∈fp,∃o,h.get? b=some o/\∀v,o.data≠.cell v
 keep:∀i h h',tn i h->(∀b∈fp,∀o,h.get? b=some o->h'.get? b=some o)->tn i h'
 item:∀(X:Cx),X.prog=P->X.w=w->X.K=K->X.calm=true->∀(i:Nat)(pins:List (Addr×Obj))(s:Shared)(σ:St)(H:Hp)(E:Value->Shared->Prop),Inv X pins σ H s->(∀b∈fp,zG X pins H b)->tn i s.heap->zgR.go i H ->
  wpAny (model P w) X.A (pyNext (.ref it)) (fun r s1=>∃u,r=some u /\
   wpAny (model P w) X.A (letOwnedTupleGo tg (.ref it) u) (fun _ s2=>∃x H',Inv X pins σ H' s2/\RelV x u/\zgR.yld i H x H'/\tn (i+1) s2.heap/\∀b∈fp,H' b=none) E s1) E s
 done:∀(X:Cx),X.prog=P->X.w=w->X.K=K->X.calm=true->∀(i:Nat)(pins:List (Addr×Obj))(s:Shared)(σ:St)(H:Hp)(E:Value->Shared->Prop),Inv X pins σ H s->(∀b∈fp,zG X pins H b)->tn i s.heap->zgR.stop i H ->
  wpAny (model P w) X.A (pyNext (.ref it)) (fun r s1=>r=none/\Inv X pins σ H s1) E s
 self:∀(A:Around)(i:Nat)(s:Shared)(Q:Value->Shared->Prop)(E:Value->Shared->Prop),tn i s.heap->Q (.ref it) s->wpAny (model P w) A (pyIter (.ref it)) Q E s
abbrev TI:=St->Hp->(It->Hp->Prop)->Prop
def Zj (X:Cx)(pins:List (Addr×Obj))(σ:St)(tg:Expr)(R:It->Hp->Prop)(Li:Value)(s2:Shared):Prop :=
 ∃(it:Addr)(fp:List Addr)(tn:Nat->Heap->Prop)(zgR:It)(H':Hp),Li=.ref it/\Inv X pins σ H' s2/\Turn X.prog X.w X.K tg zgR fp it tn/\tn 0 s2.heap/\(∀b∈fp,zG X pins H' b)/\R zgR H'
def PI (X:Cx)(tg iter:Expr)(wi:TI):Prop :=
 ∀(pins:List (Addr×Obj))(s:Shared)(σ:St)(H:Hp)(R:It->Hp->Prop),Inv X pins σ H s->wi σ H R ->
  wpAny (model X.prog X.w) X.A (eval iter X.env) (fun v s1=>wpAny (model X.prog X.w) X.A (pyIter v) (Zj X pins σ tg R) X.xe s1) X.xe s
theorem De {M:Model}{A:Around}{E:Value->Shared->Prop}{s:Shared}{tg:Expr}{it:Addr}{u:Value}{o:Obj}{n:String}{vs:Array Value}{Q:Unit->Shared->Prop}(ho:s.heap.get? it=some o)(hc:o.cls=.type n)(hd:o.data=.fields vs)
    (hn:["enumerate","zip","dict_itemiterator","dict_reverseitemiterator","odict_iterator","itertools.zip_longest","itertools.pairwise"].contains n=false)(hQ:Q () s):wpAny M A (letOwnedTupleGo tg (.ref it) u) Q E s:=by
  unfold letOwnedTupleGo;cases tg<;>first
    | exact dM hQ
    | (cases u<;>first
        | exact dM hQ
        | (refine cI (wpAny_load ho ?_)
           rw[hc,hd];show wpAny M A (if (["enumerate","zip","dict_itemiterator","dict_reverseitemiterator","odict_iterator","itertools.zip_longest","itertools.pairwise"].contains n && vs[0]? == some (rawInt _))=true then _ else _) Q E s
           rw[ao (by intro h;rw[hn,Bool.false_and] at h;cases h)];exact dM hQ))
def JA (K:PySem.W.Frag)(a:Addr):It :=
 ⟨fun i H=>∃xs x,j6 K H a xs/\xs[i]?=some x,fun i H x H'=>H'=H/\∀xs,j6 K H a xs->xs[i]?=some x,fun i H=>∃xs,j6 K H a xs/\xs.length<=i⟩
def TB (K:PySem.W.Frag)(a:Addr):It :=
 ⟨fun i H=>∃xs x,kQ K H a xs/\xs[i]?=some x,fun i H x H'=>H'=H/\∀xs,kQ K H a xs->xs[i]?=some x,fun i H=>∃xs,kQ K H a xs/\xs.length<=i⟩
def B9 (lo:Int)(n:Nat):It:=⟨fun i _=>i<n,fun i H x H'=>H'=H/\x=.int (lo+i),fun i _=>n<=i⟩
theorem Et {P:Program}{w:World}{K:PySem.W.Frag}{tg:Expr}(a it:Addr):Turn P w K tg (JA K a) [it] it (fun i h=>h.IsListIter it a i) where
 mem:=by simp
 obj:=fun i h st b hb=>by
  have e:b=it:=by simpa using hb
  subst e;obtain⟨o,e,c,d⟩:=st;exact⟨o,e,fun v z=>by rw[d] at z;cases z⟩
 keep:=fun i h h' st k=>st.at fun o e=>k it jH o e
 item:=by
  intro X hP hw hK hc i pins s σ H E I hf st hg;subst hP hw hK;obtain⟨xs,x,hq,hx⟩:=hg;obtain⟨its,rv,p,hz⟩:=I.list hq;obtain⟨u,hu,ru⟩:=rv.get hx;obtain⟨f0,f1,f2,f3,f4,f5⟩:=hf it jH;refine wpAny_pyNext_list_item st p.isList (x:=u) (by simpa using hu) fun h' IK sb=>?_;have I1:Inv X pins σ H { s with heap:=h' }:=I.turned (t':=s.toks) (fun b o hb e=>(sb.2 b hb).trans e) f0 f1 f3 f4 f5;obtain⟨o,e,c,d⟩:=id IK;exact⟨u,Z,De (s:={ s with heap:=h' }) e c d O ⟨x,H,I1,ru,⟨Z,fun ys hy=>by rw[I.tV hy hq];exact hx⟩,IK,fun b hb=>(hf b hb).1⟩⟩
 done:=by
  intro X hP hw hK hc i pins s σ H E I hf st hg;subst hP hw hK;obtain⟨xs,hq,hx⟩:=hg;obtain⟨its,rv,p,hz⟩:=I.list hq;obtain⟨f0,f1,f2,f3,f4,f5⟩:=hf it jH;have hl:=rv.length;exact wpAny_pyNext_list_end (I.ok.hd hc) st p.isList (by simp;omega) fun h' eb=>⟨Z,I.turned (t':=s.toks) (fun b o hb e=>eb b o hb e) f0 f1 f3 f4 f5⟩
 self:=fun _ _ _ _ _ st h=>wpAny_pyIter_listiter st h
theorem CT {P:Program}{w:World}{K:PySem.W.Frag}{tg:Expr}(a it:Addr):Turn P w K tg (TB K a) [it] it (fun i h=>h.IsTupleIter it a i) where
 mem:=by simp
 obj:=fun i h st b hb=>by
  have e:b=it:=by simpa using hb
  subst e;obtain⟨o,e,c,d⟩:=st;exact⟨o,e,fun v z=>by rw[d] at z;cases z⟩
 keep:=fun i h h' st k=>st.at fun o e=>k it jH o e
 item:=by
  intro X hP hw hK hc i pins s σ H E I hf st hg;subst hP hw hK;obtain⟨xs,x,hq,hx⟩:=hg;obtain⟨its,rv,p,hz⟩:=I.tuple hq;obtain⟨u,hu,ru⟩:=rv.get hx;obtain⟨f0,f1,f2,f3,f4,f5⟩:=hf it jH;refine wpAny_pyNext_tuple_item st (show s.heap.IsTuple a its.toArray from p) (x:=u) (by simpa using hu) fun h' IK sb=>?_;have I1:Inv X pins σ H { s with heap:=h' }:=I.turned (t':=s.toks) (fun b o hb e=>(sb.2 b hb).trans e) f0 f1 f3 f4 f5;obtain⟨o,e,c,d⟩:=id IK;exact⟨u,Z,De (s:={ s with heap:=h' }) e c d O ⟨x,H,I1,ru,⟨Z,fun ys hy=>by rw[I.EV hy hq];exact hx⟩,IK,fun b hb=>(hf b hb).1⟩⟩
 done:=by
  intro X hP hw hK hc i pins s σ H E I hf st hg;subst hP hw hK;obtain⟨xs,hq,hx⟩:=hg;obtain⟨its,rv,p,hz⟩:=I.tuple hq;obtain⟨f0,f1,f2,f3,f4,f5⟩:=hf it jH;have hl:=rv.length;exact wpAny_pyNext_tuple_end (I.ok.hd hc) st (show s.heap.IsTuple a its.toArray from p) (by simp;omega) fun h' eb=>⟨Z,I.turned (t':=s.toks) (fun b o hb e=>eb b o hb e) f0 f1 f3 f4 f5⟩
 self:=fun _ _ _ _ _ st h=>wpAny_pyIter_tupleiter st h
theorem Ck {P:Program}{w:World}{K:PySem.W.Frag}{tg:Expr}(it:Addr)(lo:Int)(n:Nat):Turn P w K tg (B9 lo n) [it] it (fun i h=>IsRangeIter h it (lo+(i:Nat)*1) ((n:Int)-(i:Nat)) 1) where
 mem:=by simp
 obj:=fun i h st b hb=>by
  have e:b=it:=by simpa using hb
  subst e;exact⟨_,st,fun v z=>by
   have z':Data.fields _=Data.cell v:=z;cases z'⟩
 keep:=fun i h h' st k=>k it jH _ st
 item:=by
  intro X hP hw hK hc i pins s σ H E I hf st hg;subst hP hw hK;obtain⟨f0,f1,f2,f3,f4,f5⟩:=hf it jH;have W:=Walks.range (prog:=X.prog) (w:=X.w) (I.ok.hd hc) it lo 1 n;refine W.item i s _ _ hg st fun v h' tk hv IK kk=>?_;obtain⟨t,rfl⟩:=hv;have I1:Inv X pins σ H { s with heap:=h',toks:=tk }:=I.turned (fun b o hb e=>kk b o (by simpa using hb) e) f0 f1 f3 f4 f5;refine⟨_,Z,De (s:={ s with heap:=h',toks:=tk }) (n:="range_iterator") IK Z Z O ⟨.int (lo+i),H,I1,⟨t,?_⟩,⟨Z,Z⟩,IK,fun b hb=>(hf b hb).1⟩⟩;rw[bX]
 done:=by
  intro X hP hw hK hc i pins s σ H E I hf st hg;subst hP hw hK;obtain⟨f0,f1,f2,f3,f4,f5⟩:=hf it jH;exact jm (I.ok.hd hc) st (by have:n<=i:=hg;omega) fun h' eb=>⟨Z,I.turned (t':=s.toks) (fun b o hb e=>eb b o hb e) f0 f1 f3 f4 f5⟩
 self:=fun _ _ _ _ _ st h=>jo st h
section
variable {pins:List (Addr×Obj)}{s:Shared}{fp:List Addr}
variable {X:Cx}{tg:Expr}
def Pk (K:PySem.W.Frag)(tl:TE):TI:=fun σ H R=>tl σ H fun x H1=>∃a,x=.ref a/\(∃xs,j6 K H1 a xs)/\R (JA K a) H1
def Wa (K:PySem.W.Frag)(tl:TE):TI:=fun σ H R=>tl σ H fun x H1=>∃a,x=.ref a/\(∃xs,kQ K H1 a xs)/\R (TB K a) H1
theorem kG {l:Expr}{tl:TE}(hl:PE X l tl):PI X tg l (Pk X.K tl):=by
 intro pins s σ H R I h;refine mQ (hl pins s σ H _ I h) fun v s1 ⟨x,H1,I1,r1,q1⟩=>?_;obtain⟨a,e,⟨xs,hq⟩,q⟩:=q1;subst e;cases r1;obtain⟨its,rv,p,hz⟩:=I1.list hq;refine wpAny_pyIter_list p.isList ?_;refine⟨s1.heap.objs.size,[s1.heap.objs.size],_,_,H1,Z,I1.kept (t':=s1.toks) fun b o e=>aQ _ e,Et a _,⟨_,bZ _ Z,Z,Z⟩,fun b hb=>?_,q⟩;have e:b=s1.heap.objs.size:=by simpa using hb
 subst e;exact I1.BO (aH _) (I1.hok.fresh (aH _))
theorem L5 {l:Expr}{tl:TE}(hl:PE X l tl):PI X tg l (Wa X.K tl):=by
 intro pins s σ H R I h;refine mQ (hl pins s σ H _ I h) fun v s1 ⟨x,H1,I1,r1,q1⟩=>?_;obtain⟨a,e,⟨xs,hq⟩,q⟩:=q1;subst e;cases r1;obtain⟨its,rv,p,hz⟩:=I1.tuple hq;refine wpAny_pyIter_tuple (show s1.heap.IsTuple a its.toArray from p) ?_;refine⟨s1.heap.objs.size,[s1.heap.objs.size],_,_,H1,Z,I1.kept (t':=s1.toks) fun b o e=>aQ _ e,CT a _,⟨_,bZ _ Z,Z,Z⟩,fun b hb=>?_,q⟩;have e:b=s1.heap.objs.size:=by simpa using hb
 subst e;exact I1.BO (aH _) (I1.hok.fresh (aH _))
theorem A9 {σ:St}{H:Hp}{R:It->Hp->Prop}{E:Value->Shared->Prop}{lo hi:Int}{t u v:Tok}{tk:Nat}(I:Inv X pins σ H s)(h1:-(2^62)<=lo)(h2:lo<2^62)(h3:-(2^62)<=hi)(h4:hi<2^62)
 (q:R (B9 lo (hi-lo).toNat) H):wpAny (model X.prog X.w) X.A (pyIter (.ref s.heap.objs.size)) (Zj X pins σ tg R) E { s with heap:=s.heap.push { cls:=.type "range",data:=.fields #[.int lo t,.int hi u,.int 1 v] },toks:=tk }:=by
  refine wpAny_pyIter_range (jD ..) (small_one h1 h2 h3 h4) ?_;have I1:Inv X pins σ H { s with heap:=s.heap.push { cls:=.type "range",data:=.fields #[.int lo t,.int hi u,.int 1 v] },toks:=tk }:=I.kept fun b o e=>aQ _ e;refine⟨(s.heap.push { cls:=.type "range",data:=.fields #[.int lo t,.int hi u,.int 1 v] }).objs.size,[(s.heap.push { cls:=.type "range",data:=.fields #[.int lo t,.int hi u,.int 1 v] }).objs.size],_,_,H,Z,
    I1.kept (t':=tk) fun b o e=>aQ _ e,Ck _ lo (hi-lo).toNat,?_,fun b hb=>?_,q⟩
  · have e1:lo+((0:Nat):Int)*1=lo:=by simp
    have e2:(((hi-lo).toNat:Nat):Int)-((0:Nat):Int)=Builtin.Range.rangeSize lo hi 1:=by rw[rangeSize_one];split<;>omega
    show IsRangeIter _ _ (lo+((0:Nat):Int)*1) ((((hi-lo).toNat:Nat):Int)-((0:Nat):Int)) 1
    rw[e1,e2];exact bZ _ Z
  · have e:b=(s.heap.push { cls:=.type "range",data:=.fields #[.int lo t,.int hi u,.int 1 v] }).objs.size:=by simpa using hb
    subst e;exact I1.BO (aH _) (I1.hok.fresh (aH _))
def PY (ta:TA):TI:=fun σ H R=>ta σ H fun vs H1=>∃j:Int,vs=[.int j]/\-(2^62)<=j/\j<2^62/\R (B9 0 j.toNat) H1
def OJ (ta:TA):TI:=fun σ H R=>ta σ H fun vs H1=>∃i j:Int,vs=[.int i,.int j]/\(-(2^62)<=i/\i<2^62/\-(2^62)<=j/\j<2^62)/\R (B9 i (j-i).toNat) H1
theorem mC {a:Expr}{ta:TA}{p pos:Pos}(hg:Gl X "range")(hm:X.mg "range"=none)(ha:PA X [a] ta)(hs:starEach [a] X.env=[(false,eval a X.env)]:=by rfl):PI X tg (.Call (.Name "range" p) [a] [] pos) (PY ta):=by
 intro pins s σ H R I h;refine Call_ (pV I hg hm boot_range (cG (mQ (ha pos pins s σ H _ I h) fun us s1 ⟨vs,H1,I1,r1,q1⟩=>?_) hs Z));obtain⟨j,e,q1,q2,q⟩:=q1;subst e;cases r1 with
 | cons r rr =>
  cases rr;obtain⟨t,rfl⟩:=r;exact call_range_1 (A9 I1 jJ jJ q1 q2 (by simpa using q))
theorem Ey {a b:Expr}{ta:TA}{p pos:Pos}(hg:Gl X "range")(hm:X.mg "range"=none)(ha:PA X [a,b] ta)(hs:starEach [a,b] X.env=[(false,eval a X.env),(false,eval b X.env)]:=by rfl)(hs2:starEach [b] X.env=[(false,eval b X.env)]:=by rfl) :
  PI X tg (.Call (.Name "range" p) [a,b] [] pos) (OJ ta):=by
 intro pins s σ H R I h;refine Call_ (pV I hg hm boot_range (cG (mQ (ha pos pins s σ H _ I h) fun us s1 ⟨vs,H1,I1,r1,q1⟩=>?_) (by rw[hs,hs2]) (by rw[hs2];rfl)));obtain⟨i,j,e,⟨q1,q2,q3,q4⟩,q⟩:=q1;subst e;cases r1 with
 | cons r rr =>
  cases rr with
  | cons r' rr =>
   cases rr;obtain⟨t,rfl⟩:=r;obtain⟨t',rfl⟩:=r';exact call_range_2 (A9 I1 q1 q2 q3 q4 q)
def UW (wi:TI)(g:TG)(tb:TS):TS:=fun D σ H=>wi σ H fun zgR H1=>∃W:Nat->Nat->St->Hp->Prop,(∃m,W 0 m σ H1)/\∀i m σ H,W i m σ H ->
 (zgR.stop i H/\D.nx σ H)\/(zgR.go i H/\∃N:St->Hp->Prop,(∀lh H',N lh H'->∃m',m'<m/\W (i+1) m' lh H')/\∀x H',zgR.yld i H x H'->g x σ H' fun mU H2=>tb { D with nx:=N,ct:=N,bk:=D.nx } mU H2)
def wO (fp:List Addr)(h:Heap):List (Addr×Obj):=fp.filterMap fun b=>(h.get? b).map fun o=>(b,o)
theorem tI {h:Heap}{b:Addr}{o:Obj}(hb:b∈fp)(e:h.get? b=some o):(b,o)∈wO fp h:=List.mem_filterMap.mpr ⟨b,hb,by rw[e];rfl⟩
theorem Ev {h:Heap}{p:Addr×Obj}(hp:p∈wO fp h):p.1∈fp/\h.get? p.1=some p.2:=by
 obtain⟨b,hb,e⟩:=List.mem_filterMap.mp hp;cases q:h.get? b with
 | none=>rw[q] at e;cases e
 | some o =>
  rw[q] at e;have e':(b,o)=p:=bK e;subst e';exact⟨hb,q⟩
theorem Inv.pinned {σ:St}{H:Hp}(I:Inv X pins σ H s)(hf:∀b∈fp,zG X pins H b)(ho:∀b∈fp,∃o,s.heap.get? b=some o/\∀v,o.data≠.cell v):Inv X (pins++wO fp s.heap) σ H s :=
 I.ug fun p hp=>(gH.mp hp).elim (fun z=>I.pin p (bu _ z)) fun z=>by
  obtain⟨hb,e⟩:=Ev z;obtain⟨f0,f1,f2,_⟩:=hf p.1 hb;obtain⟨o,e',d⟩:=ho p.1 hb;rw[e] at e';cases e';exact⟨e,f0,f1,f2,d⟩
theorem Inv.wo {pl:List (Addr×Obj)}{σ:St}{H:Hp}(I:Inv X (pins++pl) σ H s):Inv X pins σ H s:=I.ug fun p hp=>I.pin p (bu _ (cN _ hp))
theorem kZ {iter:Expr}{body:List Stmt}{wi:TI}{g:TG}{tb:TS}{pos:Pos}(hp:PassesOwn (model X.prog X.w) X.A X.env X.xe)(hc:X.calm=true)(hi:PI X tg iter wi)(hg:PG X tg g)(hb:yp X body tb)
 (hs:∀x,foldedSetIterable iter X.env x=pure x:=by intro _;rfl):PS X (.For tg iter body [] pos) (UW wi g tb):=by
  intro pins s σ H D I h;refine wpAny_For (mQ (hi pins s σ H _ I h) fun v s1 h1=>mQ h1 fun Li s2 h2=>?_) hs;obtain⟨it,fp,tn,zgR,H2,e,I2,T,Lj,f2,W,⟨m0,w0⟩,turn⟩:=h2;subst e
  -- what stays true of the No objects through the loop
  have Np:∀{H':Hp},(∀b∈fp,H' b=none)->∀b∈fp,zG X pins H' b:=fun hn b hb=>⟨hn b hb,(f2 b hb).2⟩;refine codeAny_forLoop_any (fun n s'=>∃i lh H',Inv X pins lh H' s'/\tn i s'.heap/\(∀b∈fp,H' b=none)/\W i n lh H') ?_ m0 ⟨0,σ,H2,I2,Lj,fun b hb=>(f2 b hb).1,w0⟩;rintro n s3 ⟨i,Ii,H3,I3,Qz,QA,w3⟩;rcases turn i n Ii H3 w3 with ⟨stop,qn⟩ | ⟨go,N,hN,step⟩
  · refine eY hp (mQ (T.done X Z Z Z hc i pins s3 Ii H3 X.xe I3 (Np QA) Qz stop) fun r s4 ⟨hr,I4⟩=>?_)
    subst hr;exact gY ⟨Ii,H3,I4,qn⟩
  · refine eY hp (mQ (T.item X Z Z Z hc i pins s3 Ii H3 X.xe I3 (Np QA) Qz go) fun r s4 ⟨u,hr,h4⟩=>?_)
    subst hr;refine eY hp (mQ h4 fun _ s5 ⟨x,H5,I5,r5,y5,Kg,Xl⟩=>?_);have Xm:=I5.pinned (Np Xl) (T.obj _ _ Kg);refine eY hp (mQ (hg _ s5 Ii H5 x u _ Xm r5 (step x H5 y5)) fun _ s6 ⟨Ob,H6,I6,q6⟩=>?_);refine eY hp (mQ (hb _ s6 Ob H6 _ I6 q6) fun f s7 q7=>?_);have again:∀{Ij:St}{H7:Hp},Inv X (pins++wO fp s5.heap) Ij H7 s7->N Ij H7->∃m,m<n/\∃i lh H',Inv X pins lh H' s7/\tn i s7.heap/\(∀b∈fp,H' b=none)/\W i m lh H':=fun {Ij H7} I7 n7=>by
      obtain⟨m',hm,w7⟩:=hN Ij H7 n7;refine⟨m',hm,i+1,Ij,H7,I7.wo,T.keep _ _ _ Kg fun b hb o e=>(I7.pin (b,o) (bu _ (bu _ (tI hb e)))).1,fun b hb=>?_,w7⟩;obtain⟨o,e,d⟩:=T.obj _ _ Kg b hb;exact(I7.pin (b,o) (bu _ (bu _ (tI hb e)))).2.1
    cases f with
    | next=>obtain⟨Ij,H7,I7,n7⟩:=q7;exact again I7 n7
    | cont=>obtain⟨Ij,H7,I7,n7⟩:=q7;exact again I7 n7
    | brk=>obtain⟨Ij,H7,I7,q7⟩:=q7;exact⟨Ij,H7,I7.wo,q7⟩
    | ret v=>obtain⟨x7,Ij,H7,I7,r7,q7⟩:=q7;exact⟨x7,Ij,H7,I7.wo,r7,q7⟩
end
theorem mI {K:PySem.W.Frag}{a:Addr}{xs:List V}{g:TG}{tb:TS}{D:Ends}{σ:St}{H:Hp}(Pv:Nat->St->Hp->Prop)(h0:Pv 0 σ H)(hl:∀i σ H,i<=xs.length->Pv i σ H->j6 K H a xs)
  (hs:∀i x σ H,xs[i]?=some x->Pv i σ H->g x σ H fun mU H2=>tb { D with nx:=Pv (i+1),ct:=Pv (i+1),bk:=D.nx } mU H2)(hd:∀σ H,Pv xs.length σ H->D.nx σ H) :
  ∃W:Nat->Nat->St->Hp->Prop,(∃m,W 0 m σ H)/\∀i m σ H,W i m σ H ->
   ((JA K a).stop i H/\D.nx σ H)\/((JA K a).go i H/\∃N:St->Hp->Prop,(∀lh H',N lh H'->∃m',m'<m/\W (i+1) m' lh H')/\∀x H',(JA K a).yld i H x H'->g x σ H' fun mU H2=>tb { D with nx:=N,ct:=N,bk:=D.nx } mU H2):=by
 refine⟨fun i m σ H=>m=xs.length-i/\i<=xs.length/\Pv i σ H,⟨xs.length,jH,Nat.zero_le _,h0⟩,?_⟩;rintro i m σ H ⟨rfl,hi,p⟩;have q:=hl i σ H hi p
 by_cases pM:i<xs.length
 .refine .inr ⟨⟨xs,xs[i],q,by simp[pM]⟩,Pv (i+1),fun lh H' p'=>⟨xs.length-(i+1),jJ,Z,pM,p'⟩,fun x H' y=>?_⟩;obtain⟨e,y⟩:=y;subst e;exact hs i x σ _ (y xs q) p
 .have e:i=xs.length:=jJ;subst e;exact .inl ⟨⟨xs,q,aH _⟩,hd σ H p⟩
theorem EN {lo:Int}{n:Nat}{g:TG}{tb:TS}{D:Ends}{σ:St}{H:Hp}(Pv:Nat->St->Hp->Prop)(h0:Pv 0 σ H)
  (hs:∀i σ H,i<n->Pv i σ H->g (.int (lo+i)) σ H fun mU H2=>tb { D with nx:=Pv (i+1),ct:=Pv (i+1),bk:=D.nx } mU H2)(hd:∀σ H,Pv n σ H->D.nx σ H) :
  ∃W:Nat->Nat->St->Hp->Prop,(∃m,W 0 m σ H)/\∀i m σ H,W i m σ H ->
   ((B9 lo n).stop i H/\D.nx σ H)\/((B9 lo n).go i H/\∃N:St->Hp->Prop,(∀lh H',N lh H'->∃m',m'<m/\W (i+1) m' lh H')/\∀x H',(B9 lo n).yld i H x H'->g x σ H' fun mU H2=>tb { D with nx:=N,ct:=N,bk:=D.nx } mU H2):=by
 refine⟨fun i m σ H=>m=n-i/\i<=n/\Pv i σ H,⟨n,jH,Nat.zero_le _,h0⟩,?_⟩;rintro i m σ H ⟨rfl,hi,p⟩
 by_cases pM:i<n
 .refine .inr ⟨pM,Pv (i+1),fun lh H' p'=>⟨n-(i+1),jJ,Z,pM,p'⟩,fun x H' y=>?_⟩;obtain⟨e,y⟩:=y;subst e y;exact hs i σ _ pM p
 .have e:i=n:=jJ;subst e;exact .inl ⟨aH _,hd σ H p⟩
abbrev R2:=V->V->Hp->VK->Prop
def vg (X:Cx)(f:Value->Value->Sem Value)(r:R2):Prop :=
 ∀(pins:List (Addr×Obj))(s:Shared)(σ:St)(H:Hp)(x y:V)(v u:Value)(Q:VK),Inv X pins σ H s->RelV x v->RelV y u->r x y H Q ->
  wpAny (model X.prog X.w) X.A (f v u) (EP X pins σ Q) X.xe s
def VG (X:Cx)(f:Value->Sem Value)(r:V->Hp->VK->Prop):Prop :=
 ∀(pins:List (Addr×Obj))(s:Shared)(σ:St)(H:Hp)(x:V)(v:Value)(Q:VK),Inv X pins σ H s->RelV x v->r x H Q ->
  wpAny (model X.prog X.w) X.A (f v) (EP X pins σ Q) X.xe s
def rz (X:Cx)(f:Value)(r:List V->Hp->VK->Prop):Prop :=
 ∀(pins:List (Addr×Obj))(s:Shared)(σ:St)(H:Hp)(xs:List V)(us:List Value)(Q:VK),Inv X pins σ H s->Vals xs us->r xs H Q ->
  wpAny (model X.prog X.w) X.A (call f us) (EP X pins σ Q) X.xe s
def N0 (r:R2)(ta tb:TE):TE:=fun σ H Q=>ta σ H fun x H1=>tb σ H1 fun y H2=>r x y H2 Q
def tUn (r:V->Hp->VK->Prop)(ta:TE):TE:=fun σ H Q=>ta σ H fun x H1=>r x H1 Q
def rI (C:Int->Int->Prop)(g:Int->Int->V):R2:=fun x y H Q=>∃i j,x=.int i/\y=.int j/\C i j/\Q (g i j) H
def KJ (g:Int->Int->V):R2:=fun x y H Q=>∃i j,x=.int i/\y=.int j/\Q (g i j) H
def rU (g:Int->V):V->Hp->VK->Prop:=fun x H Q=>∃i,x=.int i/\Q (g i) H
section
variable {f:Value->Value->Sem Value}{g:Int->Int->Int}
variable {X:Cx}{a b:Expr}{ta tb:TE}{pos:Pos}
theorem MJ (ha:PE X a ta)(hb:PE X b tb){pins:List (Addr×Obj)}{s:Shared}{σ:St}{H:Hp}{R:V->V->Hp->Prop}(I:Inv X pins σ H s)
 (h:ta σ H fun x H1=>tb σ H1 fun y H2=>R x y H2){Q:Value->Shared->Prop}
 (hf:∀v u s2 x y H2,Inv X pins σ H2 s2->RelV x v->RelV y u->R x y H2->wpAny (model X.prog X.w) X.A (f v u) Q X.xe s2) :
    wpAny (model X.prog X.w) X.A (eval a X.env) (fun v s₁=>wpAny (model X.prog X.w) X.A (eval b X.env) (fun u Xo=>wpAny (model X.prog X.w) X.A (f v u) Q X.xe Xo) X.xe s₁) X.xe s:=by
  refine mQ (ha pins s σ H _ I h) fun v s1 ⟨x,H1,I1,r1,q1⟩=>?_;refine mQ (hb pins s1 σ H1 _ I1 q1) fun u s2 ⟨y,H2,I2,r2,q2⟩=>?_;exact hf v u s2 x y H2 I2 r1 r2 q2
theorem jV {op:Operator}{r:R2}(ho:vg X (binaryOp op) r)(ha:PE X a ta)(hb:PE X b tb):PE X (.BinOp a op b pos) (N0 r ta tb):=by
 intro pins s σ H Q I h;exact wpAny_BinOp (MJ ha hb I h fun v u s2 x y H2 I2 rx ry q=>ho pins s2 σ H2 x y v u Q I2 rx ry q)
theorem rM {op:UnaryOp}{r:V->Hp->VK->Prop}(ho:VG X (unaryOp op) r)(ha:PE X a ta):PE X (.UnaryOp op a pos) (tUn r ta):=by
 intro pins s σ H Q I h;exact UnaryOp_ (mQ (ha pins s σ H _ I h) fun v s1 ⟨x,H1,I1,r1,q1⟩=>ho pins s1 σ H1 x v Q I1 r1 q1)
theorem PH {C:Int->Int->Prop}
 (rule:∀(i j:Int)(t u:Tok)(s:Shared)(Q:Value->Shared->Prop)(E:Value->Shared->Prop),C i j->Q (.int (g i j) s.toks) { s with toks:=s.toks+1 }->wpAny (model X.prog X.w) X.A (f (.int i t) (.int j u)) Q E s) :
    vg X f (rI C fun i j=>.int (g i j)):=by
  intro pins s σ H x y v u Q I rx ry h;obtain⟨i,j,rfl,rfl,hc,q⟩:=h;obtain⟨t,rfl⟩:=rx;obtain⟨t',rfl⟩:=ry;exact rule i j t t' s _ _ hc ⟨.int (g i j),H,I.tok _,⟨_,Z⟩,q⟩
theorem OF
 (rule:∀(i j:Int)(t u:Tok)(s:Shared)(Q:Value->Shared->Prop)(E:Value->Shared->Prop),Q (.int (g i j) s.toks) { s with toks:=s.toks+1 }->wpAny (model X.prog X.w) X.A (f (.int i t) (.int j u)) Q E s) :
    vg X f (KJ fun i j=>.int (g i j)):=by
  intro pins s σ H x y v u Q I rx ry h;obtain⟨i,j,rfl,rfl,q⟩:=h;obtain⟨t,rfl⟩:=rx;obtain⟨t',rfl⟩:=ry;exact rule i j t t' s _ _ ⟨.int (g i j),H,I.tok _,⟨_,Z⟩,q⟩
theorem Jg {g:Int->Int->Bool}
 (rule:∀(i j:Int)(t u:Tok)(s:Shared)(Q:Value->Shared->Prop)(E:Value->Shared->Prop),Q (.bool (g i j)) s->wpAny (model X.prog X.w) X.A (f (.int i t) (.int j u)) Q E s) :
    vg X f (KJ fun i j=>.bl (g i j)):=by
  intro pins s σ H x y v u Q I rx ry h;obtain⟨i,j,rfl,rfl,q⟩:=h;obtain⟨t,rfl⟩:=rx;obtain⟨t',rfl⟩:=ry;exact rule i j t t' s _ _ ⟨.bl (g i j),H,I,Z,q⟩
def VU (i j:Int):Prop:=0<=j/\j<=1000000/\i.natAbs<2^64
def PD (i j:Int):Prop:=(-(2^64)<i/\i<2^64)\/(-(2^64)<j/\j<2^64)
theorem PD.ok {i j:Int}(h:PD i j):IntMulOk i j:=by
 rcases h with ⟨h1,h2⟩ | ⟨h1,h2⟩
 .exact .of_left (fi h1 h2)
 .exact .of_right (fi h1 h2)
theorem By (k:Nat):(0:Int)<=2^k:=by
 rw[two_pow_cast];exact ja _
theorem kM:vg X (binaryOp .Add) (KJ fun i j=>.int (i+j)):=OF fun _ _ _ _ _ _ _ q=>add_int q
theorem mw:vg X (binaryOp .Sub) (KJ fun i j=>.int (i-j)):=OF fun _ _ _ _ _ _ _ q=>sub_int q
theorem kJ:vg X (binaryOp .Mod) (rI (fun _ j=>0<j) fun i j=>.int (i%j)):=PH fun i j _ _ _ _ _ hc q=>by
 have h1:(0:Int)<j:=hc;exact mod_int' jJ (by rw[cX i jJ];exact q)
theorem qU:vg X (binaryOp .Pow) (rI VU fun i j=>.int (i^j.toNat)):=PH fun _ _ _ _ _ _ _ hc q=>pow_int_small hc.1 hc.2.1 hc.2.2 q
theorem GG:vg X (binaryOp .RShift) (rI (fun _ j=>0<=j) fun i j=>.int (i/2^j.toNat)):=PH fun i j _ _ _ _ _ hc q =>
 rshift_int hc (by rw[d4 i (By _)];exact q)
theorem unI {f:Value->Sem Value}{g:Int->Int}
 (rule:∀(i:Int)(t:Tok)(s:Shared)(Q:Value->Shared->Prop)(E:Value->Shared->Prop),Q (.int (g i) s.toks) { s with toks:=s.toks+1 }->wpAny (model X.prog X.w) X.A (f (.int i t)) Q E s) :
    VG X f (rU fun i=>.int (g i)):=by
  intro pins s σ H x v Q I rx h;obtain⟨i,rfl,q⟩:=h;obtain⟨t,rfl⟩:=rx;exact rule i t s _ _ ⟨.int (g i),H,I.tok _,⟨_,Z⟩,q⟩
theorem pf:VG X (unaryOp .USub) (rU fun i=>.int (-i)):=unI fun _ _ _ _ _ q=>neg_int q
end
def O7:V->V->Bool
 | .non,.non=>true | .non,.int _=>true | .int _,.non=>true | .non,.bl _=>true | .bl _,.non=>true | .non,.str _=>true | .str _,.non=>true
 | .int _,.int _=>true | .bl _,.bl _=>true | .str _,.str _=>true | .byt _,.byt _=>true
 | .int _,.str _=>true | .str _,.int _=>true | .bl _,.str _=>true | .str _,.bl _=>true
 | _,_=>false
def rEq:R2:=fun x y H Q=>O7 x y=true/\Q (.bl (decide (x=y))) H
def rNe:R2:=fun x y H Q=>O7 x y=true/\Q (.bl (!decide (x=y))) H
theorem Dm {i j:Int}:decide (V.int i=V.int j)=(i == j):=by
 rw[eQ];simp
theorem GP {i j:Bool}:decide (V.bl i=V.bl j)=(i == j):=by
 rw[eQ];simp
theorem Ds {i j:Str}:decide (V.str i=V.str j)=(i == j):=by
 rw[eQ];simp
theorem Do {i j:Array UInt8}:decide (V.byt i=V.byt j)=(i.toList == j.toList):=by
 rw[eQ];cases i;cases j;simp
section
variable {X:Cx}{a b c:Expr}{ta tb:TE}{pos:Pos}
theorem kX {pins:List (Addr×Obj)}{σ:St}{H:Hp}{s:Shared}{Q:VK}{k k':Bool}(I:Inv X pins σ H s)(q:Q (.bl k) H)(e:k=k'):EP X pins σ Q (.bool k') s:=by
 subst e;exact⟨.bl k,H,I,Z,q⟩
theorem nS:vg X (compareOp .Eq) rEq:=by
 intro pins s σ H x y v u Q I rx ry h;obtain⟨hs,q⟩:=h;cases x with
 | non =>
  cases rx;cases y with
  | non=>cases ry;exact PySem.EqNone.eq_none_none (kX I q jH)
  | bl j=>cases ry;exact PySem.EqNone.eq_none_bool (kX I q jH)
  | int j=>obtain⟨t',rfl⟩:=ry;exact PySem.EqNone.eq_none_int (kX I q jH)
  | str j=>obtain⟨t',rfl⟩:=ry;exact PySem.EqNone.eq_none_str (kX I q jH)
  | _=>exact absurd (show false=true from hs) bi
 | bl i =>
  cases rx;cases y with
  | non=>cases ry;exact PySem.EqNone.eq_bool_none (kX I q jH)
  | bl j=>cases ry;exact eq_bool (kX I q GP)
  | str j=>obtain⟨t',rfl⟩:=ry;exact PySem.EqMixed.eq_bool_str (kX I q jH)
  | _=>exact absurd (show false=true from hs) bi
 | int i =>
  obtain⟨t,rfl⟩:=rx;cases y with
  | non=>cases ry;exact PySem.EqNone.eq_int_none (kX I q jH)
  | int j=>obtain⟨t',rfl⟩:=ry;exact eq_int (kX I q Dm)
  | str j=>obtain⟨t',rfl⟩:=ry;exact PySem.EqMixed.eq_int_str (kX I q jH)
  | _=>exact absurd (show false=true from hs) bi
 | str i =>
  obtain⟨t,rfl⟩:=rx;cases y with
  | non=>cases ry;exact PySem.EqNone.eq_str_none (kX I q jH)
  | bl j=>cases ry;exact PySem.EqMixed.eq_str_bool (kX I q jH)
  | int j=>obtain⟨t',rfl⟩:=ry;exact PySem.EqMixed.eq_str_int (kX I q jH)
  | str j=>obtain⟨t',rfl⟩:=ry;exact eq_str (kX I q Ds)
  | _=>exact absurd (show false=true from hs) bi
 | byt i =>
  obtain⟨t,rfl⟩:=rx;cases y with
  | byt j=>obtain⟨t',rfl⟩:=ry;exact PySem.W.eq_bytes (kX I q Do)
  | _=>exact absurd (show false=true from hs) bi
 | _=>cases y<;>exact absurd (show false=true from hs) Bool.false_ne_true
theorem ox:vg X (compareOp .NotEq) rNe:=by
 intro pins s σ H x y v u Q I rx ry h;obtain⟨hs,q⟩:=h;cases x with
 | non =>
  cases rx;cases y with
  | non=>cases ry;exact PySem.EqNone.ne_none_none (kX I q jH)
  | bl j=>cases ry;exact PySem.EqNone.ne_none_bool (kX I q jH)
  | int j=>obtain⟨t',rfl⟩:=ry;exact PySem.EqNone.ne_none_int (kX I q jH)
  | str j=>obtain⟨t',rfl⟩:=ry;exact PySem.EqNone.ne_none_str (kX I q jH)
  | _=>exact absurd (show false=true from hs) bi
 | bl i =>
  cases rx;cases y with
  | non=>cases ry;exact PySem.EqNone.ne_bool_none (kX I q jH)
  | bl j=>cases ry;exact ne_bool (kX I q (congrArg not GP))
  | str j=>obtain⟨t',rfl⟩:=ry;exact PySem.EqMixed.ne_bool_str (kX I q jH)
  | _=>exact absurd (show false=true from hs) bi
 | int i =>
  obtain⟨t,rfl⟩:=rx;cases y with
  | non=>cases ry;exact PySem.EqNone.ne_int_none (kX I q jH)
  | int j=>obtain⟨t',rfl⟩:=ry;exact ne_int (kX I q (congrArg not Dm))
  | str j=>obtain⟨t',rfl⟩:=ry;exact PySem.EqMixed.ne_int_str (kX I q jH)
  | _=>exact absurd (show false=true from hs) bi
 | str i =>
  obtain⟨t,rfl⟩:=rx;cases y with
  | non=>cases ry;exact PySem.EqNone.ne_str_none (kX I q jH)
  | bl j=>cases ry;exact PySem.EqMixed.ne_str_bool (kX I q jH)
  | int j=>obtain⟨t',rfl⟩:=ry;exact PySem.EqMixed.ne_str_int (kX I q jH)
  | str j=>obtain⟨t',rfl⟩:=ry;exact ne_str (kX I q (congrArg not Ds))
  | _=>exact absurd (show false=true from hs) bi
 | byt i =>
  obtain⟨t,rfl⟩:=rx;cases y with
  | byt j=>obtain⟨t',rfl⟩:=ry;exact PySem.W.ne_bytes (kX I q (congrArg not Do))
  | _=>exact absurd (show false=true from hs) bi
 | _=>cases y<;>exact absurd (show false=true from hs) Bool.false_ne_true
theorem Dt:vg X (compareOp .Lt) (KJ fun i j=>.bl (decide (i<j))):=Jg fun _ _ _ _ _ _ _ q=>lt_int q
theorem Dy:vg X (compareOp .LtE) (KJ fun i j=>.bl (decide (i<=j))):=Jg fun _ _ _ _ _ _ _ q=>le_int q
theorem t7:vg X (compareOp .Gt) (KJ fun i j=>.bl (decide (j<i))):=Jg fun _ _ _ _ _ _ _ q=>gt_int q
theorem K2:vg X (compareOp .GtE) (KJ fun i j=>.bl (decide (j<=i))):=Jg fun _ _ _ _ _ _ _ q=>ge_int q
theorem zO:vg X (compareOp .Is) (fun x y H Q=>y=.non/\Q (.bl (decide (x=.non))) H):=by
 intro pins s σ H x y v u Q I rx ry h;obtain⟨rfl,q⟩:=h;cases ry;refine is_none_gen (kX I q ?_);cases x<;>first
  | (cases rx;rfl)
  | (obtain⟨t,rfl⟩:=rx;rfl)
theorem Ka:vg X (compareOp .IsNot) (fun x y H Q=>y=.non/\Q (.bl (!decide (x=.non))) H):=by
 intro pins s σ H x y v u Q I rx ry h;obtain⟨rfl,q⟩:=h;cases ry;refine isnot_none_gen (kX I q ?_);cases x<;>first
  | (cases rx;rfl)
  | (obtain⟨t,rfl⟩:=rx;rfl)
theorem pJ (b:Expr){op:CmpOp}(h:op≠.In:=by decide)(h2:op≠.NotIn:=by decide):behindInMarks op b=false:=by
 have e1:(op == CmpOp.In)=false:=by cases op<;>first | rfl | exact absurd Z h
 have e2:(op == CmpOp.NotIn)=false:=by cases op<;>first | rfl | exact absurd Z h2
 cases b<;>simp[behindInMarks,e1,e2]
theorem ol {op:CmpOp}{r:R2}(ho:vg X (compareOp op) r)(ha:PE X a ta)(hb:PE X b tb)(hm:behindInMarks op b=false):PE X (.Compare a [op] [b] pos) (N0 r ta tb):=by
 intro pins s σ H Q I h;exact wpAny_Compare1 (MJ ha hb I h fun v u s2 x y H2 I2 rx ry q=>ho pins s2 σ H2 x y v u Q I2 rx ry q) hm
def K8 (t:TE):TT:=fun σ H Q=>t σ H fun x H'=>∃k,x=.bl k/\Q k H'
theorem DU {op:CmpOp}{r:R2}(ho:vg X (compareOp op) r)(ha:PE X a ta)(hb:PE X b tb)(hm:behindInMarks op b=false):PT X (.Compare a [op] [b] pos) (K8 (N0 r ta tb)):=by
 intro pins s σ H Q I h;refine wpAny_isTrue_Compare1 (mQ (ha pins s σ H _ I h) fun v s1 ⟨x,H1,I1,r1,q1⟩=>mQ (hb pins s1 σ H1 _ I1 q1) fun u s2 ⟨y,H2,I2,r2,q2⟩ =>
  mQ (ho pins s2 σ H2 x y v u _ I2 r1 r2 q2) fun c s3 ⟨z,H3,I3,r3,k,e,q3⟩=>?_) hm
 subst e;cases r3;exact fW ⟨H3,I3,q3⟩
theorem Ag:(sizeLine:Nat)<2^63:=by rw[sizeLine_eq];decide
theorem vals1 {x:V}{us:List Value}(r:Vals [x] us):∃u,us=[u]/\RelV x u:=by
 cases r with
 | cons r1 r2=>cases r2;exact⟨_,Z,r1⟩
theorem vals2 {x y:V}{us:List Value}(r:Vals [x,y] us):∃u w',us=[u,w']/\RelV x u/\RelV y w':=by
 cases r with
 | cons r1 r2 =>
  cases r2 with
  | cons r3 r4=>cases r4;exact⟨_,_,Z,r1,r3⟩
theorem px:rz X (.builtin "abs") (fun xs H Q=>∃i,xs=[.int i]/\Q (.int (if i<0 then -i else i)) H):=by
 intro pins s σ H xs us Q I r h;obtain⟨i,rfl,q⟩:=h;obtain⟨u,rfl,t,rfl⟩:=vals1 r;exact call_abs_int fun u tk=>⟨.int (if i<0 then -i else i),H,I.tok _,⟨_,Z⟩,q⟩
theorem yE (hc:X.calm=true):rz X (.builtin "max") (fun xs H Q=>∃i j,xs=[.int i,.int j]/\Q (.int (if j > i then j else i)) H):=by
 intro pins s σ H xs us Q I r h;obtain⟨i,j,rfl,q⟩:=h;obtain⟨u,w',rfl,⟨t,rfl⟩,⟨t',rfl⟩⟩:=vals2 r;refine max_two_ints (I.ok.hd hc) fun h' tk k=>⟨_,H,I.kept k,?_,q⟩
 by_cases hj:j > i
 .rw[aD hj,aD hj];exact⟨_,Z⟩
 .rw[ao hj,ao hj];exact⟨_,Z⟩
theorem yD (hc:X.calm=true):rz X (.builtin "min") (fun xs H Q=>∃i j,xs=[.int i,.int j]/\Q (.int (if j<i then j else i)) H):=by
 intro pins s σ H xs us Q I r h;obtain⟨i,j,rfl,q⟩:=h;obtain⟨u,w',rfl,⟨t,rfl⟩,⟨t',rfl⟩⟩:=vals2 r;refine min_two_ints (I.ok.hd hc) fun h' tk k=>⟨_,H,I.kept k,?_,q⟩
 by_cases hj:j<i
 .rw[aD hj,aD hj];exact⟨_,Z⟩
 .rw[ao hj,ao hj];exact⟨_,Z⟩
end
structure BI (h:Heap)(x dx C:Addr)(mA:Str->Option Value):Prop where
 obj:h.get? x=some (PySem.W.instObj C dx)
 ns:h.Ns1 dx mA
 ne:dx≠x
theorem EE {h:Heap}{dx:Addr}{mA:Str->Option Value}(n:h.Ns1 dx mA):∃od,h.get? dx=some od/\∀name,PySem.W.lookIn name od=some (mA name):=by
 obtain⟨o,es,ep,ho,hd,hk,_,hm⟩:=n;refine⟨o,ho,fun name=>?_⟩;have e:=hm name;unfold nsFind findBy at e;rw[<-Array.find?_toList] at e;unfold PySem.W.lookIn;rw[hd];dsimp only;split
 .rename_i y q;rw[q] at e;exact cQ some e
 .rename_i q;rw[q] at e;have a:es.toList.any (·.refKey)=false:=by
   rw[List.any_eq_false];intro y hy;obtain⟨z,t,Xp⟩:=hk y (Array.mem_toList_iff.mp hy);simp[DictEntry.refKey,Xp]
  have a':¬es.toList.any (·.refKey)=true:=by rw[a];exact bi
  rw[ao a'];exact cQ some e
theorem BI.look {h:Heap}{x dx C:Addr}{mA:Str->Option Value}(I:BI h x dx C mA):∃od,PySem.W.InstAt h x (PySem.W.instObj C dx) C (some od)/\∀name,PySem.W.lookIn name od=some (mA name) :=
 let ⟨od,ho,hl⟩:=EE I.ns
 ⟨od,⟨I.obj,Z,Z,ho⟩,hl⟩
section
variable {prog:Program}{w:World}{A:Around}{E:Value->Shared->Prop}{s:Shared}{K:PySem.W.Frag}{x dx C f:Addr}{mA:Str->Option Value}{name:Str}{v:Value}
theorem get_map {expr:Bool}{Q:Value->Shared->Prop}(X:K.In s.heap)(I:BI s.heap x dx C mA)(hg:PySem.W.plainGet K C name=true)(hh:PySem.W.hasDictIn K C=true)
  (ha:PySem.W.findIn K (.ref C) name=some none)(hv:mA name=some v)(hv':PySem.W.handedIn v=true)(h:Q v { s with toks:=s.toks+1 }) :
  wpAny (model prog w) A (getAttr (.ref x) name expr) Q E s:=by
 obtain⟨od,zgR,hl⟩:=I.look;exact PySem.W.get_value X zgR (gU hg).1 (PySem.W.findObj_own hh ha Z (by rw[hl,hv])) hv' h
theorem GY {pl:Sem Bool}{Q:Value×List Value->Shared->Prop}(X:K.In s.heap)(I:BI s.heap x dx C mA)(hg:PySem.W.plainGet K C name=true)
  (hf:PySem.W.findIn K (.ref C) name=some (some (.ref f)))(ht:PySem.W.isFn K (.ref f)=true)(hv:mA name=none)(h:Q (.ref f,[.ref x]) s) :
  wpAny (model prog w) A (getMethod (.ref x) name pl) Q E s:=by
 obtain⟨od,zgR,hl⟩:=I.look;exact PySem.W.method_fn X zgR (gU hg).1 (gU hg).2 hf (gZ.mp ht) (by show (PySem.W.lookIn name od).map (·.isSome)=some false;rw[hl,hv];rfl) h
theorem J0 {ns:List Str}{Q:Unit->Shared->Prop}(X:K.In s.heap)(I:BI s.heap x dx C mA)
  (hs:PySem.W.findIn K (.ref C) "__setattr__"=some (some (.builtin "object.__setattr__")))(hp:PySem.W.plainOver K C=true)(ht:PySem.W.takerIn K C name=some none)(hh:PySem.W.hasDictIn K C=true)
  (hw:PySem.Within mA ns)(hsz:ns.length<=sizeLine)
  (h:∀h',BI h' x dx C (fun y=>if y=name then some v else mA y)->Heap.SameBut dx s.heap h'->Q () { s with heap:=h',toks:=s.toks+2 }) :
  wpAny (model prog w) A (setAttr (.ref x) name v) Q E s:=by
 obtain⟨od,zgR,hl⟩:=I.look;refine PySem.W.set_plain X zgR hs (PySem.W.osa_open (s:={ s with toks:=s.toks+1 }) (r:=none) X zgR hp ht fun b=>?_);obtain⟨cd,hc,N8⟩:=PySem.W.any_some hh;have hx:s.heap.get? x=some ⟨.ref C,some dx,.plain,#[]⟩:=I.obj;refine cI (dM (cI (cI (wpAny_loadPart hx (cI (PySem.W.Looks.here (s:={ s with toks:=s.toks+1 }) (PySem.W.looks_clsIn X hc) ?_))))));rw[N8];refine dM (a:=some dx) (cI (dM (cI ?_)));refine wpAny_nsSet1 (s:={ s with toks:=s.toks+1 }) I.ns fun h' Sd hs2=>?_;obtain⟨oD,esD,epD,hoD,hdD,hcD⟩:=Sd.count (PySem.Within.cons name v hw);refine cI (wpAny_lookBehind hoD (by rw[hdD];exact pastItsLine_dict (bL hcD (by rw[bj];omega))) ?_);exact dM (h _ ⟨(hs2.2 _ (dj I.ne)).trans I.obj,Sd,I.ne⟩ hs2)
theorem FH {R:Result->Shared->Prop}{vs:List Value}{kw:List (Str×Value)}(X:K.In s.heap)(hm:PySem.W.makesIn K C=true)
  (hi:PySem.W.findIn K (.ref C) "__init__"=some (some (.ref f)))(hf:PySem.W.typeIn K (.ref f)=some (.type "function"))
  (h:codeAny (model prog w) (A.under (.builtin "type.__call__" ⟨.ref C::vs,kw⟩)) (.call (.ref f) ⟨.ref (s.heap.objs.size+1)::vs,kw⟩) (PySem.W.InitBack (s.heap.objs.size+1) R)
   { s with heap:=(s.heap.push PySem.W.emptyDict).push (PySem.W.instObj C s.heap.objs.size) }) :
  codeAny (model prog w) A (.call (.ref C) ⟨vs,kw⟩) R s:=by
 obtain⟨hh,g,d,t,os⟩:=s;exact PySem.W.make_core (PySem.W.makes_of X hm) (PySem.W.looks_findIn X hi) (fun self=>PySem.W.bind_fn X self hf) (.inl Z) h
end
def mW (f:Str)(v:V):List (Str×V)->List (Str×V)
 | []=>[(f,v)]
 | (g,x)::r=>if g=f then (g,v)::r else (g,x)::mW f v r
theorem jX (f g:Str)(v:V):∀fs:List (Str×V),(mW f v fs).lookup g=if g=f then some v else fs.lookup g
 | []=>by
  show List.lookup g [(f,v)]=_
  by_cases h:g=f
  .have hb:(g == f)=true:=gZ.mpr h;simp only[List.lookup,hb,if_pos h]
  .have hb:(g == f)=false:=f9.mpr h;simp only[List.lookup,hb,if_neg h]
 | (k,x)::r=>by
  have ih:=jX f g v r;rw[show mW f v ((k,x)::r)=(if k=f then (k,v)::r else (k,x)::mW f v r) from Z]
  by_cases hk:k=f
  .rw[aD hk]
   by_cases h:g=k
   .have hb:(g == k)=true:=gZ.mpr h;simp only[List.lookup,hb,if_pos (h.trans hk)]
   .have hb:(g == k)=false:=f9.mpr h;simp only[List.lookup,hb,if_neg (fun e:g=f=>h (e.trans hk.symm))]
  .rw[ao hk]
   by_cases h:g=k
   .have hb:(g == k)=true:=gZ.mpr h;simp only[List.lookup,hb,if_neg (fun e:g=f=>hk (h.symm.trans e))]
   .have hb:(g == k)=false:=f9.mpr h;simp only[List.lookup,hb];exact ih
theorem uK (f:Str)(v:V):∀fs:List (Str×V),f∈(mW f v fs).map (·.1)/\∀g,g∈fs.map (·.1)->g∈(mW f v fs).map (·.1)
 | []=>⟨by simp[mW],fun g h=>by simp at h⟩
 | (k,x)::r=>by
  obtain⟨i1,i2⟩:=uK f v r;rw[show mW f v ((k,x)::r)=(if k=f then (k,v)::r else (k,x)::mW f v r) from Z]
  by_cases hk:k=f
  .rw[aD hk];subst hk;exact⟨jH,fun g h=>by simpa using h⟩
  .rw[ao hk];refine⟨?_,fun g h=>?_⟩
   .rw[df];exact ar _ i1
   .rw[df] at h ⊢;rcases List.mem_cons.mp h with e | e
    .exact fD.mpr (.inl e)
    .exact ar _ (i2 g e)
theorem vo (f:Str)(v:V):∀fs:List (Str×V),(mW f v fs).length<=fs.length+1
 | []=>by simp[mW]
 | (k,x)::r=>by
  have ih:=vo f v r;rw[show mW f v ((k,x)::r)=(if k=f then (k,v)::r else (k,x)::mW f v r) from Z]
  by_cases hk:k=f
  .rw[aD hk,bj,bj];omega
  .rw[ao hk,bj,bj];omega
theorem vC.some_of {v:V}{o:Option Value}(r:vC (some v) o):∃u,o=some u/\RelV v u:=by
 cases o with
 | none=>exact(show dR from r).elim
 | some u=>exact⟨u,Z,r⟩
theorem vC.none_of {o:Option Value}(r:vC none o):o=none:=by
 cases o with
 | none=>rfl
 | some u=>exact(show dR from r).elim
theorem Em {v:V}{u:Value}(r:RelV v u):PySem.W.handedIn u=true:=by
 cases v with
 | non=>cases (show u=Value.none from r);rfl
 | bl b=>cases (show u=Value.bool b from r);rfl
 | int i=>obtain⟨t,e⟩:=(show ∃t,u=Value.int i t from r);cases e;rfl
 | str x=>obtain⟨t,e⟩:=(show ∃t,u=Value.str x t from r);cases e;rfl
 | byt b=>obtain⟨t,e⟩:=(show ∃t,u=Value.bytes b t from r);cases e;rfl
 | flt b=>obtain⟨t,e⟩:=(show ∃t,u=Value.float b t from r);cases e;rfl
 | ref a=>cases (show u=Value.ref a from r);rfl
 | ty n=>cases (show u=Value.type n from r);rfl
section
variable {P:Program}{w:World}{H:Hp}{h:Heap}{a C dx:Addr}{fs:List (Str×V)}
theorem vR (hok:vK P w H h)(e:H a=some (.ins C dx fs)):∃mA,BI h a dx C mA/\(∀f,vC (fs.lookup f) (mA f))/\PySem.Within mA (fs.map (·.1))/\fs.length<=1000/\H dx=some (.own a):=by
 obtain⟨d,z,ne,ob,mA,n,r,q⟩:=(show nI P w H h a (.ins C dx fs) from hok a _ e);exact⟨mA,⟨ob,n,ne⟩,r,q,z,d⟩
end
structure Fy (K:PySem.W.Frag)(C:Addr):Prop where
 pg:PySem.W.plainGet K C Str.empty=true
 hd:PySem.W.hasDictIn K C=true
 po:PySem.W.plainOver K C=true
 sa:PySem.W.findIn K (.ref C) "__setattr__"=some (some (.builtin "object.__setattr__"))
theorem Fy.get {K:PySem.W.Frag}{C:Addr}(c:Fy K C)(f:Str):PySem.W.plainGet K C f=true:=c.pg
def nX (K:PySem.W.Frag)(C:Addr)(f:Str):Prop:=PySem.W.findIn K (.ref C) f=some none
theorem nX.Qc {K:PySem.W.Frag}{C:Addr}{f:Str}(n:nX K C f):PySem.W.takerIn K C f=some none:=by
 unfold PySem.W.takerIn;rw[show PySem.W.findIn K (.ref C) f=some none from n];rfl
structure Meth (K:PySem.W.Frag)(C:Addr)(m:Str)(f:Addr):Prop where
 at_:PySem.W.findIn K (.ref C) m=some (some (.ref f))
 fn:PySem.W.isFn K (.ref f)=true
 kp:PySem.W.keepIn K (.ref f)=true
section
variable {Q:Value->Shared->Prop}
variable {X:Cx}{pins:List (Addr×Obj)}{σ:St}{H:Hp}{s:Shared}{a C dx:Addr}{fs:List (Str×V)}{f:Str}{v:V}{A:Around}{E:Value->Shared->Prop}
theorem B8 {b:Bool}(I:Inv X pins σ H s)(e:H a=some (.ins C dx fs))(c:Fy X.K C)(n:nX X.K C f)(l:fs.lookup f=some v)
 (h:∀u s',Inv X pins σ H s'->RelV v u->Q u s'):wpAny (model X.prog X.w) A (getAttr (.ref a) f b) Q E s:=by
  obtain⟨mA,zgS,r,_,_,_⟩:=vR I.hok e;obtain⟨u,hu,ru⟩:=vC.some_of (v:=v) (o:=mA f) (by rw[<-l];exact r f);exact get_map I.vJ zgS (c.get f) c.hd n hu (Em ru) (h u _ (I.tok _) ru)
theorem Cf {m:Str}{g:Addr}{pl:Sem Bool}{Q:Value×List Value->Shared->Prop}(I:Inv X pins σ H s)(e:H a=some (.ins C dx fs))(c:Fy X.K C)(k:Meth X.K C m g)(l:fs.lookup m=none)
 (h:Q (.ref g,[.ref a]) s):wpAny (model X.prog X.w) A (getMethod (.ref a) m pl) Q E s:=by
  obtain⟨mA,zgS,r,_,_,_⟩:=vR I.hok e;have hn:mA m=none:=vC.none_of (by rw[<-l];exact r m);exact GY I.vJ zgS (c.get m) k.at_ k.fn hn h
theorem CB {y:V}{u:Value}{Q:Unit->Shared->Prop}(I:Inv X pins σ H s)(e:H a=some (.ins C dx fs))(c:Fy X.K C)(n:nX X.K C f)(hl:fs.length<1000)(ry:RelV y u)
 (h:∀s',Inv X pins σ (upd H a (.ins C dx (mW f y fs))) s'->Q () s'):wpAny (model X.prog X.w) A (setAttr (.ref a) f u) Q E s:=by
  obtain⟨mA,zgS,r,wi,_,ho⟩:=vR I.hok e;have hz:(fs.map (·.1)).length<=sizeLine:=by rw[aa,sizeLine_eq];omega
  refine J0 I.vJ zgS c.sa c.po n.Qc c.hd wi hz fun h' O' sb=>h _ ?_;have hd:∃o,h'.get? dx=some o:=let ⟨o,_,_,e',_⟩:=O'.ns;⟨o,e'⟩;refine I.write (x:=a) (e:=dx) (by rw[e];exact True.intro) (.inr ho) (fun b q hb z=>(sb.2 b hb).trans z) hd ?_;refine⟨by rw[j5 zgS.ne];exact ho,?_,zgS.ne,O'.obj,_,O'.ns,fun g=>?_,fun g hg=>?_⟩
  · have:=vo f y fs;omega
  · show vC ((mW f y fs).lookup g) (if g=f then some u else mA g)
    rw[jX]
    by_cases q:g=f
    · rw[aD q,aD q];exact ry
    · rw[ao q,ao q];exact r g
  · by_cases q:g=f
    · rw[q];exact(uK f y fs).1
    · refine(uK f y fs).2 g (wi g fun z=>hg ?_)
      show (if g=f then some u else mA g)=none
      rw[ao q];exact z
theorem Inv.made (I:Inv X pins σ H s):Inv X pins σ (upd (upd H s.heap.objs.size (.own (s.heap.objs.size+1))) (s.heap.objs.size+1) (.ins C s.heap.objs.size []))
  { s with heap:=(s.heap.push PySem.W.emptyDict).push (PySem.W.instObj C s.heap.objs.size) }:=by
 have e1:(s.heap.push PySem.W.emptyDict).get? s.heap.objs.size=some PySem.W.emptyDict:=bZ s.heap Z;have e2:((s.heap.push PySem.W.emptyDict).push (PySem.W.instObj C s.heap.objs.size)).get? (s.heap.objs.size+1)=some (PySem.W.instObj C s.heap.objs.size):=by
  have:=bZ (s.heap.push PySem.W.emptyDict) (o:=PySem.W.instObj C s.heap.objs.size) Z;rwa [g4] at this
 have e3:(s.heap.push PySem.W.emptyDict).Ns s.heap.objs.size (fun _=>none):=⟨PySem.W.emptyDict,#[],_,e1,Z,(fun e he=>absurd he jH),fun _=>Z⟩;have I1:=I.laid (a:=s.heap.objs.size) (o:=.own (s.heap.objs.size+1)) (h':=s.heap.push PySem.W.emptyDict) (t':=s.toks) (fun b u q=>aQ _ q) (aH _) ⟨_,e1⟩;refine I1.laid (a:=s.heap.objs.size+1) (o:=.ins C s.heap.objs.size []) (t':=s.toks) (fun b u q=>aQ _ q) (iG (g4 _ _)) ?_;have ne:s.heap.objs.size≠s.heap.objs.size+1:=cP (bO _);refine⟨by rw[j5 ne,jO],dJ _,ne,e2,fun _=>none,(Heap.Ns1.of_empty e3).at fun o q=>aQ _ q,fun _=>True.intro,fun y hy=>absurd Z hy⟩
theorem J9 {prog:Program}{w:World}{env:Env}{e:Expr}{f:Str}{pos:Pos}{s:Shared}(hb:attributeBase e f env (eval e env)=eval e env)
 (h:wpAny (model prog w) A (eval e env) (fun o s₁=>wpAny (model prog w) A (getAttr o f true) Q E s₁) E s):wpAny (model prog w) A (eval (.Attribute e f pos) env) Q E s :=
  Attribute_any_ h (by rw[arm_eval_Attribute,hb])
end
def P9 (K:PySem.W.Frag)(ta:TE)(f:Str):TE:=fun σ H Q=>ta σ H fun x H1=>∃a C dx fs v,x=.ref a/\H1 a=some (.ins C dx fs)/\Fy K C/\nX K C f/\fs.lookup f=some v/\Q v H1
def Tt (K:PySem.W.Frag)(ta tv:TE)(f:Str):TS:=fun D σ H=>tv σ H fun y H1=>ta σ H1 fun x H2=>∃a C dx fs,x=.ref a/\H2 a=some (.ins C dx fs)/\Fy K C/\nX K C f/\fs.length<1000 /\
 D.nx σ (upd H2 a (.ins C dx (mW f y fs)))
section
variable {X:Cx}{o e value:Expr}{f:Str}{pos pos':Pos}{ta tv:TE}
theorem mF (he:PE X e ta)(hb:attributeBase e f X.env (eval e X.env)=eval e X.env):PE X (.Attribute e f pos) (P9 X.K ta f):=by
 intro pins s σ H Q I h;refine J9 hb (mQ (he pins s σ H _ I h) fun u s1 ⟨x,H1,I1,rx,a,C,dx,fs,v,ex,ea,c,n,l,q⟩=>?_);subst ex;obtain rfl:u=Value.ref a:=rx;exact B8 I1 ea c n l fun u' s2 I2 ru=>⟨v,H1,I2,ru,q⟩
theorem rJ (ha:PE X o ta)(hv:PE X value tv)(hs:swapsWith value (some (.Attribute o f pos')) pos.line X.env=pure false):PS X (.Assign [.Attribute o f pos'] value pos) (Tt X.K ta tv f):=by
 intro pins s σ H D I h;refine plainObj_wpAny_Assign_Attribute (mQ (hv pins s σ H _ I h) fun u s1 ⟨y,H1,I1,ry,q⟩=>mQ (ha pins s1 σ H1 _ I1 q) fun ov s2 ⟨x,H2,I2,rx,a,C,dx,fs,ex,ea,c,n,l,q2⟩=>?_) hs;subst ex;obtain rfl:ov=Value.ref a:=rx;exact CB I2 ea c n l ry fun s3 I3=>⟨σ,_,I3,q2⟩
end
section
variable {X:Cx}{pins:List (Addr×Obj)}{σ:St}{H:Hp}{s:Shared}{A:Around}{E:Value->Shared->Prop}{Q:Value->Shared->Prop}{c:Value}{b:Bool}
inductive u6 (K:PySem.W.Frag)(H:Hp):V->Value->Prop where
 | non:u6 K H .non (.type "NoneType")
 | bl (x:Bool):u6 K H (.bl x) (.type "bool")
 | int (i:Int):u6 K H (.int i) (.type "int")
 | str (x:Str):u6 K H (.str x) (.type "str")
 | flt (x:UInt64):u6 K H (.flt x) (.type "float")
 | lst {a:Addr}{xs:List V}(e:H a=some (.lst xs)):u6 K H (.ref a) (.type "list")
 | frz {a:Addr}{o:Obj}{xs:List V}(e:H a=some (.frz o (.lst xs))):u6 K H (.ref a) (.type "list")
 | tup {a:Addr}{xs:List V}(e:H a=some (.tup xs)):u6 K H (.ref a) (.type "tuple")
 | dK {a:Addr}{kvs:List (Key×V)}(e:H a=some (.dK kvs)):u6 K H (.ref a) (.type "dict")
 | dT {a:Addr}{kvs:List (List Key×V)}(e:H a=some (.dT kvs)):u6 K H (.ref a) (.type "dict")
 | ins {a C dx:Addr}{fs:List (Str×V)}(e:H a=some (.ins C dx fs))(cl:Fy K C)(ha:PySem.W.findIn K (.ref C) "__class__"=some (some (.builtin "object.__class__")))
   (hn:PySem.W.specialIn K (.builtin "object.__class__") "__get__"=some (some (.builtin "getset_descriptor.__get__")))(htk:PySem.W.takesIn K (.builtin "object.__class__")=some true)
   (hm:PySem.W.mroIn K C (.type "object")=some true):u6 K H (.ref a) (.ref C)
theorem EW {x:V}{u t:Value}(I:Inv X pins σ H s)(rx:RelV x u)(ty:u6 X.K H x t)(e:PySem.W.kitOne X.K t c=some b)(h:∀tk,Q (.bool b) { s with toks:=tk }) :
  wpAny (model X.prog X.w) A (call (.builtin "isinstance") [u,c]) Q E s:=by
 cases ty with
 | non=>cases (show u=Value.none from rx);exact PySem.W.kia_one PySem.W.kitx_none I.vJ True.intro e (fun z=>nomatch z) h
 | bl y=>cases (show u=Value.bool y from rx);exact PySem.W.kia_one PySem.W.kitx_bool I.vJ True.intro e (fun z=>nomatch z) h
 | int i=>obtain⟨t,q⟩:=(show ∃t,u=Value.int i t from rx);cases q;exact PySem.W.kia_one PySem.W.kitx_int I.vJ True.intro e (fun z=>nomatch z) h
 | str y=>obtain⟨t,q⟩:=(show ∃t,u=Value.str y t from rx);cases q;exact PySem.W.kia_one PySem.W.kitx_str I.vJ True.intro e (fun z=>nomatch z) h
 | flt y=>obtain⟨t,q⟩:=(show ∃t,u=Value.float y t from rx);cases q;exact PySem.W.kia_one PySem.W.kitx_float I.vJ True.intro e (fun z=>nomatch z) h
 | @lst a xs ea =>
  cases (show u=Value.ref a from rx);obtain⟨_,_,n,_,h1⟩:=(show nI X.prog X.w H s.heap a (.lst xs) from I.hok a _ ea);exact fF jd I.vJ ⟨_,h1,Z⟩ e (fun z=>nomatch z) h
 | @frz a ob xs ea =>
  cases (show u=Value.ref a from rx);obtain⟨_,_,_,n,_,h1⟩:=(show nI X.prog X.w H s.heap a (.frz ob (.lst xs)) from I.hok a _ ea);exact fF jd I.vJ ⟨_,h1,Z⟩ e (fun z=>nomatch z) h
 | @tup a xs ea =>
  cases (show u=Value.ref a from rx);obtain⟨_,_,_,p⟩:=(show nI X.prog X.w H s.heap a (.tup xs) from I.hok a _ ea);obtain⟨o,h1,h2,_⟩:=p;exact fF PySem.W.kitx_tuple I.vJ ⟨o,h1,h2⟩ e (fun z=>nomatch z) h
 | @dK a kvs ea =>
  cases (show u=Value.ref a from rx);obtain⟨_,_,vs,_,p⟩:=(show nI X.prog X.w H s.heap a (.dK kvs) from I.hok a _ ea);obtain⟨o,es,ep,h1,h2,_⟩:=p;exact fF je I.vJ ⟨o,h1,h2.1⟩ e (fun z=>nomatch z) h
 | @dT a kvs ea =>
  cases (show u=Value.ref a from rx);obtain⟨_,_,xs,_,o,es,ep,h1,h2,_⟩:=(show nI X.prog X.w H s.heap a (.dT kvs) from I.hok a _ ea);exact fF je I.vJ ⟨o,h1,h2.1⟩ e (fun z=>nomatch z) h
 | @ins a C dx fs ea cl ha hn htk hm =>
  cases (show u=Value.ref a from rx);obtain⟨mA,zgS,_⟩:=vR I.hok ea;obtain⟨od,zgR,_⟩:=zgS.look;exact fF (PySem.W.kitx_own (cl.get _) cl.hd ha hn htk hm) I.vJ zgR e (fun z=>nomatch z) h
end
variable {kw:List (Str×Value)}
structure nM (k:Nat)(A:Around):Prop where
 hd:A.handled=none
 dp:A.depth+3*k+5<recursionLimit
 un:A.units+16*k+200<cLine
theorem nM.mono {j k:Nat}{A:Around}(r:nM k A)(h:j<=k):nM j A:=⟨r.hd,by have:=r.dp;omega,by have:=r.un;omega⟩
theorem nM.deeper {k:Nat}{A:Around}(r:nM (k+1) A)(env:Env):nM k (A.deeper env) :=
 ⟨r.hd,by have:=r.dp;show A.depth+1+3*k+5<_;omega,by have:=r.un;show A.units+3+16*k+200<_;omega⟩
theorem B7 {A:Around}{C:Addr}{us:List Value}:(A.under (.builtin "type.__call__" ⟨.ref C::us,kw⟩)).depth=A.depth+1:=by
 first | rfl | simp[Around.under,Code.weight,Code.isCreation,Code.isGuard,Code.isCaller,Code.frames,Code.isFrame,guardIds]
theorem Cw {A:Around}{C:Addr}{us:List Value}:(A.under (.builtin "type.__call__" ⟨.ref C::us,kw⟩)).units=A.units+1:=by
 first | rfl | simp[Around.under,Code.cUnits,Code.frames,Code.isFrame]
theorem nM.make {k:Nat}{A:Around}(r:nM (k+1) A)(C:Addr)(us:List Value)(kw:List (Str×Value)):nM k (A.under (.builtin "type.__call__" ⟨.ref C::us,kw⟩)) :=
 ⟨r.hd,by have:=r.dp;rw[B7];omega,by have:=r.un;rw[Cw];omega⟩
theorem nM.depth {k:Nat}{A:Around}(r:nM k A):A.depth<recursionLimit:=by have:=r.dp;omega
def JK:TA:=fun _ H Q=>Q [] H
def AG (ta:TE)(tr:TA):TA:=fun σ H Q=>ta σ H fun x H1=>tr σ H1 fun xs H2=>Q (x::xs) H2
section
variable {X:Cx}{e:Expr}{es:List Expr}{te:TE}{t:TA}{pos:Pos}
theorem ke:PA X [] JK:=fun _ _ _ _ H Q I h=>Calls.spliced_nil ⟨[],H,I,.nil,h⟩
theorem jL (ha:PE X e te)(hr:PA X es t)(hs:starEach (e::es) X.env=(false,eval e X.env)::starEach es X.env:=by rfl):PA X (e::es) (AG te t):=by
 intro pos pins s σ H Q I h;rw[hs];show wpAny _ _ (spliced ((false,eval e X.env)::backTo pos (starEach es X.env))) _ _ s
 refine Calls.spliced_cons (mQ (ha pins s σ H _ I h) fun u s1 ⟨x,H1,I1,r1,q1⟩=>?_);exact mQ (hr pos pins s1 σ H1 _ I1 q1) fun us s2 ⟨xs,H2,I2,r2,q2⟩=>⟨x::xs,H2,I2,.cons r1 r2,q2⟩
def VX (t:TA):TE:=fun σ H Q=>t σ H fun xs H1=>xs.length<=sizeLine/\∀p,H1 p=none->Q (.ref p) (upd H1 p (.tup xs))
def Vq (t:TA):TE:=fun σ H Q=>t σ H fun xs H1=>xs.length<=sizeLine/\∀p,H1 p=none->Q (.ref p) (upd H1 p (.lst xs))
theorem lL {x1}(h:PA X es t):PE X (.Tuple es x1 pos) (VX t):=by
 intro pins s σ H Q I hq;refine wpAny_Tuple_spliced (mQ (h pos pins s σ H _ I hq) fun us s1 ⟨xs,H1,I1,r,z,q⟩=>⟨by rw[<-r.length];exact z,?_⟩);have hf:H1 s1.heap.objs.size=none:=I1.hok.fresh (aH _);refine⟨.ref s1.heap.objs.size,upd H1 s1.heap.objs.size (.tup xs),I1.laid (t':=s1.toks) (fun b u e=>aQ _ e) (aH _) ?_,Z,q _ hf⟩;exact⟨z,us,r,⟨_,bZ _ Z,Z,_,Z⟩⟩
theorem lR (h:PA X es t):PE X (.List es pos) (Vq t):=by
 intro pins s σ H Q I hq;refine wpAny_List_spliced (mQ (h pos pins s σ H _ I hq) fun us s1 ⟨xs,H1,I1,r,z,q⟩=>⟨by rw[<-r.length];exact z,?_⟩);have hf:H1 s1.heap.objs.size=none:=I1.hok.fresh (aH _);refine⟨.ref s1.heap.objs.size,upd H1 s1.heap.objs.size (.lst xs),I1.laid (t':=s1.toks) (fun b u e=>aQ _ e) (aH _) ?_,Z,q _ hf⟩;exact⟨z,us,0,r,bZ _ Z⟩
end
abbrev Sp:=List V->Hp->VK->XK->Prop
abbrev Gm:=List Env->Hp->Shared->XK->Value->Shared->Prop
structure CU (P:Program)(w:World)(K:PySem.W.Frag)(mg:Str->Option Value)(base:Heap)(A:Around)(outer:List Env)(s:Shared)(H:Hp):Prop where
 frames:A.frames=some outer
 mod:Mod K mg base
 bs:∀b o,base.get? b=some o->s.heap.get? b=some o/\H b=none
 bsz:base.objs.size<=s.heap.objs.size
 ve:s.heap.FunFrames base outer
 frf:∀b∈EJ outer,H b=none
 hok:vK P w H s.heap
 bare:AllBare s.gens
def CE (outer:List Env)(P:Program)(w:World)(H:Hp)(s:Shared)(Q:VK)(u:Value)(s':Shared):Prop :=
 ∃v H',s'.os=s.os/\AllBare s'.gens/\Un (EJ outer) [] H H' s.heap s'.heap/\vK P w H' s'.heap/\RelV v u/\Q v H'
def CR (CX:Gm)(outer:List Env)(P:Program)(w:World)(H:Hp)(s:Shared)(Q:VK)(E:XK)(r:Result)(s':Shared):Prop :=
 match r with
 | .ok (.ret u)=>CE outer P w H s Q u s'
 | .ok _=>dR
 | .error e=>CX outer H s E e s'
structure rD (P:Program)(w:World)(K:PySem.W.Frag)(mg:Str->Option Value)(base:Heap)(CX:Gm)(k:Nat)(f:Addr)(fd:FuncData)(ps:List Str)(sp:Sp):Prop where
 len:∀vs H Q E,sp vs H Q E->vs.length=ps.length
 run:∀(A:Around)(outer:List Env)(s:Shared)(H:Hp)(args:Args)(us:List Value)(vs:List V)(Q:VK)(E:XK),nM k A->CU P w K mg base A outer s H->BindsTo s fd args (ps.zip us)->Vals vs us->sp vs H Q E ->
  codeAny (model P w) A (.call (.ref f) args) (CR CX outer P w H s Q E) s
theorem rD.imp {P:Program}{w:World}{K:PySem.W.Frag}{mg:Str->Option Value}{base:Heap}{CX:Gm}{k:Nat}{f:Addr}{fd:FuncData}{ps:List Str}{sp Zs:Sp}(F:rD P w K mg base CX k f fd ps sp)
 (h:∀vs H Q E,Zs vs H Q E->sp vs H Q E):rD P w K mg base CX k f fd ps Zs :=
  ⟨fun vs H Q E q=>F.len vs H Q E (h _ _ _ _ q),fun A outer s H args us vs Q E hr he hb hv hs=>F.run A outer s H args us vs Q E hr he hb hv (h _ _ _ _ hs)⟩
theorem CU.make {P:Program}{w:World}{K:PySem.W.Frag}{mg:Str->Option Value}{base:Heap}{A:Around}{outer:List Env}{s:Shared}{H:Hp}(e:CU P w K mg base A outer s H)(C:Addr)(us:List Value)(kw:List (Str×Value)) :
  CU P w K mg base (A.under (.builtin "type.__call__" ⟨.ref C::us,kw⟩)) outer s H:=⟨by first | exact e.frames | (simpa [Around.under,Code.envs,Code.isFrame,pushEnvs] using e.frames),e.mod,e.bs,e.bsz,e.ve,e.frf,e.hok,e.bare⟩
section
variable {X:Cx}{pins:List (Addr×Obj)}{σ:St}{H:Hp}{s s':Shared}
theorem Inv.O0 (I:Inv X pins σ H s):CU X.prog X.w X.K X.mg X.base X.A X.stack s H :=
 ⟨I.ok.frames,I.ok.mod,I.bs,bL I.ok.bsz I.sz,I.stack,I.DF,I.hok,I.bare⟩
theorem Inv.after {Q:VK}{u:Value}(I:Inv X pins σ H s)(h:CE X.stack X.prog X.w H s Q u s'):EP X pins σ Q u s':=by
 obtain⟨v,H',os,bare,un,hok,r,q⟩:=h;obtain⟨hh,g,d,t,Oc⟩:=s';obtain rfl:Oc=s.os:=os;exact⟨v,H',I.call (h':=hh) (g':=g) (d':=d) (t':=t) (ch:=[]) un hok bare (fun b z=>absurd z jH),r,q⟩
end
def Ha (sp:Sp)(Ah:List V)(E:XK)(t:TA):TE:=fun σ H Q=>t σ H fun vs H1=>sp (vs++Ah) H1 Q E
def KR (C:Addr)(m:Str)(sp:Sp)(Ah:List V)(E:XK)(ta:TE)(t:TA):TE:=fun σ H Q=>ta σ H fun x H1=>∃a dx fs,x=.ref a/\H1 a=some (.ins C dx fs)/\fs.lookup m=none /\
 t σ H1 fun vs H2=>sp (x::(vs++Ah)) H2 Q E
def KI (C:Addr)(sp:Sp)(Ah:List V)(E:XK)(t:TA):TE:=fun σ H Q=>t σ H fun vs H1=>∀x dx,H1 x=none->H1 dx=none->dx≠x ->
 sp (.ref x::(vs++Ah)) (upd (upd H1 dx (.own x)) x (.ins C dx [])) (fun v H2=>v=.non/\Q (.ref x) H2) E
def Binds (K:PySem.W.Frag)(fd:FuncData)(ps:List Str)(ds:List Value):Prop :=
 ∀(s:Shared)(us:List Value),K.In s.heap->(us++ds).length=ps.length->BindsTo s fd ⟨us,[]⟩ (ps.zip (us++ds))
theorem Binds.all {K:PySem.W.Frag}{fd:FuncData}{ps:List Str}(h:∀us:List Value,us.length=ps.length->bindArgs fd ⟨us,[]⟩=pure (ps.zip us)):Binds K fd ps []:=fun s us _ hl=>by
 rw[gI] at hl ⊢;exact .of_eq (h us hl)
def Passes (CX:Gm)(X:Cx)(E:XK):Prop:=∀(pins:List (Addr×Obj))(σ:St)(H:Hp)(s:Shared)(e:Value)(s':Shared),Inv X pins σ H s->CX X.stack H s E e s'->X.xe e s'
section
variable {pins:List (Addr×Obj)}
variable {X:Cx}{CX:Gm}{k:Nat}{f C:Addr}{fd:FuncData}{ps:List Str}{sp:Sp}{Ah:List V}{ds:List Value}{E:XK}{x m:Str}{p pos apos:Pos}{e o:Expr}{es:List Expr}{ta:TE}{t:TA}
theorem GF {σ:St}{H:Hp}{s:Shared}{Q:VK}{us:List Value}{vs:List V}(F:rD X.prog X.w X.K X.mg X.base CX k f fd ps sp)(hr:nM k X.A)(hb:Binds X.K fd ps ds)(hd:Vals Ah ds)(hx:Passes CX X E)
 (I:Inv X pins σ H s)(r:Vals vs us)(h:sp (vs++Ah) H Q E):wpAny (model X.prog X.w) X.A (call (.ref f) us) (EP X pins σ Q) X.xe s:=by
  have r2:Vals (vs++Ah) (us++ds):=r.append hd;have hl:(us++ds).length=ps.length:=by rw[<-r2.length];exact F.len _ _ _ _ h
  refine wpAny_call (iw (F.run X.A X.stack s H ⟨us,[]⟩ (us++ds) (vs++Ah) Q E hr I.O0 (hb s us I.vJ hl) r2 h) fun r s' hq=>?_);cases r with
  | error e=>exact hx pins σ H s e s' I hq
  | ok fl =>
    cases fl with
    | ret u=>exact I.after hq
    | next=>exact False.elim hq
    | brk=>exact False.elim hq
    | cont=>exact False.elim hq
theorem Jw (F:rD X.prog X.w X.K X.mg X.base CX k f fd ps sp)(hr:nM k X.A)(hg:Gl X x)(hm:X.mg x=some (.ref f))(hk:PySem.W.keepIn X.K (.ref f)=true)(hb:Binds X.K fd ps ds)(hd:Vals Ah ds)(hx:Passes CX X E)
  (ha:PA X (e::es) t)(E9:(x == ("__debug__":Str))=false:=by decide)(he:starEach (e::es) X.env=(false,eval e X.env)::starEach es X.env:=by rfl)(xu:(backTo pos (starEach es X.env)).any (·.1)=false:=by rfl) :
  PE X (.Call (.Name x p) (e::es) [] pos) (Ha sp Ah E t):=by
 intro pins s σ H Q I h;refine fT (zt I hg hm ?_ E9);refine g3 (h₀:=X.base) I.ok.mod.kin hk (mQ (ha pos pins s σ H _ I h) fun us s1 ⟨vs,H1,I1,r,q⟩=>⟨I1.vJ,?_⟩) he xu;exact GF F hr hb hd hx I1 r q
theorem IX {pl:Sem Bool}(he:PE X o ta)(c:Fy X.K C)(hm:Meth X.K C m f)(F:rD X.prog X.w X.K X.mg X.base CX k f fd ps sp)(hr:nM k X.A)(hb:Binds X.K fd ps ds)(hd:Vals Ah ds)(hx:Passes CX X E)(ha:PA X (e::es) t)
 (uv:starEach (e::es) X.env=(false,eval e X.env)::starEach es X.env:=by rfl)(xu:(backTo pos (starEach es X.env)).any (·.1)=false:=by rfl)
 (ht:eval (.Call (.Attribute o m apos) (e::es) [] pos) X.env=(do
 let ov <-eval o X.env
 standAt apos.atName
 let (f,first) <-holding [ov] (getMethod ov m pl)
 callWith pos f first (backTo pos (starEach (e::es) X.env)) (backToKw pos (keywordEach [] X.env))):=by rfl) :
    PE X (.Call (.Attribute o m apos) (e::es) [] pos) (KR C m sp Ah E ta t):=by
  intro pins s σ H Q I h;refine PySem.W.methodCall_KW (pl:=pl) (mQ (he pins s σ H _ I h) fun u s1 ⟨x,H1,I1,rx,a,dx,fs,ex,ea,l,q⟩=>?_) ht;subst ex;obtain rfl:u=Value.ref a:=rx;refine Cf I1 ea c hm l ?_;refine g3 (first:=[.ref a]) (h₀:=X.base) I.ok.mod.kin hm.kp (mQ (ha pos pins s1 σ H1 _ I1 q) fun us s2 ⟨vs,H2,I2,r,q2⟩=>⟨I2.vJ,?_⟩) uv xu;exact GF (us:=.ref a::us) (vs:=.ref a::vs) F hr hb hd hx I2 (.cons Z r) q2
structure Mk (K:PySem.W.Frag)(C f:Addr):Prop where
 makes:PySem.W.makesIn K C=true
 init:PySem.W.findIn K (.ref C) "__init__"=some (some (.ref f))
 fn:PySem.W.isFn K (.ref f)=true
 kp:PySem.W.keepIn K (.ref C)=true
theorem FB {σ:St}{H:Hp}{s:Shared}{Q:VK}{us:List Value}{vs:List V}(M:Mk X.K C f)(F:rD X.prog X.w X.K X.mg X.base CX k f fd ps sp)(hr:nM (k+1) X.A)(hb:Binds X.K fd ps ds)(hd:Vals Ah ds)
 (hx:Passes CX X E)(I:Inv X pins σ H s)(r:Vals vs us)
 (h:∀x dx,H x=none->H dx=none->dx≠x->sp (.ref x::(vs++Ah)) (upd (upd H dx (.own x)) x (.ins C dx [])) (fun v H2=>v=.non/\Q (.ref x) H2) E) :
    wpAny (model X.prog X.w) X.A (call (.ref C) us) (EP X pins σ Q) X.xe s:=by
  have hq:=h (s.heap.objs.size+1) s.heap.objs.size (I.hok.fresh (gi _)) (I.hok.fresh (aH _)) (cP (bO _));have I2:=Inv.made (C:=C) I;have r2:Vals (V.ref (s.heap.objs.size+1)::(vs++Ah)) (Value.ref (s.heap.objs.size+1)::(us++ds)):=.cons Z (r.append hd);have hl:(Value.ref (s.heap.objs.size+1)::us++ds).length=ps.length:=by
    have e:=r2.length;rw[F.len _ _ _ _ hq] at e;exact e.symm
  refine wpAny_call (FH (f:=f) I.vJ M.makes M.init (gZ.mp M.fn) (iw (F.run _ X.stack _ _ ⟨Value.ref (s.heap.objs.size+1)::us,[]⟩ (Value.ref (s.heap.objs.size+1)::(us++ds)) _ _ E (hr.make C us [])
    (I2.O0.make C us []) (hb _ (Value.ref (s.heap.objs.size+1)::us) I2.vJ hl) r2 hq) fun r s' Bo=>?_))
  cases r with
  | error e=>exact hx pins σ _ _ e s' I2 Bo
  | ok fl =>
    cases fl with
    | ret u =>
      obtain⟨v,H',I3,rv,ev,q3⟩:=I2.after Bo;subst ev;exact⟨rv,⟨V.ref (s.heap.objs.size+1),H',I3,Z,q3⟩⟩
    | next=>exact False.elim Bo
    | brk=>exact False.elim Bo
    | cont=>exact False.elim Bo
theorem JH (M:Mk X.K C f)(F:rD X.prog X.w X.K X.mg X.base CX k f fd ps sp)(hr:nM (k+1) X.A)(hg:Gl X x)(hm:X.mg x=some (.ref C))(hb:Binds X.K fd ps ds)(hd:Vals Ah ds)(hx:Passes CX X E)
  (ha:PA X (e::es) t)(E9:(x == ("__debug__":Str))=false:=by decide)(he:starEach (e::es) X.env=(false,eval e X.env)::starEach es X.env:=by rfl)(xu:(backTo pos (starEach es X.env)).any (·.1)=false:=by rfl) :
  PE X (.Call (.Name x p) (e::es) [] pos) (KI C sp Ah E t):=by
 intro pins s σ H Q I h;refine fT (zt I hg hm ?_ E9);refine g3 (h₀:=X.base) I.ok.mod.kin M.kp (mQ (ha pos pins s σ H _ I h) fun us s1 ⟨vs,H1,I1,r,q⟩=>⟨I1.vJ,?_⟩) he xu;exact FB M F hr hb hd hx I1 r q
end
structure jZ (N P:List Str)(sc:Scope):Prop where
 kind:sc.kind=.function
 co:sc.isCoroutine=false
 gen:sc.isGenerator=false
 nd:N.Nodup
 pre:N.take P.length=P
 par:∀x∈P,sc.names.lookup x=some .local\/sc.names.lookup x=some .cell
 nofree:∀y∈sc.names,y.2≠.free
theorem yA {kindOf:Str->Option NameKind}{x:Str}:∀{binds:List (Str×Value)}{m:Str->Option Value},(∀v,(x,v)∉binds)->bindL kindOf binds m x=m x
 | [],_,_=>rfl
 | (n,v)::r,m,h=>by
  unfold bindL;rw[yA fun w hw=>h w (ar _ hw)];split
  .have:x≠n:=by rintro rfl;exact h v aq
   simp[this]
  .rfl
theorem yt {kindOf:Str->Option NameKind}{x:Str}:∀{binds:List (Str×Value)}{m:Str->Option Value},(∀v,(x,v)∉binds)->bindC kindOf binds m x=m x
 | [],_,_=>rfl
 | (n,v)::r,m,h=>by
  unfold bindC;rw[yt fun w hw=>h w (ar _ hw)];split
  .rfl
  .have:x≠n:=by rintro rfl;exact h v aq
   simp[this]
theorem yv {kindOf:Str->Option NameKind}{x:Str}{v:Value}:∀{P:List Str}{vs:List Value}{i:Nat}{m:Str->Option Value},P.Nodup->P[i]?=some x->vs[i]?=some v->kindOf x=some .local ->
  bindL kindOf (P.zip vs) m x=some v
 | [],_,_,_,_,h,_,_=>by simp at h
 | _::_,[],_,_,_,_,h,_=>by simp at h
 | p::P,w::vs,0,m,nd,h1,h2,hk=>by
  simp at h1 h2;subst h1;subst h2;show bindL kindOf ((p,w)::P.zip vs) m p=_
  unfold bindL;rw[yA fun v hv=>(eR.mp nd).1 (jA hv).1,aD hk];simp
 | p::P,w::vs,i+1,m,nd,h1,h2,hk=>by
  show bindL kindOf ((p,w)::P.zip vs) m x=_
  unfold bindL;exact yv (i:=i) (eR.mp nd).2 (by simpa using h1) (by simpa using h2) hk
theorem yn {kindOf:Str->Option NameKind}{x:Str}{v:Value}:∀{P:List Str}{vs:List Value}{i:Nat}{m:Str->Option Value},P.Nodup->P[i]?=some x->vs[i]?=some v->kindOf x≠some .local ->
  bindC kindOf (P.zip vs) m x=some v
 | [],_,_,_,_,h,_,_=>by simp at h
 | _::_,[],_,_,_,_,h,_=>by simp at h
 | p::P,w::vs,0,m,nd,h1,h2,hk=>by
  simp at h1 h2;subst h1;subst h2;show bindC kindOf ((p,w)::P.zip vs) m p=_
  unfold bindC;rw[yt fun v hv=>(eR.mp nd).1 (jA hv).1,ao hk];simp
 | p::P,w::vs,i+1,m,nd,h1,h2,hk=>by
  show bindC kindOf ((p,w)::P.zip vs) m x=_
  unfold bindC;exact yn (i:=i) (eR.mp nd).2 (by simpa using h1) (by simpa using h2) hk
def start (N:List Str)(vs:List V):St:=vs.map some++List.replicate (N.length-vs.length) none
def xO (CX:Gm)(P:Program)(w:World)(K:PySem.W.Frag)(mg:Str->Option Value)(base:Heap)(N:List Str)(qual:Str)(scope:Scope)(f:Addr)(cd:Value)(A:Around)(outer:List Env)(s:Shared)(H:Hp)(E:XK):Cx where
 prog:=P
 w:=w
 K:=K
 mg:=mg
 base:=base
 A:=A.deeper (envOfC qual scope s.heap.objs.size f cd)
 N:=N
 s₀:=s
 H₀:=H
 env:=envOfC qual scope s.heap.objs.size f cd
 outer:=outer
 stack:=envOfC qual scope s.heap.objs.size f cd::outer
 ex:=[]
 calm:=true
 fn:=fun _=>true
 pn:=[]
 xe:=fun e s'=>wpAny (model P w) (A.deeper (envOfC qual scope s.heap.objs.size f cd)) (leaving (envOfC qual scope s.heap.objs.size f cd) e) (fun _ QB=>CX outer H s E e QB) (fun e' QB=>CX outer H s E e' QB) s'
theorem Be {sc:Scope}{n:Nat}{x:Str}(h:sc.names.lookup x=some .cell):∃c,(cellsFrom n sc.names []).lookup x=some c:=by
 have q:=iH sc.names n [] (.inl h);exact iz.mp q
theorem EG {CX:Gm}{P:Program}{w:World}{K:PySem.W.Frag}{mg:Str->Option Value}{base:Heap}{N ps:List Str}{qual:Str}{scope:Scope}{f:Addr}{cd:Value}{A:Around}{outer:List Env}{s s1:Shared}{H:Hp}{E:XK}{us:List Value}{vs:List V}
 (S:jZ N ps scope)(hd:A.handled=none)(e0:CU P w K mg base A outer s H)(hl:vs.length=ps.length)(r:Vals vs us)
 (x:InCallC s s.heap.objs.size (bindL (envOfC qual scope s.heap.objs.size f cd).kindOf (ps.zip us) fun _=>none) (cellsFrom (s.heap.objs.size+1) scope.names []) (bindC (envOfC qual scope s.heap.objs.size f cd).kindOf (ps.zip us) fun _=>none) s1) :
    Inv (xO CX P w K mg base N qual scope f cd A outer s H E) [] (start N vs) H s1:=by
  have xu:ps.length<=N.length:=by have:=cQ List.length S.pre;rw[cJ] at this;omega
  obtain⟨h1,tk,rfl,hk⟩:=x.done;have noA:∀b:Addr,b∉(xO CX P w K mg base N qual scope f cd A outer s H E).ex:=fun b z=>absurd (show b∈([]:List Addr) from z) jH;refine⟨⟨e0.mod,S.kind,Z,Z,aH _,fun y z c h1 h2=>?_,fun y hy=>?_,fun y c _ h=>?_,fun _=>hd,Around.frames_deeper e0.frames,.inr ⟨Z,Z⟩,fun b z=>absurd z (noA b),e0.bs,e0.bsz,fun b _ _=>noA b,fun b z=>absurd z (noA b),e0.ve,e0.frf⟩,
    Z,e0.bare,Un.kept hk,⟨_,x.toInCall.ns,fun i y v h1 h2 h3=>?_⟩,fun y c h=>⟨_,x.cell y c h⟩,e0.hok.fresh (aH _),fun y c h=>?_,fun p hp=>absurd (show p∈([]:List (Addr×Obj)) from hp) jH,e0.hok.kept hk,?_⟩
  · exact name_of_addr x.apart (fv h1) (fv h2)
  · have hy:scope.names.lookup y=some .cell\/scope.names.lookup y=some .free:=hy
    rcases hy with hy | hy
    · exact Be hy
    · exact absurd Z (S.nofree _ (fv hy))
  · exact d6 (x.above y c (fv h))
  · have hi:i<vs.length:=by
      unfold start at h2
      by_cases hi:i<vs.length
      · exact hi
      · rw[cK (by simpa using hi)] at h2
        rw[fK] at h2;split at h2<;>cases h2
    have ha:vs[i]?=some v:=by
      unfold start at h2;rw[cO (by simpa using hi),List.getElem?_map] at h2;cases e:vs[i]? with
      | none=>rw[e] at h2;cases h2
      | some a=>rw[e] at h2;cases h2;rfl
    obtain⟨u,hu,rv⟩:=r.get ha;have hp:ps[i]?=some y:=by
      rw[<-S.pre,iA jJ];exact h1
    have Zt:ps.Nodup:=by rw[<-S.pre];exact S.nd.sublist (List.take_sublist _ _)
    refine⟨u,rv,?_⟩;rcases S.par y (List.mem_of_getElem? hp) with k | k
    · exact .inl ⟨k,yv Zt hp hu k⟩
    · obtain⟨c,e⟩:=Be (n:=s.heap.objs.size+1) k
      refine .inr ⟨.inl k,c,e,?_⟩;have q:=x.cell y c e;rw[yn Zt hp hu (by show scope.names.lookup y≠_;rw[k];decide)] at q;exact q
  · exact e0.hok.fresh (d6 (x.above y c (fv h)))
  · unfold start
    show _=N.length
    rw[aI,aa,aV];omega
theorem Ps {CX:Gm}{P:Program}{w:World}{K:PySem.W.Frag}{mg:Str->Option Value}{base:Heap}{k:Nat}{f:Addr}{name qual:Str}{params:Arguments}{body:List Stmt}{scope:Scope}{dV kV doc pm cdv ct oc:Value}{an od:Option Addr}
 {osl:Array (Option Value)}{N ps:List Str}{sp:Sp}(lk:K.lookup f=some ⟨oc,od,.func (PySem.W.fnOf name qual params body scope dV kV doc pm an cdv ct),osl⟩)(Ec:PySem.W.codeIn K cdv qual=true)(S:jZ N ps scope)
 (len:∀vs H Q E,sp vs H Q E->vs.length=ps.length)
 (hbody:∀(A:Around)(outer:List Env)(s:Shared)(H:Hp)(vs:List V)(Q:VK)(E:XK),nM k (A.deeper (envOfC qual scope s.heap.objs.size f cdv))->sp vs H Q E ->
 ∃t,yp (xO CX P w K mg base N qual scope f cdv A outer s H E) body t/\t { nx:=fun _ H'=>Q .non H',rt:=Q } (start N vs) H) :
    rD P w K mg base CX (k+1) f (PySem.W.fnOf name qual params body scope dV kV doc pm an cdv ct) ps sp:=by
  refine⟨len,fun A outer s H args us vs Q E hr e0 hb r hsp=>?_⟩;have hl:=len _ _ _ _ hsp;have KX:K.In s.heap:=e0.mod.kin.keeps fun b o e=>(e0.bs b o e).1;have lim:s.heap.NoLimit:=e0.mod.nolimit.keeps fun b o e=>(e0.bs b o e).1;have qF:∀y∈ps.zip us,scope.names.lookup y.1=some .local\/(scope.names.lookup y.1=some .cell/\((cellsFrom (s.heap.objs.size+1) scope.names []).lookup y.1).isSome=true):=fun ⟨n,v⟩ hy=>by
    rcases S.par n (List.of_mem_zip hy).1 with q | q
    · exact .inl q
    · exact .inr ⟨q,iH _ _ _ (.inl q)⟩
  refine codeAny_call_function hr.depth (KX _ _ lk) Z S.co S.gen Z (PySem.W.codeRec_of KX Ec) (hb _ _ _ _ ?_);refine wpAny_newFunctionEnv_cells S.kind qF fun env he s1 x=>?_;subst he;refine⟨lim.keeps x.toInCall.keep,codeAny_func ?_⟩;obtain⟨t,ht,hq⟩:=hbody A outer s H vs Q E (hr.deeper _) hsp;have I:Inv (xO CX P w K mg base N qual scope f cdv A outer s H E) [] (start N vs) H s1:=EG S hr.hd e0 hl r x;refine eC (ht [] s1 (start N vs) H _ I hq) (fun fl s' hs=>?_) fun e s' hs=>hs;have fin:∀{lh:St}{H':Hp}{v:V}{u:Value},Inv (xO CX P w K mg base N qual scope f cdv A outer s H E) [] lh H' s'->RelV v u->Q v H'->CE outer P w H s Q u s' :=
    fun {lh H' v u} zgR rv q=>⟨v,H',zgR.os,zgR.bare,zgR.base,zgR.hok,rv,q⟩
  cases fl with
  | ret u =>
    obtain⟨v,lh,H',zgR,rv,q⟩:=hs;exact fin zgR rv q
  | next =>
    obtain⟨lh,H',zgR,q⟩:=hs;exact fin (v:=V.non) (u:=Value.none) zgR Z q
  | brk =>
    obtain⟨_,_,_,q⟩:=hs;exact False.elim q
  | cont =>
    obtain⟨_,_,_,q⟩:=hs;exact False.elim q
section
variable {X:Cx}{x:Str}{p pos:Pos}{e:Expr}{es:List Expr}{t:TA}{id T:String}{r:List V->Hp->VK->Prop}
def WG (r:List V->Hp->VK->Prop)(t:TA):TE:=fun σ H Q=>t σ H fun vs H1=>r vs H1 Q
theorem kP (hc:rz X (.builtin id) r)(hg:Gl X x)(hm:X.mg x=none)(hv:bootBuiltins x=some (.builtin id))(ha:PA X (e::es) t)(hn:x≠"__name__":=by decide)(E9:(x == ("__debug__":Str))=false:=by decide)
  (he:starEach (e::es) X.env=(false,eval e X.env)::starEach es X.env:=by rfl)(xu:(backTo pos (starEach es X.env)).any (·.1)=false:=by rfl):PE X (.Call (.Name x p) (e::es) [] pos) (WG r t):=by
 intro pins s σ H Q I h;refine fT (pV I hg hm hv ?_ hn E9);exact PyProof.Rows.callWith_builtin1 (mQ (ha pos pins s σ H _ I h) fun us s1 ⟨vs,H1,I1,r1,q1⟩=>hc pins s1 σ H1 vs us Q I1 r1 q1) he xu
theorem qm (hc:rz X (.type T) r)(hg:Gl X x)(hm:X.mg x=none)(hv:bootBuiltins x=some (.type T))(ha:PA X (e::es) t)(hn:x≠"__name__":=by decide)(E9:(x == ("__debug__":Str))=false:=by decide)
  (he:starEach (e::es) X.env=(false,eval e X.env)::starEach es X.env:=by rfl)(xu:(backTo pos (starEach es X.env)).any (·.1)=false:=by rfl):PE X (.Call (.Name x p) (e::es) [] pos) (WG r t):=by
 intro pins s σ H Q I h;refine fT (pV I hg hm hv ?_ hn E9);exact cG (mQ (ha pos pins s σ H _ I h) fun us s1 ⟨vs,H1,I1,r1,q1⟩=>hc pins s1 σ H1 vs us Q I1 r1 q1) he xu
end
end L2
namespace HT
open PySem PyProof.Rows
section
def Ba (n d:Nat):Option Int->Nat
 | none=>d
 | some v=>if v<0 then (v+(n:Int)).toNat else min v.toNat n
theorem Gw (n d:Nat):Ba n d none=d:=rfl
theorem zA (n d k:Nat):Ba n d (some (k:Int))=min k n:=by
 show (if (k:Int)<0 then ((k:Int)+(n:Int)).toNat else min (k:Int).toNat n)=min k n
 rw[ao jJ,ae]
end
end HT
namespace L2
open PySem PySem.Spec PyProof.Rows
abbrev TO:=St->Hp->(Option Int->Hp->Prop)->Prop
def PO (X:Cx)(e:Option Expr)(t:TO):Prop :=
 ∀(pins:List (Addr×Obj))(s:Shared)(σ:St)(H:Hp)(Q:Option Int->Hp->Prop),Inv X pins σ H s->t σ H Q ->
  wpAny (model X.prog X.w) X.A (evalPart e X.env) (fun u s'=>∃o H',Inv X pins σ H' s'/\IsPart u o/\Q o H') X.xe s
def Jx:TO:=fun _ H Q=>Q none H
def Pe (t:TE):TO:=fun σ H Q=>t σ H fun x H1=>∃i,x=.int i/\Q (some i) H1
section
variable {X:Cx}{e:Expr}{te:TE}{lo hi:Option Expr}{tl th:TO}{pos p2:Pos}
theorem Dc:PO X none Jx:=by
 intro pins s σ H Q I h;rw[evalPart_none];exact dM ⟨none,H,I,.none,h⟩
theorem sy (h:PE X e te):PO X (some e) (Pe te):=by
 intro pins s σ H Q I hw;rw[evalPart_some];refine mQ (h pins s σ H _ I hw) fun u s1 ⟨x,H1,I1,r1,q1⟩=>?_;obtain⟨i,rfl,q⟩:=q1;obtain⟨t,rfl⟩:=r1;exact⟨some i,H1,I1,.int i t,q⟩
def VT (X:Cx)(r:V->Option Int->Option Int->Hp->VK->Prop):Prop :=
 ∀(pins:List (Addr×Obj))(s:Shared)(σ:St)(H:Hp)(x:V)(v vl vu:Value)(lo hi:Option Int)(sl:Addr)(Q:VK),Inv X pins σ H s->RelV x v->s.heap.IsSliceOf sl vl vu .none->IsPart vl lo->IsPart vu hi->r x lo hi H Q ->
  ∃T id,typeLookup (.type T) "__getitem__"=pure (some (.builtin id))/\s.TypeIs v T/\wpAny (model X.prog X.w) X.A (getItem v (.ref sl)) (EP X pins σ Q) X.xe s
def tSl (r:V->Option Int->Option Int->Hp->VK->Prop)(te:TE)(tl th:TO):TE:=fun σ H Q=>te σ H fun x H1=>tl σ H1 fun l H2=>th σ H2 fun u H3=>r x l u H3 Q
theorem uo {r:V->Option Int->Option Int->Hp->VK->Prop}(hr:VT X r)(he:PE X e te)(hl:PO X lo tl)(hu:PO X hi th):PE X (.Subscript e (.Slice lo hi none p2) pos) (tSl r te tl th):=by
 intro pins s σ H Q I h;refine Subscript_ (mQ (he pins s σ H _ I h) fun v s1 ⟨x,H1,I1,r1,q1⟩=>?_);refine wpAny_Slice (mQ (hl pins s1 σ H1 _ I1 q1) fun vl s2 ⟨l,H2,I2,pl,q2⟩=>mQ (hu pins s2 σ H2 _ I2 q2) fun vu s3 ⟨u,H3,I3,pu,q3⟩=>?_);rw[evalPart_none];refine dM ?_;have I4:Inv X pins σ H3 { s3 with heap:=s3.heap.push { cls:=.type "slice",data:=.fields #[vl,vu,.none] } }:=I3.kept (t':=s3.toks) fun b ob q=>aQ _ q;obtain⟨T,id,hT,ht,hg⟩:=hr pins { s3 with heap:=s3.heap.push { cls:=.type "slice",data:=.fields #[vl,vu,.none] } } σ H3 x v vl vu l u s3.heap.objs.size Q I4 r1 (Heap.IsSliceOf.new ..) pl pu q3;show wpAny (model X.prog X.w) X.A (subscriptTail e (.Slice lo hi none p2) v (.ref s3.heap.objs.size)) (EP X pins σ Q) X.xe { s3 with heap:=s3.heap.push { cls:=.type "slice",data:=.fields #[vl,vu,.none] } }
 exact tail_any (ops:=[.ref s3.heap.objs.size,v]) ht hT hg (by with_unfolding_all rfl)
def uk (xs:List V)(lo hi:Option Int):List V:=(xs.drop (HT.Ba xs.length 0 lo)).take (HT.Ba xs.length xs.length hi-HT.Ba xs.length 0 lo)
theorem A6 (xs:List V)(lo hi:Option Int):(uk xs lo hi).length<=xs.length:=by
 unfold uk;rw[cJ,cx];omega
end
def IH (n:Nat)(i:Int):Option Nat:=if 0<=i then (if i<n then some i.toNat else none) else if -(n:Int)<=i then some (i+n).toNat else none
def me {α:Type}(xs:List α)(i:Int):Option α:=(IH xs.length i).bind fun j=>xs[j]?
theorem D3 {n:Nat}{i:Int}{j:Nat}(h:IH n i=some j):seqIndex? i n=some j/\j<n/\-(n:Int)<=i/\i<n:=by
 unfold IH at h
 by_cases h0:0<=i
 .rw[aD h0] at h
  by_cases h1:i<n
  .rw[aD h1] at h;have e:i.toNat=j:=bK h;exact⟨by rw[jE h0 h1,e],jJ,jJ,h1⟩
  .rw[ao h1] at h;cases h
 .rw[ao h0] at h
  by_cases h1:-(n:Int)<=i
  .rw[aD h1] at h;have e:(i+n).toNat=j:=bK h;exact⟨by rw[jp jJ h1,e],jJ,h1,jJ⟩
  .rw[ao h1] at h;cases h
theorem Dd {α:Type}{xs:List α}{i:Int}{v:α}(h:me xs i=some v):∃j,seqIndex? i xs.length=some j/\xs[j]?=some v/\j<xs.length/\-(xs.length:Int)<=i/\i<xs.length:=by
 unfold me at h;cases e:IH xs.length i with
 | none=>rw[e] at h;cases h
 | some j =>
  rw[e] at h;obtain⟨h1,h2,h3,h4⟩:=D3 e;exact⟨j,h1,h,h2,h3,h4⟩
theorem lP {α:Type}{xs:List α}{j:Nat}{v:α}(h:xs[j]?=some v):me xs (j:Int)=some v:=by
 have hj:j<xs.length:=(aF.mp h).1;have e:IH xs.length (j:Int)=some j:=by
  unfold IH;rw[aD jJ,aD jJ];simp
 unfold me;rw[e];exact h
def DZ (b:Expr):Prop:=∀o i,subscripted b false o i=operate [o,i] (getItem o i)
def N5 (X:Cx)(r:R2):Prop :=
 ∀(value slice:Expr)(pins:List (Addr×Obj))(s:Shared)(σ:St)(H:Hp)(x y:V)(v u:Value)(Q:VK),Inv X pins σ H s->RelV x v->RelV y u->r x y H Q ->
  subscripted slice false v u=operate [v,u] (getItem v u)->wpAny (model X.prog X.w) X.A (subscriptTail value slice v u) (EP X pins σ Q) X.xe s
def Zg (X:Cx)(id:String)(r:V->List V->Hp->VK->Prop):Prop :=
 ∀(pins:List (Addr×Obj))(s:Shared)(σ:St)(H:Hp)(x:V)(xs:List V)(v:Value)(us:List Value)(Q:VK),Inv X pins σ H s->RelV x v->Vals xs us->r x xs H Q ->
  wpAny (model X.prog X.w) X.A (call (.builtin id) (v::us)) (EP X pins σ Q) X.xe s
section
variable {pins:List (Addr×Obj)}{s:Shared}
variable {X:Cx}{a b:Expr}{ta tb:TE}{pos:Pos}
theorem O3 {r:R2}(hr:N5 X r)(ha:PE X a ta)(hb:PE X b tb)(hs:DZ b):PE X (.Subscript a b pos) (N0 r ta tb):=by
 intro pins s σ H Q I h;exact Subscript_ (MJ ha hb I h fun v u s2 x y H2 I2 rx ry q=>hr a b pins s2 σ H2 x y v u Q I2 rx ry q (hs _ _))
def Pd (K:PySem.W.Frag):R2:=fun x y H Q=>∃p xs i v,x=.ref p/\y=.int i/\j6 K H p xs/\me xs i=some v/\Q v H
def PZ (K:PySem.W.Frag):R2:=fun x y H Q=>∃p xs i v,x=.ref p/\y=.int i/\kQ K H p xs/\me xs i=some v/\Q v H
theorem kN:N5 X (Pd X.K):=by
 intro value slice pins s σ H x y v u Q I rx ry h hs;obtain⟨p,xs,i,z,rfl,rfl,hq,he,q⟩:=h;cases rx;obtain⟨t,rfl⟩:=ry;obtain⟨its,r,pl,hz⟩:=I.list hq;obtain⟨j,h1,h2,h3,h4,h5⟩:=Dd he;obtain⟨w,ew,E5⟩:=r.get h2;have hl:=r.length;have hn:=Ag;have fin:EP X pins σ Q w s:=⟨z,H,I,E5,q⟩
 by_cases h0:0<=i
 .have hj:i.toNat=j:=by
   rw[jE h0 h5] at h1;exact bK h1
  exact item_listR pl.isList h0 jJ (by rw[hj];simpa using ew) fin hs
 .have hj:(i+(its.toArray.size:Int)).toNat=j:=by
   rw[jp jJ h4] at h1;rw[cy,<-hl];exact bK h1
  exact subscriptTail_builtinR (x:=w) pl.isList.typeIs slot_list_getitem.lookup
   (wpAny_getItem_list_neg (Q:=fun r s'=>r=w/\EP X pins σ Q r s') pl.isList jJ (by rw[cy]<;>omega) jJ (by rw[hj];simpa using ew) ⟨Z,fin⟩) hs
theorem j9:N5 X (PZ X.K):=by
 intro value slice pins s σ H x y v u Q I rx ry h hs;obtain⟨p,xs,i,z,rfl,rfl,hq,he,q⟩:=h;cases rx;obtain⟨t,rfl⟩:=ry;obtain⟨its,r,pl,hz⟩:=I.tuple hq;obtain⟨j,h1,h2,h3,h4,h5⟩:=Dd he;obtain⟨w,ew,E5⟩:=r.get h2;have hl:=r.length;have hn:=Ag;have fin:EP X pins σ Q w s:=⟨z,H,I,E5,q⟩;exact subscriptTail_builtinR (x:=w) pl.typeIs slot_tuple_getitem.lookup
  (getItem_tuple (j:=j) (Q:=fun r s'=>r=w/\EP X pins σ Q r s') pl jJ jJ (by rw[cy,<-hl];exact h1) (by simpa using ew) ⟨Z,fin⟩) hs
theorem Cz (its:List Value)(n j:Nat)(u:Value):Obj.mapSeq (·.setIfInBounds j u) { cls:=.type "list",data:=.seq its.toArray n }={ cls:=.type "list",data:=.seq (its.set j u).toArray n }:=by
 simp[Obj.mapSeq]
theorem Inv.lst {pins:List (Addr×Obj)}{σ:St}{H:Hp}{s:Shared}{p:Addr}{xs:List V}(I:Inv X pins σ H s)(h:H p=some (.lst xs)) :
  ∃(its:List Value)(n:Nat),Vals xs its/\s.heap.get? p=some { cls:=.type "list",data:=.seq its.toArray n }/\xs.length<=sizeLine:=by
 obtain⟨z,its,n,r,e⟩:=I.hok p _ h;exact⟨its,n,r,e,z⟩
theorem Inv.Mp {σ:St}{H:Hp}{p:Addr}{xs ys:List V}{its its':List Value}{n n':Nat}{f:Obj->Obj}(I:Inv X pins σ H s)(h:H p=some (.lst xs))
 (ho:s.heap.get? p=some { cls:=.type "list",data:=.seq its.toArray n })(hf:f { cls:=.type "list",data:=.seq its.toArray n }={ cls:=.type "list",data:=.seq its'.toArray n' })(r:Vals ys its')(hz:ys.length<=sizeLine)(t:Nat) :
    Inv X pins σ (upd H p (.lst ys)) { s with heap:=s.heap.update p f,toks:=t }:=by
  have e:(s.heap.update p f).get? p=some { cls:=.type "list",data:=.seq its'.toArray n' }:=by
    rw[Heap.get?_update_self f ho (by rw[hf]<;>rfl),hf]
  refine I.write (x:=p) (e:=p) (by rw[h];trivial) (.inl Z) (fun b u hb q=>(jq _ _ (dj hb)).trans q) ⟨_,e⟩ ?_;exact⟨hz,its',n',r,e⟩
def P3:V->V->V->Hp->(Hp->Prop)->Prop:=fun o i v H Q=>∃p xs k j,o=.ref p/\i=.int k/\H p=some (.lst xs)/\IH xs.length k=some j/\Q (upd H p (.lst (xs.set j v)))
theorem set_list:Pj X P3:=by
 intro pins s σ H o i v ov iv u Q I ro ri rv h;obtain⟨p,xs,k,j,rfl,rfl,hp,hj,q⟩:=h;cases ro;obtain⟨t,rfl⟩:=ri;obtain⟨its,n,r,ho,hz⟩:=I.lst hp;obtain⟨h1,h2,h3,h4⟩:=D3 hj;have hl:=r.length;have hn:=Ag;have I':Inv X pins σ (upd H p (.lst (xs.set j v))) { s with heap:=s.heap.update p (Obj.mapSeq (·.setIfInBounds j u)) } :=
  I.Mp hp ho (Cz its n j u) (r.set rv j) (by rw[cf];exact hz) s.toks
 by_cases h0:0<=k
 .have hk:k.toNat=j:=by
   rw[jE h0 h4] at h1;exact bK h1
  exact PySem.W.ki_setAt ho h0 jJ (by rw[cy,<-hl];exact h4) (by rw[hk];exact⟨_,I',q⟩)
 .have hk:(k+(its.toArray.size:Int)).toNat=j:=by
   rw[jp jJ h3] at h1;rw[cy,<-hl];exact bK h1
  exact PySem.W.ki_setBack ho jJ (by rw[cy,<-hl];exact h3) jJ (by rw[hk];exact⟨_,I',q⟩)
theorem zC (lo hi:Option Int)(n:Nat):(sliceBounds lo hi none n).1=((HT.Ba n 0 lo:Nat):Int)/\(sliceBounds lo hi none n).2.1=((HT.Ba n n hi:Nat):Int)/\(sliceBounds lo hi none n).2.2=1:=by
 refine⟨?_,?_,Z⟩
 .cases lo with
  | none=>simp[sliceBounds,HT.Ba]
  | some i =>
   simp only[sliceBounds,HT.Ba,Option.getD_none,show (1:Int) > 0 by decide,if_true]
   by_cases h:i<0
   .simp only[h,if_true]<;>omega
   .simp only[h,if_false]<;>omega
 .cases hi with
  | none=>simp[sliceBounds,HT.Ba]
  | some i =>
   simp only[sliceBounds,HT.Ba,Option.getD_none,show (1:Int) > 0 by decide,if_true]
   by_cases h:i<0
   .simp only[h,if_true]<;>omega
   .simp only[h,if_false]<;>omega
theorem xW (its:List Value)(lo hi:Option Int):slicePick its.toArray lo hi none=((its.drop (HT.Ba its.length 0 lo)).take (HT.Ba its.length its.length hi-HT.Ba its.length 0 lo)).toArray:=by
 obtain⟨h1,h2,h3⟩:=zC lo hi its.toArray.size;unfold slicePick;rw[h1,h2,h3];simp only[sliceRange_one,pick_run,List.size_toArray]<;>rfl
def Pm (K:PySem.W.Frag):V->Option Int->Option Int->Hp->VK->Prop:=fun x lo hi H Q=>∃a xs,x=.ref a/\j6 K H a xs/\∀p,H p=none->Q (.ref p) (upd H p (.lst (uk xs lo hi)))
theorem vS:VT X (Pm X.K):=by
 intro pins s σ H x v vl vu lo hi sl Q I rx hs pl pu h;obtain⟨a,xs,rfl,hx,q⟩:=h;cases rx;obtain⟨its,r,ht,hz⟩:=I.list hx;have hlen:=r.length;refine⟨"list",_,slot_list_getitem.lookup,ht.isList.typeIs,?_⟩;refine wpAny_getItem_list_slice ht.isList hs pl pu .none jH ?_ (by rw[List.size_toArray]<;>omega);rw[xW,<-hlen];refine⟨.ref s.heap.objs.size,_,I.laid (t':=s.toks) (o:=.lst (uk xs lo hi)) (fun b ob q=>aQ _ q) (aH _) ?_,Z,q _ (I.hok.fresh (aH _))⟩;exact⟨bL (A6 xs lo hi) hz,_,0,(r.drop (HT.Ba xs.length 0 lo)).take (HT.Ba xs.length xs.length hi-HT.Ba xs.length 0 lo),bZ _ Z⟩
def ub:V->Bool
 | .non=>true
 | .bl _=>true
 | .int _=>true
 | .str _=>true
 | _=>false
def KS:V->V->Bool
 | .non,.non=>true
 | .bl a,.bl b=>a == b
 | .bl a,.int b=>(if a then 1 else 0) == b
 | .int a,.bl b=>a == (if b then 1 else 0)
 | .int a,.int b=>a == b
 | .str a,.str b=>a == b
 | _,_=>false
theorem LO {A:Around}{y x:V}{u v:Value}(ry:RelV y u)(rx:RelV x v)(fy:ub y=true)(fx:ub x=true):SeqAt.EqAt A s u v (KS y x):=by
 cases y with
 | non =>
  cases ry;cases x with
  | non=>cases rx;exact SeqAt.EqAt.same _
  | bl b=>cases rx;exact SeqAt.EqAt.none_bool b
  | int b=>obtain⟨t,rfl⟩:=rx;exact SeqAt.EqAt.none_int b t
  | str b=>obtain⟨t,rfl⟩:=rx;exact SeqAt.EqAt.none_str b t
  | _=>exact absurd (show false=true from fx) bi
 | bl a =>
  cases ry;cases x with
  | non=>cases rx;exact SeqAt.EqAt.bool_none a
  | bl b=>cases rx;exact SeqAt.EqAt.bool_bool a b
  | int b=>obtain⟨t,rfl⟩:=rx;exact SeqAt.EqAt.bool_int a b t
  | str b=>obtain⟨t,rfl⟩:=rx;exact SeqAt.EqAt.bool_str a b t
  | _=>exact absurd (show false=true from fx) bi
 | int a =>
  obtain⟨t',rfl⟩:=ry;cases x with
  | non=>cases rx;exact SeqAt.EqAt.int_none a t'
  | bl b=>cases rx;exact SeqAt.EqAt.int_bool a t' b
  | int b=>obtain⟨t,rfl⟩:=rx;exact SeqAt.EqAt.int_int a t' b t
  | str b=>obtain⟨t,rfl⟩:=rx;exact SeqAt.EqAt.int_str a t' b t
  | _=>exact absurd (show false=true from fx) bi
 | str a =>
  obtain⟨t',rfl⟩:=ry;cases x with
  | non=>cases rx;exact SeqAt.EqAt.str_none a t'
  | bl b=>cases rx;exact SeqAt.EqAt.str_bool a t' b
  | int b=>obtain⟨t,rfl⟩:=rx;exact SeqAt.EqAt.str_int a t' b t
  | str b=>obtain⟨t,rfl⟩:=rx;exact SeqAt.EqAt.str_str a t' b t
  | _=>exact absurd (show false=true from fx) bi
 | _=>exact absurd (show false=true from fy) bi
def JI (x:V)(u:Value):Bool:=match u with
 | .none=>KS .non x
 | .bool b=>KS (.bl b) x
 | .int i _=>KS (.int i) x
 | .str z _=>KS (.str z) x
 | _=>false
theorem FK {x y:V}{u:Value}(r:RelV y u)(f:ub y=true):JI x u=KS y x:=by
 cases y with
 | non=>cases r;rfl
 | bl b=>cases r;rfl
 | int i=>obtain⟨t,rfl⟩:=r;rfl
 | str z=>obtain⟨t,rfl⟩:=r;rfl
 | _=>exact absurd (show false=true from f) bi
theorem yP {x:V}:∀{xs:List V}{us:List Value},Vals xs us->xs.all ub=true->us.any (JI x)=xs.any fun y=>KS y x
 | _,_,.nil,_=>rfl
 | y::xs,u::us,.cons r t,f=>by
  rw[iB,fU] at f;rw[iC,iC,FK r f.1,yP t f.2]
theorem wy {A:Around}{s:Shared}{x:V}{v:Value}(rx:RelV x v)(fx:ub x=true):∀{xs:List V}{us:List Value},Vals xs us->xs.all ub=true->∀u∈us,SeqAt.EqAt A s u v (JI x u)
 | _,_,.nil,_=>fun u hu=>by cases hu
 | y::xs,u::us,.cons r t,f=>fun u' hu=>by
  rw[iB,fU] at f;rcases List.mem_cons.mp hu with rfl | hu
  .rw[FK r f.1];exact LO r rx f.1 fx
  .exact wy rx fx t f.2 u' hu
def O9 (x:V)(xs:List V):Bool:=xs.any fun y=>KS y x
def rIn (K:PySem.W.Frag)(neg:Bool):R2:=fun x y H Q=>∃p xs,y=.ref p/\(j6 K H p xs\/kQ K H p xs)/\ub x=true/\xs.all ub=true/\Q (.bl (if neg then !O9 x xs else O9 x xs)) H
theorem zh:vg X (compareOp .NotIn) (rIn X.K true):=by
 intro pins s σ H x y v u Q I rx ry h;obtain⟨p,xs,rfl,hq,fx,fs,q⟩:=h;cases ry;rcases hq with hq | hq
 .obtain⟨its,r,pl,hz⟩:=I.list hq;refine SeqAt.notIn_listAt (JI x) pl.isList (fun w hw=>wy rx fx r fs w (by simpa using hw)) ⟨.bl _,H,I,Z,?_⟩;rw[show its.toArray.any (JI x)=its.any (JI x) by simp,yP r fs];exact q
 .obtain⟨its,r,pl,hz⟩:=I.tuple hq;refine SeqAt.notIn_tupleAt (JI x) pl (fun w hw=>wy rx fx r fs w (by simpa using hw)) ⟨.bl _,H,I,Z,?_⟩;rw[show its.toArray.any (JI x)=its.any (JI x) by simp,yP r fs];exact q
theorem tY:rz X (.builtin "len") (fun xs H Q=>∃p ys,xs=[.ref p]/\(j6 X.K H p ys\/kQ X.K H p ys)/\Q (.int ys.length) H):=by
 intro pins s σ H xs us Q I r h;obtain⟨p,ys,rfl,hq,q⟩:=h;obtain⟨u,rfl,rx⟩:=vals1 r;cases rx;have hn:=Ag;rcases hq with hq | hq
 .obtain⟨its,r',pl,hz⟩:=I.list hq;have hlen:=r'.length;exact Calls.call_len_list pl.isList (by simp only[List.size_toArray]<;>omega) ⟨.int ys.length,H,I.tok _,⟨s.toks+1,by rw[List.size_toArray,hlen]⟩,q⟩
 .obtain⟨its,r',pl,hz⟩:=I.tuple hq;have hlen:=r'.length;exact len_tuple pl (by simp only[List.size_toArray]<;>omega) ⟨.int ys.length,H,I.tok _,⟨s.toks+1,by rw[List.size_toArray,hlen]⟩,q⟩
theorem nU:rz X (.type "list") (fun xs H Q=>∃p ys,xs=[.ref p]/\(j6 X.K H p ys\/kQ X.K H p ys)/\∀l,H l=none->Q (.ref l) (upd H l (.lst ys))):=by
 intro pins s σ H xs us Q I r h;obtain⟨p,ys,rfl,hq,q⟩:=h;obtain⟨u,rfl,rx⟩:=vals1 r;cases rx;have fin:∀(its:List Value),Vals ys its->ys.length<=sizeLine->∀(h':Heap)(c':Nat),(∀b o',s.heap.get? b=some o'->h'.get? b=some o') ->
   h'.get? s.heap.objs.size=some { cls:=.type "list",dict:=none,data:=.seq its.toArray c',slots:=#[] }->EP X pins σ Q (.ref s.heap.objs.size) { s with heap:=h' }:=fun its r' hz h' c' kp e =>
  ⟨.ref s.heap.objs.size,_,I.laid (t':=s.toks) kp (aH _) (show nI X.prog X.w _ h' _ (.lst ys) from ⟨hz,its,c',r',e⟩),Z,q _ (I.hok.fresh (aH _))⟩
 rcases hq with hq | hq
 .obtain⟨its,r',pl,hz⟩:=I.list hq;have hlen:=r'.length;obtain⟨o,ho,hc,n,hd⟩:=pl.isList;exact call_list_seq p (.inl Z) ho hc hd (fun h' c' kp e=>fin its r' hz h' c' kp e) (by simp only[List.size_toArray]<;>omega)
 .obtain⟨its,r',pl,hz⟩:=I.tuple hq;have hlen:=r'.length;obtain⟨o,ho,hc,n,hd⟩:=pl;exact call_list_seq p (.inr Z) ho hc hd (fun h' c' kp e=>fin its r' hz h' c' kp e) (by simp only[List.size_toArray]<;>omega)
def VL (K:PySem.W.Frag)(T:String)(x:V)(H:Hp):Prop:=match x with
 | .str _=>T = "str"
 | .int _=>T = "int"
 | .ref p=>(T = "list"/\∃xs,j6 K H p xs)\/(T = "tuple"/\∃o,K.lookup p=some o/\o.cls=.type "tuple"/\o.dict=none) \/
   (T = "dict"/\((∃kvs,H p=some (.dK kvs))\/∃kvs,H p=some (.dT kvs)))\/(T = "set"/\∃S n,H p=some (.set S n))
 | _=>dR
theorem GK {σ:St}{H:Hp}{T:String}{x:V}{v:Value}(I:Inv X pins σ H s)(r:RelV x v)(ty:VL X.K T x H) :
  s.TypeIs v T/\∀a,v=.ref a->∃ob,s.heap.get? a=some ob/\ob.dict=none:=by
 cases x with
 | str z =>
  obtain⟨t,rfl⟩:=r;cases (show T = "str" from ty);exact⟨typeIs_str s z t,fun _ e=>nomatch e⟩
 | int i =>
  obtain⟨t,rfl⟩:=r;cases (show T = "int" from ty);exact⟨typeIs_int s i t,fun _ e=>nomatch e⟩
 | ref p =>
  cases r;rcases ty with ⟨rfl,xs,hq⟩ | ⟨rfl,o,hk,hc,hd⟩ | ⟨rfl,hk⟩ | ⟨rfl,S,n,hk⟩
  .obtain⟨its,_,pl,_⟩:=I.list hq;refine⟨pl.isList.typeIs,fun a e=>?_⟩;cases e;obtain⟨o,n,e,c,hd,_⟩:=pl;exact⟨o,e,hd⟩
  .refine⟨⟨o,I.vJ p o hk,hc⟩,fun a e=>?_⟩;cases e;exact⟨o,I.vJ _ o hk,hd⟩
  .have z:∃o,s.heap.get? p=some o/\o.ExactDict:=by
    rcases hk with ⟨kvs,hk⟩ | ⟨kvs,hk⟩
    .obtain⟨_,_,_,_,o,_,_,e,ex,_⟩:=I.hok p _ hk;exact⟨o,e,ex⟩
    .obtain⟨_,_,_,_,o,_,_,e,ex,_⟩:=I.hok p _ hk;exact⟨o,e,ex⟩
   obtain⟨o,e,ex⟩:=z;refine⟨⟨o,e,ex.1⟩,fun a e2=>?_⟩;cases e2;exact⟨o,e,ex.2.1⟩
  .obtain⟨o,_,_,_,e,ex,_⟩:=I.hok p _ hk;refine⟨⟨o,e,ex.1⟩,fun a e2=>?_⟩;cases e2;exact⟨o,e,ex.2.1⟩
 | _=>exact False.elim ty
def W6 (K:PySem.W.Frag)(T:String)(r:V->List V->Hp->VK->Prop)(to:TE):TE:=fun σ H Q=>to σ H fun x H1=>VL K T x H1/\r x [] H1 Q
def tBM (K:PySem.W.Frag)(T:String)(r:V->List V->Hp->VK->Prop)(to:TE)(t:TA):TE:=fun σ H Q=>to σ H fun x H1=>VL K T x H1/\t σ H1 fun xs H2=>r x xs H2 Q
variable {o e:Expr}{es:List Expr}{to:TE}{t:TA}{name:Str}{apos cpos:Pos}{T id:String}{r:V->List V->Hp->VK->Prop}
theorem wq (pa:PlainAttrs T)(slot:Slot T name id)(Xq:typeOf (.builtin id)=pure (.type "method_descriptor"))(hm:Zg X id r)(ho:PE X o to)
  (Ik:attributeBase o name X.env (eval o X.env)=eval o X.env:=by rfl)(Il:(apos.endLine == cpos.line)=true:=by rfl):PE X (.Call (.Attribute o name apos) [] [] cpos) (W6 X.K T r to):=by
 intro pins s σ H Q I h;refine wpAny_Call_method0_late Ik Il (mQ (ho pins s σ H _ I h) fun v s1 ⟨x,H1,I1,r1,ty,q1⟩=>?_);obtain⟨h1,h2⟩:=GK I1 r1 ty;exact⟨T,id,pa,slot,Xq,h1,h2,jr Z (PySem.evalArgs_none (hm pins s1 σ H1 x [] v [] Q I1 r1 .nil q1))⟩
theorem t6 (pa:PlainAttrs T)(slot:Slot T name id)(Xq:typeOf (.builtin id)=pure (.type "method_descriptor"))(hm:Zg X id r)(ho:PE X o to)(ha:PA X (e::es) t)
  (Ik:attributeBase o name X.env (eval o X.env)=eval o X.env:=by rfl)
  (Xr:((backTo cpos (starEach (e::es) X.env)).all (fun x=>!x.1) && (backToKw cpos (keywordEach [] X.env)).all (fun x=>x.1.isSome)
   && decide ((e::es).length+([]:List Keyword).length+(if ([]:List Keyword).isEmpty then 0 else 1)<30))=true:=by rfl)
  (Il:(apos.endLine == cpos.line)=true:=by rfl)(hs:starEach (e::es) X.env=(false,eval e X.env)::starEach es X.env:=by rfl)(Nq:(backTo cpos (starEach es X.env)).any (·.1)=false:=by rfl) :
  PE X (.Call (.Attribute o name apos) (e::es) [] cpos) (tBM X.K T r to t):=by
 intro pins s σ H Q I h;refine wpAny_Call_method_late Ik Xr Il Z (mQ (ho pins s σ H _ I h) fun v s1 ⟨x,H1,I1,r1,ty,q1⟩=>?_);obtain⟨h1,h2⟩:=GK I1 r1 ty;refine⟨T,id,pa,slot,Xq,h1,h2,?_⟩;have hA:=ha cpos pins s1 σ H1 _ I1 q1;rw[hs] at hA ⊢;refine jr (by show (false || (backTo cpos (starEach es X.env)).any (·.1))=false;rw[Nq]<;>rfl) (Calls.evalArgs_plain ?_);exact mQ hA fun us s2 ⟨vs,H2,I2,r2,q2⟩=>hm pins s2 σ H2 x vs v us Q I2 r1 r2 q2
end
def Zf (X:Cx)(id:String)(r:V->List V->Hp->VK->Prop):Prop :=
 ∀(pins:List (Addr×Obj))(s:Shared)(σ:St)(H:Hp)(x:V)(xs:List V)(v:Value)(us:List Value)(Q:VK),Inv X pins σ H s->RelV x v->Vals xs us->r x xs H Q ->
  wpAny (model X.prog X.w) X.A (call (.builtin id) (v::us)) (EP X pins σ Q) X.xe s
theorem Vals.one:∀{x:V}{us:List Value},Vals [x] us->∃u,us=[u]/\RelV x u
 | _,_,.cons r .nil=>⟨_,Z,r⟩
theorem Vals.zero:∀{us:List Value},Vals [] us->us=[]
 | _,.nil=>rfl
theorem Vals.rep {xs:List V}{us:List Value}(h:Vals xs us):∀k:Nat,Vals (List.replicate k xs).flatten (List.replicate k us).flatten
 | 0=>.nil
 | k+1=>by
  rw[c9,c9,eT,eT];exact Vals.append h (Vals.rep h k)
theorem foldl_rep (its:List Value):∀(k:Nat)(acc:List Value),
  List.foldl (fun x1 x2=>x1++x2) acc.toArray (List.replicate k its.toArray)=(acc++(List.replicate k its).flatten).toArray
 | 0,acc=>by simp
 | k+1,acc=>by
  have e:acc.toArray++its.toArray=(acc++its).toArray:=by simp
  have e2:(acc++its)++(List.replicate k its).flatten=acc++(List.replicate (k+1) its).flatten:=by
   rw[c9,eT,gk]
  rw[<-e2,<-foldl_rep its k (acc++its),<-e,c9,List.foldl_cons]
section
variable {X:Cx}{pins:List (Addr×Obj)}{σ:St}{H:Hp}{s:Shared}{l:Addr}{xs ys:List V}
theorem Inv.Vx {its its':List Value}{n:Nat}{f:Array Value->Array Value}{t':Nat}(I:Inv X pins σ H s)(hH:H l=some (.lst xs))
  (e:s.heap.get? l=some { cls:=.type "list",data:=.seq its.toArray n })(hf:f its.toArray=its'.toArray)(hv:Vals ys its')(hz:ys.length<=sizeLine) :
  Inv X pins σ (upd H l (.lst ys)) { s with heap:=s.heap.update l (Obj.mapSeq f),toks:=t' }:=by
 have q:=PySem.IsL.update e f;rw[hf] at q;refine I.write (x:=l) (e:=l) (by rw[hH];exact trivial) (.inl Z) (fun b' u hb hu=>(jq s.heap (Obj.mapSeq f) (dj hb)).trans hu) ⟨_,q⟩ ?_;exact⟨hz,its',_,hv,q⟩
theorem Inv.Pb {its:List Value}{t':Nat}(I:Inv X pins σ H s)(hv:Vals ys its)(hz:ys.length<=sizeLine) :
  Inv X pins σ (upd H s.heap.objs.size (.lst ys)) { s with heap:=s.heap.push { cls:=.type "list",data:=.seq its.toArray },toks:=t' } :=
 I.laid (fun _ _ q=>aQ _ q) (aH _) ⟨hz,its,0,hv,bZ _ Z⟩
theorem Inv.fresh (I:Inv X pins σ H s):H s.heap.objs.size=none:=I.hok.fresh (aH _)
theorem Inv.JM (I:Inv X pins σ H s)(hH:H l=some (.lst xs)):xs.length<=sizeLine/\∃(its:List Value)(n:Nat),Vals xs its/\xs.length=its.length/\s.heap.get? l=some { cls:=.type "list",data:=.seq its.toArray n }:=by
 obtain⟨z,its,n,r,e⟩:=I.hok l _ hH;exact⟨z,its,n,r,r.length,e⟩
theorem Gs {n:Nat}(h:n<=sizeLine):Builtin.List.listTooLong n=false:=by
 unfold Builtin.List.listTooLong;exact d5 jJ
end
section
variable {X:Cx}
def IW:V->List V->Hp->VK->Prop:=fun x vs H Q=>∃l xs y,x=.ref l/\vs=[y]/\H l=some (.lst xs)/\xs.length<sizeLine/\Q .non (upd H l (.lst (xs++[y])))
theorem mS:Zf X "list.append" IW:=by
 intro pins s σ H x vs v us Q I rx rv h;obtain⟨l,xs,y,rfl,rfl,hH,hz,q⟩:=h;cases rx;obtain⟨u,rfl,ru⟩:=rv.one;obtain⟨z,its,n,r,hl,e⟩:=I.JM hH;refine call_meets F.slot_list_append ⟨_,e,Z⟩ F.entry_list_append (F.args_list_append_2 _ _) (PySem.list_append l its.toArray n u (by rw[cy];omega)) ⟨e,?_⟩;refine⟨.non,_,I.Vx (its':=its++[u]) hH e jH (r.append (.cons ru .nil)) ?_,Z,q⟩;rw[aI,dD];omega
def Tv:R2:=fun x y H Q=>∃l b xs zs,x=.ref l/\y=.ref b/\H l=some (.lst xs)/\H b=some (.lst zs)/\xs.length+zs.length<=sizeLine/\∀p,H p=none->Q (.ref p) (upd H p (.lst (xs++zs)))
theorem sZ:vg X (binaryOp .Add) Tv:=by
 intro pins s σ H x y v u Q I rx ry h;obtain⟨l,b,xs,zs,rfl,rfl,hH,hB,hz,q⟩:=h;cases rx;cases ry;obtain⟨z,its,n,r,hl,e⟩:=I.JM hH;obtain⟨z2,QC,n2,r2,Kh,e2⟩:=I.JM hB;refine PySem.P.add_list e e2 ?_ (by rw[cy,cy];omega);have ea:its.toArray++QC.toArray=(its++QC).toArray:=by simp
 rw[ea];exact⟨.ref _,_,I.Pb (t':=s.toks) (r.append r2) (by rw[aI];omega),Z,q _ I.fresh⟩
def U8:R2:=fun x y H Q=>∃l k xs,x=.ref l/\y=.int k/\H l=some (.lst xs)/\-(2^63)<=k/\k<2^63/\xs.length*k.toNat<=sizeLine /\
 ∀p,H p=none->Q (.ref p) (upd H p (.lst (List.replicate k.toNat xs).flatten))
theorem len_rep {α:Type}(xs:List α)(k:Nat):(List.replicate k xs).flatten.length=k*xs.length:=by
 induction k with
 | zero=>simp
 | succ k ih=>rw[c9,eT,aI,ih,fQ,Nat.add_comm]
theorem p9:vg X (binaryOp .Mult) U8:=by
 intro pins s σ H x y v u Q I rx ry h;obtain⟨l,k,xs,rfl,rfl,hH,h1,h2,hz,q⟩:=h;cases rx;obtain⟨t,rfl⟩:=ry;obtain⟨z,its,n,r,hl,e⟩:=I.JM hH;have hlen:its.toArray.size*k.toNat<=sizeLine:=by rw[cy,<-hl];exact hz
 have xw:¬its.toArray.size*k.toNat > (2^63-1)/8:=by
  have:(sizeLine:Nat)<=(2^63-1)/8:=O;omega
 have Xs:¬(!Builtin.List.listFitsIndex k)=true:=by
  rw[fitsIndex_both h1 h2];exact bi
 have QD:¬Builtin.List.listTooLong (its.toArray.size*k.toNat)=true:=by
  rw[Gs hlen];exact bi
 have Xu:List.foldl (fun x1 x2=>x1++x2) #[] (List.replicate (if its.toArray.isEmpty=true then 0 else k.toNat) its.toArray)=(List.replicate k.toNat its).flatten.toArray:=by
  have f0:∀m:Nat,List.foldl (fun x1 x2=>x1++x2) #[] (List.replicate m its.toArray)=(List.replicate m its).flatten.toArray:=fun m=>by
   have:=foldl_rep its m [];rw[ii] at this;exact this
  rw[f0];cases its with
  | nil=>simp
  | cons a r'=>rw[ao jH]
 refine wpAny_binaryOp_repeat_ref (T:="list") (U:="int") O ⟨_,e,Z⟩ (fun s'=>typeIs_int s' k t) noFill_list_mul F.fills_int_mul F.slot_int_rmul repeat_list F.slot_int_index.lookup
  (call_meets F.slot_int_rmul (typeIs_int s k t) F.entry_int_rmul (F.args_int_rmul_2 _ _) (int___rmul___int_list k t l its.toArray n)
   ⟨e,Z,⟨_,e,Z⟩,call_meets F.slot_list_mul ⟨_,e,Z⟩ F.entry_list_mul (F.args_list_mul_2 _ _) (AutoListH.list___mul___list_int_3 l its.toArray n k t Xs xw QD) ⟨e,?_⟩⟩)
 rw[Xu];exact⟨.ref _,_,I.Pb (t':=s.toks) (r.rep k.toNat) (by rw[len_rep,fR];exact hz),Z,q _ I.fresh⟩
end
end L2
namespace Att
open PySem PySem.W PySem.Calls PyProof.Rows
theorem vA {P:Params}{h:Heap}:∀(ns:List Int)(vs:List Value),WellAll P h vs (ns.map WData.int)->IntsAre vs ns:=by
 intro ns
 induction ns with
 | nil =>
  intro vs w;rw[iI] at w;cases w;exact .nil
 | cons n ns ih =>
  intro vs w;rw[df] at w;cases w with
  | cons a b =>
   cases a;exact .cons _ _ (ih _ b)
theorem EY {l:OpenLaw}{n:Nat}(hn:l.most=some n){P:Params}{h:Heap}{args:List WData}{vals:List Value}
  (Fb:l.row.toRowW.claim.pre args=true)(QE:WellAll P h vals args) :
  ∃a vs ns,vals=[Value.ref a]/\args=[WData.list (ns.map WData.int)]/\h.get? a=some { cls:=.type "list",data:=.seq vs.toArray }/\IntsAre vs ns/\ns.length<=n:=by
 have hsh:WShape.hasAll [] args [.list .int]=true:=(pre_splitW Fb).1;have hc:l.pre.holds [] { args:=args }=true:=(pre_splitW Fb).2;obtain⟨d,r,rfl,h1,h2⟩:=hasAllW_cons hsh;obtain rfl:=hasAllW_nil h2;obtain⟨xs,rfl,h3⟩:=hasW_list h1;obtain⟨ns,rfl⟩:=items_int h3;have hlen:ns.length<=n:=by
  unfold OpenLaw.pre at hc;have h4:(WTm.not (.lt (.lit (.int (n:Int))) (.len (.arg 0)))).holds [] { args:=[.list (ns.map .int)] }=true:=by
   have h4:=(holds_andW hc).1;rw[hn] at h4;exact h4
  have h5:=condW_of h4 (w_not (w_lt w_lit (w_len_list (w_arg Z))));rw[aa] at h5;refine fj fun q=>?_;have q':(n:Int)<((ns.length:Nat):Int):=jJ
  first
   | (rw[cm q'] at h5;exact absurd h5 O)
   | (simp at h5;omega)
 cases QE with
 | cons w1 w2 =>
  cases w2;cases w1 with
  | list ho Xv=>exact⟨_,_,ns,Z,Z,ho,vA ns _ Xv,hlen⟩
theorem EF (l:OpenLaw)(args:List WData):l.row.toRowW.claim.post args (.bool true) args=true :=
 postW_of (r:=l.row.toRowW) (X:=(true == true))
  (show WShape.has [] (.bool true) .bool=true by first | rfl | decide | simp[WShape.has,WShape.arms,WShape.armsAll])
  (show (WTm.eq .res (.lit (.bool true))).value [] { args:=args,res:=some (.bool true),after:=args }=some (.bool (true == true)) from w_eq_bool (w_res Z) w_lit) Z
theorem A3 {l:OpenLaw}{n:Nat}{q:Program}{loose:List Str}{XP:(Str->Option Value)->Heap->Prop}{YP:World->Heap->Prop}{d:DefRec}
  (hn:l.most=some n)(QF:d.params.defaults=[])
  (call:∀(w:World)(s₀ s₁:Shared)(mg mb:Str->Option Value)(fa:Addr)(o:Obj)(pm cd doc:Value)(a:Addr)(vs:List Value)(ns:List Int),
   Ground q loose [] XP w s₀ mg mb s₁.heap->YP w s₁.heap ->
   s₁.heap.get? fa=some o->o.data=.func (docDef d.name d.params d.body d.scope pm cd doc)->s₁.heap.CodeRec cd d.name->mg d.name=some (.ref fa) ->
   s₁.heap.get? a=some { cls:=.type "list",data:=.seq vs.toArray }->IntsAre vs ns->ns.length<=n->s₁.gens=#[] ->
   codeAny (model l.prog w) callerA (.call (.ref fa) ⟨[.ref a],[]⟩) (fun r s'=>r=.ok (.ret (.bool true))/\OldK s₁.heap s'.heap/\s'.os=s₁.os/\AllBare s'.gens) s₁) :
  WalkO q loose XP YP l.row.toRowW d [] (fun f vs=>PySem.call f vs):=by
 intro w s₀ s₁ mg mb G Y fa o pm cd doc dV kV ho hd Ec hD Nr hg args vals as Fb QG Zu QE yK;obtain rfl:dV=.none:=Dflts.none hD QF;obtain rfl:kV=.none:=Dflts.noKw hD;obtain⟨a,vs,ns,rfl,rfl,Nt,hints,hlen⟩:=EY hn Fb QE;refine enter_call (iw (call w s₀ s₁ mg mb fa o pm cd doc a vs ns G Y ho (fd_plain hd) Ec Nr Nt hints hlen hg) fun r s' hq=>?_);obtain⟨rfl,h2,h3,h4⟩:=hq;exact⟨.inl ⟨.bool true,.bool true,[],Z,fun _=>Z,.bool true,EF l _,fun _=>⟨List.Pairwise.nil,fun _ hm=>(nomatch hm)⟩⟩,h2,h3,h4⟩
end Att
namespace L2
open PySem PySem.Spec PyProof.Rows
theorem yf:∀{vs:List Value}{ns:List Int},IntsAre vs ns->Vals (ns.map V.int) vs
 | _,_,.nil=>.nil
 | _,_,.cons n t h=>.cons ⟨t,Z⟩ (yf h)
def Nf (H:Hp):Prop:=∀b,H b=none\/∃o xs,H b=some (.frz o (.lst xs))
theorem HW {P:Program}{w:World}{K:PySem.W.Frag}{mg mb:Str->Option Value}{CX:Gm}{k:Nat}{fa a:Addr}{fd:FuncData}{x:Str}{sp:Sp}{s₁:Shared}{vs:List Value}{ns:List Int}
  (KX:K.In s₁.heap)(Zv:s₁.heap.Ns mainGlobals mg)(hb:s₁.heap.Ns builtinsNs mb)(hbb:∀x:Str,x≠"__name__"->mb x=bootBuiltins x)(Xw:s₁.heap.NoLimit)(hg:s₁.gens=#[])
  (ha:s₁.heap.get? a=some { cls:=.type "list",data:=.seq vs.toArray })(hi:IntsAre vs ns)(hl:ns.length<=sizeLine)(hr:nM k callerA)
  (F:∀base:Heap,K.In base->base.Ns mainGlobals mg->rD P w K mg base CX k fa fd [x] sp)(QH:∀(s:Shared)(u:Value),BindsTo s fd ⟨[u],[]⟩ [(x,u)])
  (hsp:∀H:Hp,Nf H->j6 K H a (ns.map V.int)->sp [.ref a] H (fun v _=>v=.bl true) fun _ _ _=>dR)
  (hCX:∀H e s',CX [] H s₁ (fun _ _ _=>dR) e s'->dR) :
  codeAny (model P w) callerA (.call (.ref fa) ⟨[.ref a],[]⟩) (fun r s'=>r=.ok (.ret (.bool true))/\OldK s₁.heap s'.heap/\s'.os=s₁.os/\AllBare s'.gens) s₁:=by
 have rv:=yf hi;have Xx:=hi.length
 -- from an abstract heap in Zw nothing but the script may be tracked
 have core:∀H:Hp,Nf H->j6 K H a (ns.map V.int)->vK P w H s₁.heap->(∀b,H b≠none->b=a)->(H a≠none->K.lookup a=none) ->
   codeAny (model P w) callerA (.call (.ref fa) ⟨[.ref a],[]⟩) (fun r s'=>r=.ok (.ret (.bool true))/\OldK s₁.heap s'.heap/\s'.os=s₁.os/\AllBare s'.gens) s₁:=by
  intro H hO hS hok hA hK;have base_of:∀{b:Addr}{o:Obj},s₁.heap.get? b=some o->H b=none->(za s₁.heap H).get? b=some o:=fun e n=>F9 e n;have noA:∀{b:Addr}{o:Obj}{es:Array DictEntry}{ep:Nat},s₁.heap.get? b=some o->o.data=.dict es ep->H b=none:=fun {b o es ep} e d=>by
   cases q:H b with
   | none=>rfl
   | some u =>
    have e':b=a:=hA b (by rw[q];simp);subst e';rw[ha] at e;cases e;have d':Data.seq vs.toArray _=Data.dict es ep:=d;cases d'
  have Se:∀{b:Addr}{m:Str->Option Value},s₁.heap.Ns b m->(za s₁.heap H).Ns b m:=fun {b m} ⟨o,es,ep,e,d,r⟩=>⟨o,es,ep,base_of e (noA e d),d,r⟩;have Zx:K.In (za s₁.heap H):=fun b o e=>base_of (KX b o e) (by
   cases q:H b with
   | none=>rfl
   | some u =>
    have e':b=a:=hA b (by rw[q];simp);subst e';rw[hK (by rw[q];simp)] at e;cases e)
  have hM:Mod K mg (za s₁.heap H):=⟨Zx,Se Zv,⟨mb,Se hb,hbb⟩,let ⟨mc,h1,h2⟩:=Xw;⟨mc,Se h1,h2⟩⟩;have e0:CU P w K mg (za s₁.heap H) callerA [] s₁ H:=⟨Z,hM,fun b o e=>J4 e,iG (Ez _ _),trivial,fun b hb=>absurd (show b∈([]:List Addr) from hb) jH,hok,.of_eq hg⟩;refine iw ((F _ Zx (Se Zv)).run callerA [] s₁ H ⟨[.ref a],[]⟩ [.ref a] [.ref a] _ _ hr e0 (QH s₁ (.ref a)) (.cons Z .nil) (hsp H hO hS)) fun r s' h=>?_;cases r with
  | error e=>exact(hCX H e s' h).elim
  | ok fl =>
   cases fl with
   | next=>exact False.elim h
   | brk=>exact False.elim h
   | cont=>exact False.elim h
   | ret u =>
    obtain⟨v,H',os,bare,un,Xy,r',q⟩:=h;have q':v=.bl true:=q;subst q';obtain rfl:u=Value.bool true:=r';refine⟨Z,OldK.of_keep fun b o e=>?_,os,bare⟩;cases q:H b with
    | none=>exact un.keep b o e q (by intro z;exact absurd (show b∈([]:List Addr) from z) jH) jH
    | some u =>
     rcases hO b with z | ⟨ob,xs,z⟩
     .rw[q] at z;cases z
     .have z2:=un.frzs b ob _ z;obtain⟨e1,_⟩:=hok b _ z;obtain⟨e2,_⟩:=Xy b _ z2;rw[e] at e1;cases e1;exact e2
 cases hk:K.lookup a with
 | some o =>
  -- the script is one of the QI own objects
  have e:=KX a o hk;rw[ha] at e;cases e;refine core (fun _=>none) (fun _=>.inl Z) (.inr ⟨_,vs.toArray,_,hk,Z,Z,Z,by rw[cy,Xx];exact hl,by simpa using rv⟩) (fun b u z=>by have z':(none:Option HO)=some u:=z;cases z') (fun b z=>absurd Z z) fun z=>absurd Z z
 | none =>
  refine core (fun b=>if b=a then some (.frz { cls:=.type "list",data:=.seq vs.toArray } (.lst (ns.map V.int))) else none) (fun b=>?_) (.inl (.inr ⟨{ cls:=.type "list",data:=.seq vs.toArray },aD Z⟩)) (fun b u z=>?_) (fun b z=>?_) fun _=>hk
  .by_cases hb:b=a
   .exact .inr ⟨_,_,aD hb⟩
   .exact .inl (ao hb)
  .by_cases hb:b=a
   .have z':=(aD hb).symm.trans z;cases z';subst hb;exact⟨ha,by rw[aa];exact hl,vs,_,rv,ha⟩
   .have z':=(ao hb).symm.trans z;cases z'
  .by_cases hb:b=a
   .exact hb
   .exact absurd (ao hb) z
theorem Ju {l:PySem.W.OpenLaw}{n k:Nat}{q:Program}{loose:List Str}{XP:(Str->Option Value)->Heap->Prop}{YP:World->Heap->Prop}{d:DefRec}{K:Params->PySem.W.Frag}{CX:World->Gm}{sp:World->Sp}{x:Str}
  (hn:l.most=some n)(Sd:n<=sizeLine)(QF:d.params.defaults=[])(hr:nM k callerA)
  (hY:∀(w:World)(h:Heap),YP w h->(K w.params).In h)
  (F:∀(w:World)(mg:Str->Option Value)(fa:Addr)(h:Heap),(K w.params).In h->h.Ns mainGlobals mg->mg d.name=some (.ref fa) ->
   ∃fd:FuncData,(∀(s:Shared)(u:Value),BindsTo s fd ⟨[u],[]⟩ [(x,u)]) /\
    ∀base:Heap,(K w.params).In base->base.Ns mainGlobals mg->rD l.prog w (K w.params) mg base (CX w) k fa fd [x] (sp w))
  (hsp:∀(w:World)(H:Hp)(a:Addr)(ns:List Int),ns.length<=n->Nf H->j6 (K w.params) H a (ns.map V.int)->sp w [.ref a] H (fun v _=>v=.bl true) fun _ _ _=>dR)
  (hCX:∀(w:World)(H:Hp)(s:Shared)(e:Value)(s':Shared),CX w [] H s (fun _ _ _=>dR) e s'->dR) :
  PySem.W.WalkO q loose XP YP l.row.toRowW d [] (fun f vs=>PySem.call f vs):=by
 refine Att.A3 hn QF fun w s₀ s₁ mg mb fa o pm cd doc a vs ns G Y ho hd Ec Nr Nt hints hlen hg=>?_;have KX:=hY w _ Y;obtain⟨fd,hb,hF⟩:=F w mg fa _ KX G.T.g Nr;exact HW KX G.T.g G.T.b G.T.builtins G.T.nolimit hg Nt hints (bL hlen Sd) hr hF hb (fun H hO hS=>hsp w H a ns hlen hO hS) fun H e s'=>hCX w H s₁ e s'
variable {A B:Prop}
def inClass (s:Stmt)(j:Nat):Stmt:=match s with
 | .ClassDef _ _ _ body _ _ _ _ _ _ _=>body.getD j (.Pass ⟨0,0,0,0⟩)
 | _=>.Pass ⟨0,0,0,0⟩
def ma (s:Stmt):Arguments:=match s with
 | .FunctionDef _ a _ _ _ _ _ _ _ _=>a
 | _=>{ posonlyargs:=[],args:=[],vararg:=none,kwonlyargs:=[],kw_defaults:=[],kwarg:=none,defaults:=[] }
def lC (s:Stmt):List Stmt:=match s with
 | .FunctionDef _ _ b _ _ _ _ _ _ _=>b
 | _=>[]
def jW (s:Stmt):Scope:=match s with
 | .FunctionDef _ _ _ _ _ _ sc _ _ _=>sc
 | _=>{ kind:=.function,names:=[],isGenerator:=false,isCoroutine:=false }
abbrev D5:Gm:=fun _ _ _ _ _ _=>dR
abbrev E0:XK:=fun _ _ _=>dR
theorem FE {X:Cx}:Passes D5 X E0:=fun _ _ _ _ _ _ _ h=>h.elim
structure Dx (K:PySem.W.Frag)(x qual:Str)(st:Stmt)(f:Addr)(fd:FuncData):Prop where
 ex:∃(oc:Value)(od:Option Addr)(kV doc pm:Value)(an:Option Addr)(cdv ct:Value)(osl:Array (Option Value)),
  fd=PySem.W.fnOf x qual (ma st) (lC st) (jW st) .none kV doc pm an cdv ct/\K.lookup f=some ⟨oc,od,.func fd,osl⟩/\PySem.W.codeIn K cdv qual=true
 kp:PySem.W.keepIn K (.ref f)=true
section
variable {P:Program}{w:World}{K:PySem.W.Frag}{mg:Str->Option Value}{base:Heap}
theorem Dx.ok {x qual:Str}{st:Stmt}{f:Addr}{fd:FuncData}{N ps:List Str}{k:Nat}{sp:Sp}(F:Dx K x qual st f fd)(S:jZ N ps (jW st))(len:∀vs H Q E,sp vs H Q E->vs.length=ps.length)
  (hbody:∀(cdv:Value)(A:Around)(outer:List Env)(s:Shared)(H:Hp)(vs:List V)(Q:VK)(E:XK),nM k (A.deeper (envOfC qual (jW st) s.heap.objs.size f cdv))->sp vs H Q E ->
   ∃t,yp (xO D5 P w K mg base N qual (jW st) f cdv A outer s H E).Fk (lC st) t/\t { nx:=fun _ H'=>Q .non H',rt:=Q } (start N vs) H):rD P w K mg base D5 (k+1) f fd ps sp:=by
 obtain⟨oc,od,kV,doc,pm,an,cdv,ct,osl,rfl,lk,Ec⟩:=F.ex;refine Ps lk Ec S len fun A outer s H vs Q E hr hsp=>?_;obtain⟨t,h,q⟩:=hbody cdv A outer s H vs Q E hr hsp;exact⟨t,h.Fk,q⟩
theorem Dx.binds {x qual:Str}{st:Stmt}{f:Addr}{fd:FuncData}{ps:List Str}(F:Dx K x qual st f fd)
  (h:∀(kV doc pm:Value)(an:Option Addr)(cdv ct:Value)(us:List Value),us.length=ps.length->bindArgs (PySem.W.fnOf x qual (ma st) (lC st) (jW st) .none kV doc pm an cdv ct) ⟨us,[]⟩=pure (ps.zip us)):Binds K fd ps []:=by
 obtain⟨oc,od,kV,doc,pm,an,cdv,ct,osl,rfl,lk,Ec⟩:=F.ex;exact .all (h kV doc pm an cdv ct)
theorem FS {x qual:Str}{st:Stmt}{f:Addr}{oc:Value}{od an:Option Addr}{osl:Array (Option Value)}{kV doc pm cdv ct:Value}(l:K.lookup f=some ⟨oc,od,.func (PySem.W.fnOf x qual (ma st) (lC st) (jW st) .none kV doc pm an cdv ct),osl⟩)
  (c:PySem.W.codeIn K cdv qual=true)(k:PySem.W.keepIn K (.ref f)=true):Dx K x qual st f (PySem.W.fnOf x qual (ma st) (lC st) (jW st) .none kV doc pm an cdv ct):=⟨⟨oc,od,kV,doc,pm,an,cdv,ct,osl,Z,l,c⟩,k⟩
end
section
variable {X:Cx}
theorem pv (i:Nat){x:Str}{pos:Pos}(hN:X.N[i]?=some x:=by rfl)(hv:R3 X.env.scope x:=by first | exact Or.inl Z | exact Or.inr (Or.inl Z) | exact Or.inr (Or.inr Z))(hd:(x == ("__debug__":Str))=false:=by decide)
  (Ec:(x == ("__classdict__":Str))=false:=by decide):PE X (.Name x pos) (Qf i):=Mj hN hv hd Ec
end
theorem Ae (h:B):if false=true then A else B:=by
 rw[ao bi];exact h
theorem PF (h:A):if true=true then A else B:=by
 rw[aD Z];exact h
theorem mZ {c:Prop} [Decidable c] (h1:c->A)(h2:¬c->B):if c then A else B:=by
 by_cases h:c
 .rw[aD h];exact h1 h
 .rw[ao h];exact h2 h
theorem yw {c:Prop} [Decidable c] (hc:c)(h:B):if (!decide c)=true then A else B:=by
 rw[cm hc];exact Ae h
def jU (H H':Hp):Prop:=∀b o,H b=some o->H' b=some o
theorem jU.refl (H:Hp):jU H H:=fun _ _ h=>h
theorem jU.trans {H H1 H2:Hp}(a:jU H H1)(b:jU H1 H2):jU H H2:=fun c o h=>b c o (a c o h)
theorem jU.free {H H':Hp}(e:jU H H'){l:Addr}(h:H' l=Option.none):H l=Option.none:=by
 cases q:H l with
 | none=>rfl
 | some o =>
  rw[e l o q] at h;cases h
theorem jU.seq {K:PySem.W.Frag}{H H':Hp}{a:Addr}{xs:List V}(e:jU H H')(h:j6 K H a xs):j6 K H' a xs:=by
 rcases h with (h | ⟨o,h⟩) | h
 .exact .inl (.inl (e _ _ h))
 .exact .inl (.inr ⟨o,e _ _ h⟩)
 .exact .inr h
set_option maxHeartbeats 5000000
variable {cl:List (Str×Addr)}{ifs:List Expr}{mV:List (Str×Nat)}{oW:List Str}{g:TG}{tc:TT}{te:TE}
section
variable {A:Around}{prog:Program}{w:World}{s:Shared}{R:Result->Shared->Prop}
theorem zc {el Sf src:Expr}{tests:List Expr}{sc:Scope}{ps:Pos}{Li ac:Value}{env:Env}(zgR:Nat->Shared->Prop)
  (trn:∀k t,zgR k t->wpAny (model prog w) A (pyNext Li) (fun z Fc=>match z with
   | none=>R (.ok .next) Fc
   | some v=>wpAny (model prog w) A (letOwnedTupleGo Sf Li v) (fun _ Fc=>wpAny (model prog w) A (assign Sf env v) (fun _ QJ =>
     wpAny (model prog w) A (forIn tests true fun Zy go=>if go=true then do let yes <-isTrue Zy env (eval Zy env);pure (ForInStep.yield yes) else pure (ForInStep.yield go)) (fun yes Nu =>
      if yes=true then wpAny (model prog w) A (eval el env) (fun x QK =>
       wpAny (model prog w) A (call (.builtin "list.append") [ac,x]) (fun _ QL=>∃m,m<k/\zgR m QL) (fun _ _=>dR) QK) (fun _ _=>dR) Nu
      else ∃m,m<k/\zgR m Nu) (fun _ _=>dR) QJ) (fun _ _=>dR) Fc) (fun _ _=>dR) Fc) (fun _ _=>dR) t)
  (k:Nat)(h:zgR k s):codeAny (model prog w) A (.compLoop (.ListComp el [⟨Sf,src,tests,0⟩] sc ps) 0 Li ac env) R s:=by
 refine codeAny_loop Z zgR (fun k t hJ=>?_) k h;refine(wpAny_noted (m:=compTurn (.ListComp el [⟨Sf,src,tests,0⟩] sc ps) 0 Li ac env) ?_:wpAny _ A _ _ _ t);rw[compTurn_list];refine cI (i9 (cI (eC (trn k t hJ) (fun z Fc Ki=>?_) fun _ _ f=>f.elim)));cases z with
 | none=>exact dM Ki
 | some v =>
  refine cI (eC Ki (fun _ Fc Ki=>?_) fun _ _ f=>f.elim);refine cI (eC Ki (fun _ QJ Xz=>cI (eC Xz (fun yes Nu QM=>?_) fun _ _ f=>f.elim)) fun _ _ f=>f.elim);cases yes with
  | false=>exact dM (And.intro Z QM)
  | true =>
   exact cI (cI (eC QM (fun x QK XA=>cI (eC XA (fun _ QL XB=>dM (dM ⟨Z,XB⟩)) fun _ _ f=>f.elim)) fun _ _ f=>f.elim))
end
theorem Dg {cells:List (Str×Addr)}:∀x c,([]:List (Str×Addr)).lookup x=some c->cells.lookup x=some c:=fun _ _ h=>by cases h
theorem AT {cells r:List (Str×Addr)}{k:Str}{a:Addr}(h1:cells.lookup k=some a)(h2:∀x c,r.lookup x=some c->cells.lookup x=some c) :
  ∀x c,((k,a)::r).lookup x=some c->cells.lookup x=some c:=fun x c h=>by
 rw[hI] at h;cases e:x == k with
 | true =>
  rw[e] at h;have:x=k:=by simpa using e
  subst this;cases h;exact h1
 | false =>
  rw[e] at h;exact h2 x c h
theorem uj {env:Env}:∀{names:List (Str×NameKind)}{x:Str},(∀y∈names,y.2≠.cell) ->
    ((names.map fun (n,k)=>if (k == NameKind.free && env.scope.kind == .function && env.kindOf n == some .cell) then (n,NameKind.cell) else (n,k)).lookup x=some .cell \/
     (names.map fun (n,k)=>if (k == NameKind.free && env.scope.kind == .function && env.kindOf n == some .cell) then (n,NameKind.cell) else (n,k)).lookup x=some .free)->(x,NameKind.free)∈names
  | [],x,_,h=>by simp at h
  | (n,k)::r,x,hc,h=>by
    have ih:=@uj env r x (fun y hy=>hc y (ar _ hy));rw[df] at h;dsimp only at h
    by_cases c:(k == NameKind.free && env.scope.kind == .function && env.kindOf n == some .cell)=true
    · have hk:k=.free:=by
        have:=(fX.mp (fX.mp c).1).1;cases k<;>first | rfl | (exact absurd this O)
      rw[aD c,hI] at h;cases e:x == n with
      | true =>
        have:x=n:=by simpa using e
        subst this;subst hk;exact aq
      | false =>
        rw[e] at h;exact ar _ (ih h)
    · rw[ao c,hI] at h
      cases e:x == n with
      | true =>
        have:x=n:=by simpa using e
        subst this;rw[e] at h;rcases h with h | h
        · exact absurd (bK h) (hc (x,k) aq)
        · have:=bK h
          subst this;exact aq
      | false =>
        rw[e] at h;exact ar _ (ih h)
theorem Du {names:List (Str×NameKind)}(h:names.all (fun y=>!(y.2 == NameKind.free) || (cl.lookup y.1).isSome)=true):∀y∈names,y.2=.free->∃c,cl.lookup y.1=some c:=fun y hy e=>by
 have q:=dE.mp h y hy;rw[e] at q;exact iz.mp (by simpa using q)
theorem D9 {α:Type}{F:α->Prop}:∀p∈([]:List α),F p:=fun _ h=>(nomatch h)
theorem A7 {α:Type}{F:α->Prop}{p:α}{l:List α}(h:F p)(r:∀q∈l,F q):∀q∈p::l,F q:=fun q hq=>by
 rcases List.mem_cons.mp hq with e | e
 .rw[e];exact h
 .exact r q e
def k7 (X:Cx)(scope:Scope)(cl:List (Str×Addr))(N':List Str)(C:Addr)(s:Shared)(H:Hp)(fp:List Addr):Cx where
 prog:=X.prog
 w:=X.w
 K:=X.K
 mg:=X.mg
 base:=X.base
 A:=X.A
 N:=N'
 s₀:=s
 H₀:=H
 env:=compEnvC scope cl C X.env
 outer:=X.stack
 stack:=X.stack
 ex:=fp
 fn:=fun _=>false
 calm:=X.calm
 pn:=[]
 xe:=fun _ _=>dR
def KQ (X:Cx)(ifs:List Expr)(t:TT):Prop :=
 ∀(pins:List (Addr×Obj))(s:Shared)(σ:St)(H:Hp)(Q:Bool->Hp->Prop),Inv X pins σ H s->t σ H Q ->
  wpAny (model X.prog X.w) X.A (forIn ifs true fun c r=>if r=true then do let ok <-isTrue c X.env (eval c X.env);pure (ForInStep.yield ok) else pure (ForInStep.yield r)) (TP X pins σ Q) X.xe s
def xT:TT:=fun _ H Q=>Q true H
theorem kq {X:Cx}:KQ X [] xT:=fun _ _ _ H _ I h=>wpAny_tests_nil ⟨H,I,h⟩
theorem DY {X:Cx}{c:Expr}{t:TT}(h:PT X c t):KQ X [c] t:=fun pins s σ H Q I q=>wpAny_tests_one (h pins s σ H Q I q)
def qj (mV:List (Str×Nat))(k:Nat)(σ:St):St:=mV.map (fun p=>(σ[p.2]?).join)++List.replicate k none
def m8 (zgR:It)(g:TG)(tc:TT)(te:TE)(lh:St)(Q:VK)(H1:Hp):Prop :=
 ∃W:Nat->Nat->List V->Hp->Prop,(∃m,W 0 m [] H1)/\∀i m ys H,W i m ys H ->
  (zgR.stop i H/\∀D,H D=none->Q (.ref D) (upd H D (.lst ys))) \/
  (zgR.go i H/\ys.length<sizeLine/\∃N:List V->Hp->Prop,(∀Nv H',N Nv H'->∃m',m'<m/\W (i+1) m' Nv H') /\
   ∀x H',zgR.yld i H x H'->g x lh H' fun mU H2=>tc mU H2 fun b H3=>if b=true then te mU H3 fun y H4=>N (ys++[y]) H4 else N ys H3)
def Bm (mV:List (Str×Nat))(k:Nat)(wi:TI)(g:TG)(tc:TT)(te:TE):TE:=fun σ H Q=>wi σ H fun zgR H1=>m8 zgR g tc te (qj mV k σ) Q H1
def rL (n:Nat)(g:TG):Prop:=∀x σ H Q,g x σ H Q->g x σ H fun mU H2=>(mU.length=σ.length/\∀j,j<n->mU[j]?=σ[j]?)/\Q mU H2
theorem vj {n i:Nat}(h:n<=i):rL n (kW i):=fun x σ H Q q=>⟨⟨jH,fun j hj=>by rw[List.getElem?_set_ne jJ]⟩,q⟩
abbrev wX (us:List Value):Obj:={ cls:=.type "list",data:=.seq us.toArray us.length }
structure Fin (X:Cx)(pins:List (Addr×Obj))(H:Hp)(s:Shared)(C:Addr):Prop where
 none:H C=Option.none
 loc:C≠X.env.locals
 sz:X.s₀.heap.objs.size<=C
 cel:∀x c,X.env.cells.lookup x=some c->c≠C
 pin:∀p∈X.pn++pins,p.1≠C
 ns:∃m,s.heap.Ns C m
theorem Fin.go {X:Cx}{pins:List (Addr×Obj)}{σ:St}{H:Hp}{s:Shared}{C:Addr}(f:Fin X pins H s C)(I:Inv X pins σ H s){h':Heap}(sb:Heap.SameBut C s.heap h'):Inv X pins σ H { s with heap:=h' } :=
 I.turned (t':=s.toks) (it:=C) (fun b o hb e=>(sb.2 b hb).trans e) f.none f.loc (.inr f.sz) f.cel f.pin
theorem yl {X:Cx}{elt iter tg:Expr}{scope:Scope}{pos pos':Pos}{wi:TI}
 (hc:X.calm=true)(ut:closureFor scope X.env=pure cl)(qF:scope.kind=.function)
 (qY:∀x∈scope.names,x.2=.local->scope.names.lookup x.1=some .local)(qE:∀y∈scope.names,y.2≠.cell)
 (rB:∀y∈scope.names,y.2=.free->∃c,cl.lookup y.1=some c)
 (sK:∀x c,cl.lookup x=some c->X.env.cells.lookup x=some c)
 (xw:∀p∈mV,X.N[p.2]?=some p.1/\(X.env.kindOf p.1=some .cell\/X.env.kindOf p.1=some .free)/\((relabel scope X.env).names.lookup p.1=some .cell\/(relabel scope X.env).names.lookup p.1=some .free)/\∃c,cl.lookup p.1=some c)
 (hl:rL mV.length g)(hi:PI X tg iter wi)
 (hb:∀C s H fp,PG (k7 X scope cl (mV.map (·.1)++oW) C s H fp) tg g/\KQ (k7 X scope cl (mV.map (·.1)++oW) C s H fp) ifs tc/\PE (k7 X scope cl (mV.map (·.1)++oW) C s H fp) elt te)
 (hs:∀x,foldedSetIterable iter X.env x=pure x)
 {pins:List (Addr×Obj)}{s:Shared}{σ:St}{H:Hp}{Q:VK}{Qp:Value->Shared->Prop}{use:Option (Value->Sem Unit)}(I:Inv X pins σ H s)(h:Bm mV oW.length wi g tc te σ H Q)
 (fin:∀D C H' s',Inv X pins σ H' s'->Fin X pins H' s' C->Q (.ref D) H'->compPost (model X.prog X.w) X.A X.xe use Qp (.ref D) C (.ok .next) s') :
    wpAny (model X.prog X.w) X.A (comprehension (.ListComp elt [⟨tg,iter,ifs,0⟩] scope pos) scope X.env pos' (newList []) false (eval iter X.env) use) Qp X.xe s:=by
  refine wpAny_comprehension_free (g:=⟨tg,iter,ifs,0⟩) (gs:=[]) Z hs ut qF qY ?_;refine mQ (hi pins s σ H _ I h) fun v s1 h1=>mQ h1 fun Li s2 h2=>?_;obtain⟨it,fp,tn,zgR,H2,e,I2,T,Lj,f2,W,⟨m0,w0⟩,turn⟩:=h2;subst e;refine wpAny_newObj_type (wpAny_newFunctionEnv qE (fun y hy=>(by simp at hy)) (fun Kj CV hsb₁=>?_) qF);dsimp only at CV hsb₁ ⊢;generalize XC:s2.heap.push { cls:=.type "list",dict:=none,data:=.seq ([]:List Value).toArray }=HH at CV hsb₁ ⊢;have hC:HH.objs.size=s2.heap.objs.size+1:=by rw[<-XC,g4]
  have XD:s2.heap.objs.size≠HH.objs.size:=by rw[hC];exact cP (bO _)
  have below:∀b,b<s2.heap.objs.size->b≠HH.objs.size/\b≠s2.heap.objs.size:=fun b hb=>⟨by rw[hC];exact cP (bJ hb),cP hb⟩;have old:∀b o,s2.heap.get? b=some o->Kj.get? b=some o:=fun b o e=>hsb₁.extBut b o (below b (bR e)).1 (aQ _ (XC▸aQ _ e));have XE:Kj.get? s2.heap.objs.size=some (wX []):=hsb₁.extBut _ _ XD (aQ _ (XC▸bZ _ Z));have Ed:∀b∈fp,b<s2.heap.objs.size:=fun b hb=>let ⟨o,e,_⟩:=T.obj _ _ Lj b hb;bR e;have XF:∀x c,cl.lookup x=some c->c<s2.heap.objs.size:=fun x c e=>let ⟨v,q⟩:=I2.cell x c (sK x c e);q.lt;have QN:∀b∈EJ X.stack,b<s2.heap.objs.size:=fun b hb=>by
    obtain⟨_,o,ho,_⟩:=I2.stack.mem hb;exact bR ho
  generalize hX:k7 X scope cl (mV.map (·.1)++oW) HH.objs.size s2 H2 fp=X';have ok':X'.Ok:=by
    subst hX;refine { mod:=I2.ok.mod,kind:=qF,glob:=I2.ok.glob,blt:=I2.ok.blt,above:=?_,inj:=fun x y c a b=>I2.ok.inj x y c (sK x c a) (sK y c b),has:=?_,cab:=fun x c h=>(nomatch h),hd:=I2.ok.hd,frames:=I2.ok.frames,stk:=.inl Z,exf:=?_,bs:=I2.bs,bsz:=bL I2.ok.bsz I2.sz,noex:=?_,exfs:=?_,ve:=I2.stack,frf:=I2.DF }
    · show s2.heap.objs.size<=HH.objs.size
      rw[hC];exact gi _
    · intro x hx
      exact rB (x,.free) (uj qE hx) Z
    · intro b hb
      exact⟨(below b (Ed b hb)).1,fun x c e=>(f2 b hb).2.2.2.2.1 x c (sK x c e)⟩
    · intro b o e hb
      rcases (f2 b hb).2.2.2.1 with z | z
      · exact I2.ok.noex b o e z
      · exact absurd (bp (bR (I2.ok.bs b o e).1) z) (d7 _)
    · intro b hb hm
      rcases List.mem_cons.mp (I2.B2 b hm) with z | z
      · exact(f2 b hb).2.1 z
      · exact(f2 b hb).2.2.1 z
  have XG:Inv X' [(s2.heap.objs.size,wX [])] (qj mV oW.length σ) H2 { s2 with heap:=Kj,toks:=s2.toks+([]:List (Str×Value)).length }:=by
    subst hX;refine⟨ok',Z,I2.bare,Un.kept old,⟨_,CV,?_⟩,fun x c e=>?_,I2.hok.fresh (by rw[hC];exact gi _),fun x c e=>I2.freeC x c (sK x c e),fun p hp=>?_,I2.hok.kept old,?_⟩
    · intro j y v e1 e2 e3
      have Od:(mV.map (·.1)++oW)[j]?=some y:=e1
      by_cases hj:j<mV.length
      · unfold qj at e2
        rw[cO (by simpa using hj),List.getElem?_map] at e2;rw[cO (by simpa using hj),List.getElem?_map] at Od;rw[ax hj] at Od e2;have ey:mV[j].1=y:=by simpa using Od
        have ev:(σ[mV[j].2]?).join=some v:=by simpa using e2
        obtain⟨c1,c2,c3,c,c4⟩:=xw mV[j] (List.getElem_mem hj);have Fo:σ[mV[j].2]?=some (some v):=by
          cases q:σ[mV[j].2]? with
          | none=>rw[q] at ev;cases ev
          | some z=>rw[q] at ev;exact cQ some ev
        rw[ey] at c1 c2 c3 c4;obtain⟨m,hn,hl'⟩:=I2.loc;have vis:R3 X.env.scope y:=by
          rcases c2 with c2 | c2
          · exact .inr (.inl c2)
          · exact .inr (.inr c2)
        obtain⟨u,ru,lu⟩:=hl' _ y v c1 Fo vis;refine⟨u,ru,.inr ⟨c3,c,c4,?_⟩⟩;rcases lu with ⟨k,_⟩ | ⟨_,c',e',q⟩
        · rcases c2 with c2 | c2<;>(rw[k] at c2;cases c2)
        · rw[sK y c c4] at e'
          cases e';obtain⟨o,ho,hd⟩:=q;exact⟨o,old _ _ ho,hd⟩
      · unfold qj at e2
        rw[cK (by simpa using hj),List.getElem?_replicate] at e2;split at e2<;>cases e2
    · obtain⟨v,o,ho,hd⟩:=I2.cell x c (sK x c e)
      exact⟨v,o,old _ _ ho,hd⟩
    · have XH:p∈([(s2.heap.objs.size,wX [])]:List (Addr×Obj)):=hp
      obtain rfl:=List.mem_singleton.mp XH;refine⟨XE,I2.hok.fresh (aH _),XD,fun z=>d7 _ (QN _ z),fun v z=>?_⟩;have z':Data.seq _ _=Data.cell v:=z;cases z'
    · show (qj mV oW.length σ).length=(mV.map (·.1)++oW).length
      unfold qj;simp
  have XI:∀{us:List Value}{H':Hp},(∀b∈fp,H' b=none)->∀b∈fp,zG X' [(s2.heap.objs.size,wX us)] H' b:=by
    subst hX;intro us H' hn b hb;refine⟨hn b hb,(below b (Ed b hb)).1,fun z=>ok'.exfs b hb z,.inl hb,fun x c e=>(f2 b hb).2.2.2.2.1 x c (sK x c e),fun p hp=>?_⟩;have XH:p∈([(s2.heap.objs.size,wX us)]:List (Addr×Obj)):=hp;obtain rfl:=List.mem_singleton.mp XH;exact dj (below b (Ed b hb)).2
  have eP:X'.prog=X.prog:=by subst hX;rfl
  have eW:X'.w=X.w:=by subst hX;rfl
  have eK:X'.K=X.K:=by subst hX;rfl
  have eA:X'.A=X.A:=by subst hX;rfl
  have eE:X'.env=compEnvC scope cl HH.objs.size X.env:=by subst hX;rfl
  have eF:X'.fs=EJ X.stack:=by subst hX;rfl
  have eX:X'.ex=fp:=by subst hX;rfl
  have eH:X'.H₀=H2:=by subst hX;rfl
  have eS:X'.s₀=s2:=by subst hX;rfl
  have ec:X'.calm=true:=by subst hX;exact hc
  have QO:X'.pn=[]:=by subst hX;rfl
  have XJ:X'.xe=fun _ _=>dR:=by subst hX;rfl
  obtain⟨hg,ht,he⟩:PG X' tg g/\KQ X' ifs tc/\PE X' elt te:=by subst hX;exact hb _ _ _ _
  have loop:codeAny (model X.prog X.w) X.A (.compLoop (.ListComp elt [⟨tg,iter,ifs,0⟩] scope pos) 0 (.ref it) (.ref s2.heap.objs.size) (compEnvC scope cl HH.objs.size X.env))
      (compPost (model X.prog X.w) X.A X.xe use Qp (.ref s2.heap.objs.size) HH.objs.size) { s2 with heap:=Kj,toks:=s2.toks+([]:List (Str×Value)).length }:=by
    refine zc (fun n s'=>∃i ys us H',Inv X' [(s2.heap.objs.size,wX us)] (qj mV oW.length σ) H' s'/\Vals ys us/\ys.length<=sizeLine/\tn i s'.heap/\(∀b∈fp,H' b=none)/\W i n ys H') ?_ m0
      ⟨0,[],[],H2,XG,.nil,dJ _,T.keep _ _ _ Lj fun b _ o e=>old b o e,fun b hb=>(f2 b hb).1,w0⟩
    rintro n s3 ⟨i,ys,us,H3,I3,rv,hz,Qz,QA,w3⟩;rcases turn i n ys H3 w3 with ⟨stop,qn⟩ | ⟨go,hlen,N,hN,step⟩
    · have d:=T.done X' eP eW eK ec i _ s3 _ H3 (fun _ _=>dR) I3 (XI QA) Qz stop
      rw[eA] at d;refine mQ d fun r s4 ⟨hr,I4⟩=>?_;subst hr;obtain⟨m,hn,_⟩:=id I4.loc;rw[eE] at hn;have pD:=I4.pin (s2.heap.objs.size,wX us) (by rw[QO];simp);have fC:H3 HH.objs.size=none:=by have:=I4.free;rw[eE] at this;exact this
      have un:=I4.base;rw[eF,eX,eH,eS] at un;have nD:∀b o,s2.heap.get? b=some o->b≠s2.heap.objs.size:=fun b o e=>(below b (bR e)).2;have XM:H2 s2.heap.objs.size=none:=I2.hok.fresh (aH _);have leC:s2.heap.objs.size<=HH.objs.size:=by rw[hC];exact gi _
      refine fin s2.heap.objs.size HH.objs.size (upd H3 s2.heap.objs.size (.lst ys)) s4 (I2.Qj (ch:=fp) ?_ ?_ ?_ I4.bare ?_)
        ⟨by rw[j5 (dj XD)];exact fC,dj (below _ I2.lt).1,bL I2.sz leC,fun x c e=>?_,fun p hp=>(below _ (bR (I2.pin p hp).1)).1,⟨m,hn⟩⟩ (qn _ pD.2.1)
      · have:=I4.os;rw[eS] at this;exact this
      · refine⟨un.keep,un.slot,fun b o e n hx=>?_,un.there,fun b xs q=>?_,fun b o u q=>?_,fun b ps q=>?_⟩
        · rw[j5 (nD b o e)];exact un.free b o e n hx
        · rw[j5 (j8 q XM)];exact un.tups b xs q
        · rw[j5 (j8 q XM)];exact un.frzs b o u q
        · rw[j5 (j8 q XM)];exact un.tbls b ps q
      · have hok:=I4.hok
        rw[eP,eW] at hok;intro b u e
        by_cases hb:b=s2.heap.objs.size
        · subst hb
          rw[jO] at e;cases e;exact⟨hz,us,us.length,rv,pD.1⟩
        · rw[j5 hb] at e
          exact(hok b u e).CL (fun c v Qy q=>q) (fun c q=>by rw[j5 (j8 q pD.2.1)];exact q) fun c xs q=>by rw[j5 (j8 q pD.2.1)];exact q
      · exact fun b hb=>⟨(f2 b hb).2.2.2.1,(f2 b hb).2.1,(f2 b hb).2.2.2.2.1,(f2 b hb).2.2.2.2.2⟩
      · obtain⟨v,q⟩:=I2.cell x c e
        exact(below c q.lt).1
    · have d:=T.item X' eP eW eK ec i _ s3 _ H3 (fun _ _=>dR) I3 (XI QA) Qz go
      rw[eA] at d;refine mQ d fun r s4 ⟨u,hr,h4⟩=>?_;subst hr;refine mQ h4 fun _ s5 ⟨x,H5,I5,r5,y5,Kg,Xl⟩=>?_;have Xm:=I5.pinned (XI Xl) (T.obj _ _ Kg);have a6:=hg _ s5 _ H5 x u _ Xm r5 (hl x _ H5 _ (step x H5 y5));rw[eP,eW,eA,eE,XJ] at a6;refine mQ a6 fun _ s6 ⟨Ob,H6,I6,⟨kl,kj⟩,q6⟩=>?_;have a7:=ht _ s6 Ob H6 _ I6 q6;rw[eP,eW,eA,eE,XJ] at a7;refine mQ a7 fun ok s7 ⟨H7,I7,q7⟩=>?_;have wk:∀{pl:List (Addr×Obj)}{H':Hp}{s':Shared},Inv X' pl Ob H' s'->Inv X' [] (qj mV oW.length σ) H' s':=fun {pl H' s'} I' =>
        (I'.weak kl.symm fun j v e=>by
          by_cases hj:j<mV.length
          · rw[kj j hj];exact e
          · unfold qj at e
            rw[cK (by simpa using hj),List.getElem?_replicate] at e;split at e<;>cases e).ug fun p hp=>(nomatch hp)
      have Ee:∀{H':Hp}{s':Shared},Inv X' ([(s2.heap.objs.size,wX us)]++wO fp s5.heap) Ob H' s'->(∀b∈fp,∀o,s5.heap.get? b=some o->s'.heap.get? b=some o/\H' b=none):=fun {H' s'} I' b hb o e=>by
        have z:=I'.pin (b,o) (by rw[QO];exact bu _ (bu _ (tI hb e)));exact⟨z.1,z.2.1⟩
      cases ok with
      | false =>
        have q7':N ys H7:=q7;obtain⟨m',hm,w7⟩:=hN _ _ q7';have pD:=I7.pin (s2.heap.objs.size,wX us) (by rw[QO];simp);refine⟨m',hm,i+1,ys,us,H7,?_,rv,hz,T.keep _ _ _ Kg fun b hb o e=>(Ee I7 b hb o e).1,fun b hb=>?_,w7⟩
        · exact(wk I7).ug fun p hp=>by
            cases List.mem_singleton.mp hp;exact pD
        · obtain⟨o,e,_⟩:=T.obj _ _ Kg b hb
          exact(Ee I7 b hb o e).2
      | true =>
        have a8:=he _ s7 Ob H7 _ I7 q7;rw[eP,eW,eA,eE,XJ] at a8;refine mQ a8 fun uy s8 ⟨y,H8,I8,ry,q8⟩=>?_;obtain⟨m',hm,w8⟩:=hN _ _ q8;have pD:=I8.pin (s2.heap.objs.size,wX us) (by rw[QO];simp);refine append_at (hsz:=by show us.toArray.size<=sizeLine;rw[cy,<-rv.length];exact hz) pD.1 fun h9 Zz hD9=>?_;have fpD:∀b∈fp,b≠s2.heap.objs.size:=fun b hb=>(below b (Ed b hb)).2;have I9:Inv X' [] (qj mV oW.length σ) H8 { s8 with heap:=h9 }:=(wk I8).turned (t':=s8.toks) (it:=s2.heap.objs.size) (fun b o hb e=>(Zz.2 b hb).trans e) pD.2.1 pD.2.2.1 (.inr (by rw[eS];exact aH _))
          (fun x c e z=>by
            rw[eE] at e;exact absurd (XF x c e) (by rw[z];exact d7 _)) (fun p hp=>by rw[QO] at hp;exact(nomatch hp))
        refine⟨m',hm,i+1,ys++[y],us++[uy],H8,?_,rv.append (.cons ry .nil),by rw[aI,dD];exact hlen,T.keep _ _ _ Kg fun b hb o e=>(Zz.2 b (fpD b hb)).trans (Ee I8 b hb o e).1,fun b hb=>?_,w8⟩
        · refine I9.ug fun p hp=>?_
          cases List.mem_singleton.mp hp;refine⟨?_,pD.2.1,pD.2.2.1,pD.2.2.2.1,fun v z=>?_⟩
          · show h9.get? _=some (wX (us++[uy]))
            rw[hD9];show some ({ cls:=.type "list",data:=.seq (us.toArray.push uy) (us.length+1) }:Obj)=some { cls:=.type "list",data:=.seq (us++[uy]).toArray (us++[uy]).length }
            rw[List.push_toArray,aI,dD]
          · have z':Data.seq _ _=Data.cell v:=z
            cases z'
        · obtain⟨o,e,_⟩:=T.obj _ _ Kg b hb
          exact(Ee I8 b hb o e).2
  exact codeAny_compStart_list loop (T.self _ 0 _ _ _ (T.keep _ _ _ Lj fun b _ o e=>old b o e) loop)
theorem AU {X:Cx}{elt iter tg:Expr}{scope:Scope}{pos:Pos}{wi:TI}
 (hc:X.calm=true)(ut:closureFor scope X.env=pure cl)(qF:scope.kind=.function)
 (qY:∀x∈scope.names,x.2=.local->scope.names.lookup x.1=some .local)(qE:∀y∈scope.names,y.2≠.cell)
 (rB:∀y∈scope.names,y.2=.free->∃c,cl.lookup y.1=some c)
 (sK:∀x c,cl.lookup x=some c->X.env.cells.lookup x=some c)
 (xw:∀p∈mV,X.N[p.2]?=some p.1/\(X.env.kindOf p.1=some .cell\/X.env.kindOf p.1=some .free)/\((relabel scope X.env).names.lookup p.1=some .cell\/(relabel scope X.env).names.lookup p.1=some .free)/\∃c,cl.lookup p.1=some c)
 (hl:rL mV.length g)(hi:PI X tg iter wi)
 (hb:∀C s H fp,PG (k7 X scope cl (mV.map (·.1)++oW) C s H fp) tg g/\KQ (k7 X scope cl (mV.map (·.1)++oW) C s H fp) ifs tc/\PE (k7 X scope cl (mV.map (·.1)++oW) C s H fp) elt te)
 (hs:∀x,foldedSetIterable iter X.env x=pure x:=by intro _;rfl) :
    PE X (.ListComp elt [⟨tg,iter,ifs,0⟩] scope pos) (Bm mV oW.length wi g tc te):=by
  intro pins s σ H Q I h;rw[eval_ListComp];refine yl hc ut qF qY qE rB sK xw hl hi hb hs I h fun D C H' s' I' f q=>?_;obtain⟨m,hn⟩:=f.ns;exact⟨m,hn,fun h' sb=>⟨.ref D,H',f.go I' sb,Z,q⟩⟩
theorem BD {X:Cx}{elt iter tg:Expr}{scope:Scope}{pos py Im:Pos}{y:Str}{i:Nat}{wi:TI}
 (hN:X.N.Nodup)(XN:X.N[i]?=some y)(hy:Loc X.env.scope y)
 (hc:X.calm=true)(ut:closureFor scope X.env=pure cl)(qF:scope.kind=.function)
 (qY:∀x∈scope.names,x.2=.local->scope.names.lookup x.1=some .local)(qE:∀y∈scope.names,y.2≠.cell)
 (rB:∀y∈scope.names,y.2=.free->∃c,cl.lookup y.1=some c)
 (sK:∀x c,cl.lookup x=some c->X.env.cells.lookup x=some c)
 (xw:∀p∈mV,X.N[p.2]?=some p.1/\(X.env.kindOf p.1=some .cell\/X.env.kindOf p.1=some .free)/\((relabel scope X.env).names.lookup p.1=some .cell\/(relabel scope X.env).names.lookup p.1=some .free)/\∃c,cl.lookup p.1=some c)
 (hl:rL mV.length g)(hi:PI X tg iter wi)
 (hb:∀C s H fp,PG (k7 X scope cl (mV.map (·.1)++oW) C s H fp) tg g/\KQ (k7 X scope cl (mV.map (·.1)++oW) C s H fp) ifs tc/\PE (k7 X scope cl (mV.map (·.1)++oW) C s H fp) elt te)
 (hs:∀x,foldedSetIterable iter X.env x=pure x:=by intro _;rfl)
 (XO:swapsWith (.ListComp elt [⟨tg,iter,ifs,0⟩] scope pos) (some (.Name y py)) Im.line X.env=pure true:=by rfl)
 (hf:X.fn y=true\/X.env.scope.names.lookup y=some .local:=by first | exact .inl Z | exact .inr Z | assumption) :
    PS X (.Assign [.Name y py] (.ListComp elt [⟨tg,iter,ifs,0⟩] scope pos) Im) (Gy (Bm mV oW.length wi g tc te) (kW i)):=by
  intro pins s σ H D I h;rw[exec_Assign_Name_used _ _ _ _ XO];refine cI (i9 (cI ?_));show wpAny _ X.A (do let _ <-comprehension (.ListComp elt [⟨tg,iter,ifs,0⟩] scope pos) scope X.env _ (newList []) false (eval iter X.env) (some (assign (.Name y py) X.env))) _ _ s
  refine cI (eC (yl (use:=some (assign (.Name y py) X.env)) (Qp:=fun _ s'=>SP X pins D .next s') hc ut qF qY qE rB sK xw hl hi hb hs I h fun D' C H' s' I' f q=>?_) (fun _ s' hq=>dM (dM hq)) fun _ _ e=>e);show wpAny _ X.A (assign (.Name y py) X.env (.ref D')) _ _ _
  refine wpAny_assign_Name (yJ I' hN XN hy (v:=.ref D') Z (fun QB I'' ⟨a,sa,ha⟩=>?_) hf);obtain⟨m,hn⟩:=f.ns;have ZA:C≠a:=by
    rcases ha with z | z
    · rw[z];exact f.loc
    · exact dj (f.cel _ _ z)
  have f'':Fin X pins H' QB C:=⟨f.none,f.loc,f.sz,f.cel,f.pin,⟨m,hn.sameBut sa ZA⟩⟩;exact⟨m,hn.sameBut sa ZA,fun h' sb=>⟨_,H',f''.go I'' sb,q⟩⟩
theorem oV {K:PySem.W.Frag}{a:Addr}{xs:List V}{lh:St}{H:Hp}{Q:VK}(Pv:Nat->List V->Hp->Prop)(h0:Pv 0 [] H)(hl:∀i ys H,i<=xs.length->Pv i ys H->j6 K H a xs)(hz:∀i ys H,i<xs.length->Pv i ys H->ys.length<sizeLine)
 (hs:∀i x ys H,xs[i]?=some x->Pv i ys H->g x lh H fun mU H2=>tc mU H2 fun b H3=>if b=true then te mU H3 fun y H4=>Pv (i+1) (ys++[y]) H4 else Pv (i+1) ys H3)(hd:∀ys H,Pv xs.length ys H->∀D,H D=none->Q (.ref D) (upd H D (.lst ys))) :
    m8 (JA K a) g tc te lh Q H:=by
  refine⟨fun i m ys H=>m=xs.length-i/\i<=xs.length/\Pv i ys H,⟨xs.length,jH,Nat.zero_le _,h0⟩,?_⟩;rintro i m ys H ⟨rfl,hi,p⟩;have q:=hl i ys H hi p
  by_cases pM:i<xs.length
  · refine .inr ⟨⟨xs,xs[i],q,by simp[pM]⟩,hz i ys H pM p,Pv (i+1),fun Nv H' p'=>⟨xs.length-(i+1),jJ,Z,pM,p'⟩,fun x H' y=>?_⟩
    obtain⟨e,y⟩:=y;subst e;exact hs i x ys _ (y xs q) p
  · have e:i=xs.length:=jJ
    subst e;exact .inl ⟨⟨xs,q,aH _⟩,hd ys H p⟩
theorem sS {lo:Int}{n:Nat}{lh:St}{H:Hp}{Q:VK}(Pv:Nat->List V->Hp->Prop)(h0:Pv 0 [] H)(hz:∀i ys H,i<n->Pv i ys H->ys.length<sizeLine)
 (hs:∀i ys H,i<n->Pv i ys H->g (.int (lo+i)) lh H fun mU H2=>tc mU H2 fun b H3=>if b=true then te mU H3 fun y H4=>Pv (i+1) (ys++[y]) H4 else Pv (i+1) ys H3)(hd:∀ys H,Pv n ys H->∀D,H D=none->Q (.ref D) (upd H D (.lst ys))) :
    m8 (B9 lo n) g tc te lh Q H:=by
  refine⟨fun i m ys H=>m=n-i/\i<=n/\Pv i ys H,⟨n,jH,Nat.zero_le _,h0⟩,?_⟩;rintro i m ys H ⟨rfl,hi,p⟩
  by_cases pM:i<n
  · refine .inr ⟨pM,hz i ys H pM p,Pv (i+1),fun Nv H' p'=>⟨n-(i+1),jJ,Z,pM,p'⟩,fun x H' y=>?_⟩
    obtain⟨e,y⟩:=y;subst e y;exact hs i ys _ pM p
  · have e:i=n:=jJ
    subst e;exact .inl ⟨aH _,hd ys H p⟩
variable {a b:Int}
section
variable {X:Cx}
theorem ks:vg X (binaryOp .Mult) (rI IntMulOk fun i j=>.int (i*j)):=PH fun _ _ _ _ _ _ _ hc q=>mul_int q hc
def HF (i j:Int):Prop:=0<j/\j.natAbs.log2<9000
theorem ky:vg X (binaryOp .FloorDiv) (rI HF fun i j=>.int (i/j)):=PH fun i j _ _ _ _ _ hc q=>by
 have e:i/j=i.fdiv j:=(d4 i (g5 hc.1)).symm;rw[e] at q;exact floordiv_int (Int.ne_of_gt hc.1) q (.inl (PyProof.noPylong_of_log2 hc.2))
theorem mE:rz X (.builtin "isinstance") (fun xs H Q=>∃x T t b,xs=[x,.ty T]/\u6 X.K H x t/\PySem.W.kitOne X.K t (.type T)=some b/\Q (.bl b) H):=by
 intro pins s σ H xs us Q I r h;obtain⟨x,T,t,b,rfl,ty,e,q⟩:=h;obtain⟨u,w',rfl,rx,E5⟩:=vals2 r;have ew:w'=Value.type T:=E5;subst ew;exact EW I rx ty e fun tk=>⟨.bl b,H,I.tok tk,Z,q⟩
end
theorem lY:bootBuiltins "isinstance"=some (.builtin "isinstance"):=by decide +kernel
theorem tu:bootBuiltins "abs"=some (.builtin "abs"):=by decide +kernel
theorem Gk:bootBuiltins "len"=some (.builtin "len"):=by decide +kernel
theorem G6:bootBuiltins "sum"=some (.builtin "sum"):=by decide +kernel
theorem LC:bootBuiltins "int"=some (.type "int"):=by decide +kernel
theorem IS:bootBuiltins "bool"=some (.type "bool"):=by decide +kernel
theorem pQ:bootBuiltins "list"=some (.type "list"):=by decide +kernel
theorem t5:bootBuiltins "tuple"=some (.type "tuple"):=by decide +kernel
def Tl (t u:TS):TS:=fun D σ H=>∃M:St->Hp->Prop,t { D with nx:=M } σ H/\∀lh H',M lh H'->u D lh H'
theorem zy {X:Cx}{st:Stmt}{rest:List Stmt}{t u:TS}(h1:PS X st t)(h2:yp X rest u):yp X (st::rest) (Tl t u):=by
 intro pins s σ H D I h;obtain⟨M,ht,hu⟩:=h;refine iy (mQ (h1 pins s σ H { D with nx:=M } I ht) fun f s1 q=>?_);cases f with
 | next =>
  obtain⟨lh,H',I',q⟩:=q;exact h2 pins s1 lh H' D I' (hu lh H' q)
 | ret v=>exact q
 | brk=>exact q
 | cont=>exact q
structure Df (P:Program)(w:World)(K:PySem.W.Frag)(mg:Str->Option Value)(base:Heap)(k:Nat)(x:Str)(ps:List Str)(sp:Sp):Prop where
 ex:∃(f:Addr)(fd:FuncData),rD P w K mg base D5 k f fd ps sp/\Binds K fd ps []/\PySem.W.keepIn K (.ref f)=true/\mg x=some (.ref f)
section
variable {X:Cx}{k:Nat}{x:Str}{ps:List Str}{sp:Sp}{e:Expr}{es:List Expr}{t:TA}{p pos:Pos}
theorem LU (D:Df X.prog X.w X.K X.mg X.base k x ps sp)(hr:nM k X.A)(hg:Gl X x)(ha:PA X (e::es) t)(E9:(x == ("__debug__":Str))=false:=by decide)
  (he:starEach (e::es) X.env=(false,eval e X.env)::starEach es X.env:=by rfl)(xu:(backTo pos (starEach es X.env)).any (·.1)=false:=by rfl) :
  PE X (.Call (.Name x p) (e::es) [] pos) (Ha sp [] E0 t):=by
 obtain⟨f,fd,F,hb,hk,hm⟩:=D.ex;exact Jw F hr hg hm hk hb .nil FE ha E9 he xu
end
structure Dn (K:PySem.W.Frag)(mg:Str->Option Value)(x:Str)(st:Stmt)(ps:List Str):Prop where
 ex:∃(f:Addr)(fd:FuncData),Dx K x x st f fd/\Binds K fd ps []/\mg x=some (.ref f)
theorem Dn.ok {P:Program}{w:World}{K:PySem.W.Frag}{mg:Str->Option Value}{base:Heap}{x:Str}{st:Stmt}{N ps:List Str}{k:Nat}{sp:Sp}(D:Dn K mg x st ps)(S:jZ N ps (jW st))(len:∀vs H Q E,sp vs H Q E->vs.length=ps.length)
  (hbody:∀(f:Addr)(cdv:Value)(A:Around)(outer:List Env)(s:Shared)(H:Hp)(vs:List V)(Q:VK)(E:XK),nM k (A.deeper (envOfC x (jW st) s.heap.objs.size f cdv))->sp vs H Q E ->
   ∃t,yp (xO D5 P w K mg base N x (jW st) f cdv A outer s H E).Fk (lC st) t/\t { nx:=fun _ H'=>Q .non H',rt:=Q } (start N vs) H):Df P w K mg base (k+1) x ps sp:=by
 obtain⟨f,fd,F,b,m⟩:=D.ex;exact⟨f,fd,F.ok S len (fun cdv A outer s H vs Q E hr h=>hbody f cdv A outer s H vs Q E hr h),b,F.kp,m⟩
theorem oy {K:PySem.W.Frag}(T:String):PySem.W.kitOne K (.type T) (.type T)=some true:=aD jH
theorem LK {K:PySem.W.Frag}:PySem.W.kitOne K (.type "int") (.type "bool")=some false:=by
 first
 | rfl
 | decide +kernel
 | (show (if (Value.type "int" == Value.type "bool")=true then some true else _)=_;rw[ao O];rfl)
 | (show (if (Value.type "int" == Value.type "bool")=true then some true else _)=_;rw[ao O];kernel_rfl)
theorem uC (h:decide (V.int a=V.int b)=true):a=b:=by
 have:=eU h;injection this
theorem wF (h:¬decide (V.int a=V.int b)=true):¬a=b:=fun e=>h (by rw[e];simp)
theorem Mi (h:(!decide (V.int a=V.int b))=true):¬a=b:=fun e=>by rw[e] at h;simp at h
theorem Ic (h:¬(!decide (V.int a=V.int b))=true):a=b:=by
 by_cases e:a=b
 .exact e
 .exact absurd (by simp[e]) h
theorem dec {p:Prop} [Decidable p] (h:decide p=true):p:=eU h
theorem xk {p:Prop} [Decidable p] (h:¬decide p=true):¬p:=fun e=>h (cm e)
theorem kK {H H':Hp}{r:Addr}{o:HO}(h:jU H H')(n:H r=none):jU H (upd H' r o):=fun b u q=>by rw[j5 (j8 q n)];exact h b u q
theorem jR {H H':Hp}{r:Addr}{o:HO}(h:jU H H')(n:H' r=none):jU H (upd H' r o):=kK h (h.free n)
theorem mH {n:Nat}(h:n<=20000):n<sizeLine:=b3 h O
theorem nF {n:Nat}(h:n<=20000):n<=sizeLine:=d6 (mH h)
theorem kU {α β:Type}{F:α->β->Prop}:∀{Ie:List α}{Ig:List β}{i:Nat}{a:α},Paired F Ie Ig->Ie[i]?=some a->∃b,Ig[i]?=some b/\F a b
 | _,_,0,_,.cons h _,e=>by cases e;exact⟨_,Z,h⟩
 | _,_,i+1,_,.cons _ t,e=>kU (i:=i) t (by rw[dO] at e;exact e)
theorem int_at {ms:List Int}{i:Nat}{x:V}(h:(ms.map V.int)[i]?=some x):∃v,x=.int v/\ms[i]?=some v:=by
 rw[af] at h;cases e:ms[i]? with
 | none=>rw[e] at h;cases h
 | some v=>rw[e] at h;cases h;exact⟨v,Z,Z⟩
theorem ME {ns:List Int}{k:Int}(h0:0<=k)(h:k<(ns.length:Int)):∃v:Int,me (ns.map V.int) k=some (.int v)/\ns[k.toNat]?=some v:=by
 have hk:k.toNat<ns.length:=jJ;have ek:k=((k.toNat:Nat):Int):=jJ;have q:me (ns.map V.int) ((k.toNat:Nat):Int)=some (.int ns[k.toNat]):=lP (by rw[af,ax hk]<;>rfl);rw[<-ek] at q;exact⟨ns[k.toNat],q,ax hk⟩
theorem bits_le {m:Nat}(h:a.natAbs<2^m):Builtin.Int.intBits a<=m:=by
 unfold Builtin.Int.intBits;split
 .exact dJ _
 .rename_i hz;have h0:a.natAbs≠0:=by
   intro z;apply hz;simpa using z
  have:=(ia h0).mpr h;omega
theorem rT {m n:Nat}(ha:a.natAbs<2^m)(hb:b.natAbs<2^n)(h:m+n<=134217728):IntMulOk a b:=IntMulOk.of_le (bits_le ha) (bits_le hb) h
theorem mJ (h1:-1000000000<=a)(h2:a<=1000000000):IntMulOk a b:=IntMulOk.of_left (fi jJ jJ)
theorem kO {i j:Int}(h0:0<j)(h:j<=1000000000):HF i j:=by
 refine⟨h0,?_⟩;have hn:j.natAbs<2^30:=jJ;have:=(ia (show j.natAbs≠0 by omega)).mpr hn;omega
variable {K:PySem.W.Frag}{xs:List V}
section
variable {X:Cx}{pins:List (Addr×Obj)}{σ:St}{H:Hp}{s:Shared}{h':Heap}
theorem Inv.DV {t':Nat}{its:List Addr}(I:Inv X pins σ H s)(k:∀b o,b∉its->s.heap.get? b=some o->h'.get? b=some o)(hf:∀b∈its,zG X pins H b):Inv X pins σ H { s with heap:=h',toks:=t' }:=by
 have Qw:∀b u,H b=some u->b∉its:=fun b u e z=>by rw[(hf b z).1] at e;cases e
 refine I.step (g':=s.gens) (d':=s.drawn) (ch:=its) (fun b hb=>?_) (fun b o _ _ hc e _=>k b o hc e) (fun b o _ _ hc e _=>⟨o.slots,k b o hc e⟩) (fun _ _ _ _ n=>n)
  (fun b o hc e=>⟨o,k b o hc e⟩) (fun _ _ e=>e) (fun _ _ _ e=>e) (fun b ps e=>⟨#[],by rw[e];simp⟩) (fun m hm=>?_) (fun b u e=>?_) I.bare
 .obtain⟨_,f1,_,f3,f4,f5⟩:=hf b hb;exact⟨f3,f1,f4,f5⟩
 .obtain⟨o,es,ep,ho,r⟩:=hm;exact⟨o,es,ep,k _ o (fun z=>(hf _ z).2.1 Z) ho,r⟩
 .refine(I.hok b u e).CL (fun c v hc q=>k c v ?_ q) (fun _ q=>q) fun _ _ q=>q;rcases hc with z | z
  .rw[z];exact Qw b u e
  .exact Qw c _ z
theorem Inv.C9 {t':Nat}{its:List Addr}{xs:List V}{us:List Value}(I:Inv X pins σ H s)(k:∀b o,b∉its->s.heap.get? b=some o->h'.get? b=some o)(hf:∀b∈its,zG X pins H b)(pM:∀b∈its,b<s.heap.objs.size)
  (ht:h'.get? s.heap.objs.size=some { cls:=.type "tuple",data:=.seq us.toArray })(hz:xs.length<=sizeLine)(r:Vals xs us) :
  Inv X pins σ (upd H s.heap.objs.size (.tup xs)) { s with heap:=h',toks:=t' }/\∀b∈its,upd H s.heap.objs.size (.tup xs) b=none:=by
 have nf:∀b∈its,upd H s.heap.objs.size (.tup xs) b=none:=fun b hb=>by rw[j5 (cP (pM b hb))];exact(hf b hb).1
 refine⟨?_,nf⟩;have I1:Inv X pins σ (upd H s.heap.objs.size (.tup xs)) { s with heap:=s.heap.push { cls:=.type "tuple",data:=.seq us.toArray },toks:=s.toks } :=
  I.laid (t':=s.toks) (fun b u e=>aQ _ e) (aH _) ⟨hz,us,r,⟨_,bZ _ Z,Z,_,Z⟩⟩
 have I2:=I1.DV (h':=h') (t':=t') (its:=its) (fun b o hb e=>?_) (fun b hb=>⟨nf b hb,(hf b hb).2⟩)
 .exact I2
 .have e':(s.heap.push { cls:=.type "tuple",data:=.seq us.toArray }).get? b=some o:=e;have Oe:b<s.heap.objs.size+1:=by have:=bR e';rw[g4] at this;exact this
  rcases Nat.lt_or_ge b s.heap.objs.size with z | z
  .cases q:s.heap.get? b with
   | none =>
    exact absurd e' (by
     intro ZB;have:(s.heap.push { cls:=.type "tuple",data:=.seq us.toArray }).get? b=s.heap.get? b:=by
      first | exact Heap.get?_push_lt _ z | exact Heap.get?_push_of_lt _ z | (simp[Heap.get?,Heap.push,Array.getElem?_push,Nat.ne_of_lt z])
     rw[this,q] at ZB;cases ZB)
   | some o' =>
    have:=aQ { cls:=.type "tuple",data:=.seq us.toArray } q;rw[e'] at this;cases this;exact k b o hb q
  .have eb:b=s.heap.objs.size:=Nat.le_antisymm (Nat.le_of_lt_succ Oe) z;subst eb;rw[bZ _ Z] at e';rw[ht];exact e'
end
def LH (K:PySem.W.Frag)(a:Addr):It :=
 ⟨fun i H=>∃xs x,j6 K H a xs/\xs[i]?=some x,fun i H v H'=>∃p x,v=.ref p/\H p=none/\(∀xs,j6 K H a xs->xs[i]?=some x)/\H'=upd H p (.tup [.int i,x]),fun i H=>∃xs,j6 K H a xs/\xs.length<=i⟩
theorem EI {P:Program}{w:World}{elts:List Expr}{x1}{pos:Pos}(a e it:Addr)(ZC:e≠it):Turn P w K (.Tuple elts x1 pos) (LH K a) [e,it] e (fun i h=>∃old,IsEnum h e it ((i:Nat):Int) old/\h.IsListIter it a i) where
 mem:=by simp
 obj:=fun i h st b hb=>by
  obtain⟨old,he,o,e1,c,d⟩:=st;rcases List.mem_cons.mp hb with z | z
  .subst z;exact⟨_,he,fun v z=>by
    have z':Data.fields _=Data.cell v:=z;cases z'⟩
  .have z':b=it:=by simpa using z
   subst z';exact⟨o,e1,fun v z=>by rw[d] at z;cases z⟩
 keep:=fun i h h' st k=>by
  obtain⟨old,he,st⟩:=st;exact⟨old,k e jH _ he,st.at fun o e'=>k it jH o e'⟩
 item:=by
  intro X hP hw hK hc i pins s σ H E I hf st hg;subst hP hw hK;obtain⟨old,he,st⟩:=st;obtain⟨xs,x,hq,hx⟩:=hg;obtain⟨its,rv,p,hz⟩:=I.list hq;obtain⟨u,hu,ru⟩:=rv.get hx;have ZD:e<s.heap.objs.size:=bR he;have ZE:it<s.heap.objs.size:=by obtain⟨o,e1,_⟩:=st;exact Heap.lt_size e1
  refine wpAny_pyNext_enum_item he st p.isList (x:=u) (by simpa using hu) ZC fun h1 eo st1 ht1 hz1 hk1=>?_;refine⟨_,Z,wpAny_letOwnedTupleGo_enum eo fun h2 Of hs2=>?_⟩
  replace hs2:Heap.SameBut e h1 h2:=hs2
  have nm:∀b,b∉[e,it]->b≠e/\b≠it:=fun b hb=>⟨fun z=>hb (by simp[z]),fun z=>hb (by simp[z])⟩;have IT:=I.C9 (t':=s.toks+1) (h':=h2) (its:=[e,it]) (xs:=[.int ((i:Nat):Int),x]) (us:=[.int i s.toks,u]) (fun b o hb q=>hs2.extBut b o (nm b hb).1 (hk1 b o (nm b hb).1 (nm b hb).2 q)) hf
   (fun b hb=>by
    rcases List.mem_cons.mp hb with z | z
    .rw[z];exact ZD
    .have z':b=it:=by simpa using z
     rw[z'];exact ZE)
   (hs2.extBut _ _ (iF ZD) ht1) jP (.cons ⟨_,Z⟩ (.cons ru .nil))
  refine⟨.ref s.heap.objs.size,_,IT.1,Z,⟨_,x,Z,I.hok.fresh (aH _),fun ys hy=>by rw[I.tV hy hq];exact hx,Z⟩,⟨u,?_,st1.extBut hs2.extBut (dj ZC)⟩,IT.2⟩;have:((i+1:Nat):Int)=(i:Int)+1:=by push_cast;rfl
  rw[this];exact Of
 done:=by
  intro X hP hw hK hc i pins s σ H E I hf st hg;subst hP hw hK;obtain⟨old,he,st⟩:=st;obtain⟨xs,hq,hx⟩:=hg;obtain⟨its,rv,p,hz⟩:=I.list hq;have hl:=rv.length;obtain⟨f0,f1,f2,f3,f4,f5⟩:=hf it jH;exact wpAny_pyNext_enum_end (I.ok.hd hc) he st p.isList (by simp;lia) fun h' eb=>⟨Z,I.turned (t':=s.toks) (fun b o hb e=>eb b o hb e) f0 f1 f3 f4 f5⟩
 self:=fun A i s Q E st h=>by
  obtain⟨old,he,st⟩:=st;exact wpAny_pyIter_enum he h
section
variable {X:Cx}
def PR (K:PySem.W.Frag)(ta:TA):TI:=fun σ H R=>ta σ H fun vs H1=>∃a,vs=[.ref a]/\(∃xs,j6 K H1 a xs)/\R (LH K a) H1
theorem oQ {elts:List Expr}{x1}{pos':Pos}{a:Expr}{ta:TA}{p pos:Pos}(hg:Gl X "enumerate")(hm:X.mg "enumerate"=none)(ha:PA X [a] ta)(hs:starEach [a] X.env=[(false,eval a X.env)]:=by rfl):PI X (.Tuple elts x1 pos') (.Call (.Name "enumerate" p) [a] [] pos) (PR X.K ta):=by
 intro pins s σ H R I h;refine Call_ (pV I hg hm boot_enumerate (cG (mQ (ha pos pins s σ H _ I h) fun us s1 ⟨vs,H1,I1,r1,q1⟩=>?_) hs Z));obtain⟨a,e,⟨xs,hq⟩,q⟩:=q1;subst e;cases r1 with
 | cons r rr =>
  cases rr;cases r;obtain⟨its,rv,p,hz⟩:=I1.list hq;refine call_enumerate_list p.isList fun h' he hit hz hk=>?_;have I2:Inv X pins σ H1 { s1 with heap:=h' }:=I1.kept (t':=s1.toks) hk;refine wpAny_pyIter_enum he ?_;refine⟨_,[s1.heap.objs.size+1,s1.heap.objs.size],_,_,H1,Z,I2,EI a _ _ (Nat.succ_ne_self _),⟨.none,he,hit⟩,fun b hb=>?_,q⟩;rcases List.mem_cons.mp hb with z | z
  .subst z;exact I1.BO (gi _) (I1.hok.fresh (gi _))
  .have z':b=s1.heap.objs.size:=by simpa using z
   subst z';exact I1.BO (aH _) (I1.hok.fresh (aH _))
end
def K9 (K:PySem.W.Frag)(a b:Addr):It :=
  ⟨fun i H=>∃xs ys x y,j6 K H a xs/\j6 K H b ys/\xs[i]?=some x/\ys[i]?=some y,fun i H v H'=>∃p x y,v=.ref p/\H p=none/\(∀xs,j6 K H a xs->xs[i]?=some x)/\(∀ys,j6 K H b ys->ys[i]?=some y)/\H'=upd H p (.tup [x,y]),
   fun i H=>∃xs ys,j6 K H a xs/\j6 K H b ys/\(xs.length<=i\/ys.length<=i)⟩
theorem GC {P:Program}{w:World}{elts:List Expr}{x1}{pos:Pos}(a b z TI TO i1 i2:Addr)(D:ZipApart z TI TO i1 i2 a b):Turn P w K (.Tuple elts x1 pos) (K9 K a b) [z,TI,TO,i1,i2] z
  (fun i h=>IsZip h z TI TO .none/\IsPair h TI (.ref i1) (.ref i2)/\(∃u v,IsPair h TO u v)/\h.IsListIter i1 a i/\h.IsListIter i2 b i) where
 mem:=by simp
 obj:=fun i h st c hc=>by
  obtain⟨hz,h1,⟨u,v,h2⟩,⟨o1,e1,c1,d1⟩,⟨o2,e2,c2,d2⟩⟩:=st;simp only[List.mem_cons,List.not_mem_nil,or_false] at hc;rcases hc with rfl | rfl | rfl | rfl | rfl
  .exact⟨_,hz,fun v q=>by
    have q':Data.fields _=Data.cell v:=q;cases q'⟩
  .exact⟨_,h1,fun v q=>by
    have q':Data.seq _ _=Data.cell v:=q;cases q'⟩
  .exact⟨_,h2,fun v q=>by
    have q':Data.seq _ _=Data.cell v:=q;cases q'⟩
  .exact⟨o1,e1,fun v q=>by rw[d1] at q;cases q⟩
  .exact⟨o2,e2,fun v q=>by rw[d2] at q;cases q⟩
 keep:=fun i h h' st k=>by
  obtain⟨hz,h1,⟨u,v,h2⟩,s1,s2⟩:=st;exact⟨k z jH _ hz,k TI jH _ h1,⟨u,v,k TO jH _ h2⟩,s1.at fun o e=>k i1 jH o e,s2.at fun o e=>k i2 jH o e⟩
 item:=by
  intro X hP hw hK hc i pins s σ H E I hf st hg;subst hP hw hK;obtain⟨hz,h1,⟨u0,v0,h2⟩,s1,s2⟩:=st;obtain⟨xs,ys,x,y,hq,Bo,hx,hy⟩:=hg;obtain⟨its,rv,p,hzl⟩:=I.list hq;obtain⟨its',Si,p',XQ⟩:=I.list Bo;obtain⟨u,hu,ru⟩:=rv.get hx;obtain⟨u',XR,ru'⟩:=Si.get hy;have ltz:z<s.heap.objs.size:=bR hz;have lt1:TI<s.heap.objs.size:=bR h1;have ZF:TO<s.heap.objs.size:=bR h2;have ZE:i1<s.heap.objs.size:=by obtain⟨o,e1,_⟩:=s1;exact Heap.lt_size e1
  have ltj:i2<s.heap.objs.size:=by obtain⟨o,e1,_⟩:=s2;exact Heap.lt_size e1
  refine wpAny_pyNext_zip_item D hz h1 h2 s1 s2 p.isList p'.isList (x:=u) (y:=u') (by simpa using hu) (by simpa using XR) fun g1 a1 a2 a3 a4 a5 a6 hk=>?_;refine⟨_,Z,wpAny_letOwnedTupleGo_zip a1 fun g2 Of hs2=>?_⟩
  replace hs2:Heap.SameBut z g1 g2:=hs2
  have nm:∀b,b∉[z,TI,TO,i1,i2]->b≠z/\b≠TO/\b≠i1/\b≠i2:=fun b hb=>⟨fun q=>hb (by simp[q]),fun q=>hb (by simp[q]),fun q=>hb (by simp[q]),fun q=>hb (by simp[q])⟩;have IT:=I.C9 (t':=s.toks) (h':=g2) (its:=[z,TI,TO,i1,i2]) (xs:=[x,y]) (us:=[u,u']) (fun b o hb q=>hs2.extBut b o (nm b hb).1 (hk b o (nm b hb).1 (nm b hb).2.1 (nm b hb).2.2.1 (nm b hb).2.2.2 q)) hf
   (fun b hb=>by
    simp only[List.mem_cons,List.not_mem_nil,or_false] at hb;rcases hb with rfl | rfl | rfl | rfl | rfl<;>assumption)
   (hs2.extBut _ _ (iF ltz) a5) jP (.cons ru (.cons ru' .nil))
  exact⟨.ref s.heap.objs.size,_,IT.1,Z,⟨_,x,y,Z,I.hok.fresh (aH _),fun ys CW=>by rw[I.tV CW hq];exact hx,fun ys CW=>by rw[I.tV CW Bo];exact hy,Z⟩,
   ⟨Of,hs2.extBut _ _ D.TIz (hk _ _ D.TIz D.TITO D.TIi1 D.TIi2 h1),⟨_,_,hs2.extBut _ _ D.TOz a2⟩,a3.extBut hs2.extBut D.i1z,a4.extBut hs2.extBut D.i2z⟩,IT.2⟩
 done:=by
  intro X hP hw hK hc i pins s σ H E I hf st hg;subst hP hw hK;obtain⟨hz,h1,⟨u0,v0,h2⟩,s1,s2⟩:=st;obtain⟨xs,ys,hq,Bo,hx⟩:=hg;obtain⟨its,rv,p,hzl⟩:=I.list hq;obtain⟨its',Si,p',XQ⟩:=I.list Bo;have hl:=rv.length;have hl':=Si.length;refine wpAny_pyNext_zip_end (I.ok.hd hc) D hz h1 h2 s1 s2 p.isList p'.isList (by rcases hx with q | q;exact .inl (by simp;lia);exact .inr (by simp;lia)) fun h' hk=>⟨rfl,I.DV (t':=s.toks) (its:=[z,TI,TO,i1,i2]) (fun b o hb e=>hk b o ?_ ?_ ?_ ?_ e) hf⟩
  .exact fun q=>hb (by simp[q])
  .exact fun q=>hb (by simp[q])
  .exact fun q=>hb (by simp[q])
  .exact fun q=>hb (by simp[q])
 self:=fun A i s Q E st h=>wpAny_pyIter_zip st.1 h
section
variable {X:Cx}
def Vt (K:PySem.W.Frag)(ta:TA):TI:=fun σ H R=>ta σ H fun vs H1=>∃a b,vs=[.ref a,.ref b]/\(∃xs,j6 K H1 a xs)/\(∃ys,j6 K H1 b ys)/\R (K9 K a b) H1
theorem m7 {elts:List Expr}{x1}{pos':Pos}{a b:Expr}{ta:TA}{p pos:Pos}(hg:Gl X "zip")(hm:X.mg "zip"=none)(ha:PA X [a,b] ta)(hs:starEach [a,b] X.env=[(false,eval a X.env),(false,eval b X.env)]:=by rfl)(hs2:starEach [b] X.env=[(false,eval b X.env)]:=by rfl) :
  PI X (.Tuple elts x1 pos') (.Call (.Name "zip" p) [a,b] [] pos) (Vt X.K ta):=by
 intro pins s σ H R I h;refine Call_ (pV I hg hm boot_zip (cG (mQ (ha pos pins s σ H _ I h) fun us s1 ⟨vs,H1,I1,r1,q1⟩=>?_) (by rw[hs,hs2]) (by rw[hs2];rfl)));obtain⟨a,b,e,⟨xs,hq⟩,⟨ys,Bo⟩,q⟩:=q1;subst e;cases r1 with
 | cons r rr =>
  cases rr with
  | cons r' rr =>
   cases rr;cases r;cases r';obtain⟨its,rv,p,hz⟩:=I1.list hq;obtain⟨its',Si,p',hz'⟩:=I1.list Bo;have la:a<s1.heap.objs.size:=by obtain⟨o,e1,_⟩:=p.isList;exact Heap.lt_size e1
   have lb:b<s1.heap.objs.size:=by obtain⟨o,e1,_⟩:=p'.isList;exact Heap.lt_size e1
   refine call_zip_2 p.isList p'.isList fun h' hz hTI hTO hi1 hi2 hsz hk=>?_;have I2:Inv X pins σ H1 { s1 with heap:=h' }:=I1.kept (t':=s1.toks) hk;refine wpAny_pyIter_zip hz ?_;refine⟨_,_,_,_,H1,Z,I2,GC a b _ _ _ _ _ (zipApart_new la lb),⟨hz,hTI,⟨_,_,hTO⟩,hi1,hi2⟩,fun c hc=>?_,q⟩;simp only[List.mem_cons,List.not_mem_nil,or_false] at hc;rcases hc with rfl | rfl | rfl | rfl | rfl<;>exact I1.BO J (I1.hok.fresh J)
end
theorem pH {a:Addr}{g:TG}{tb:TS}{D:Ends}{σ:St}{H:Hp}(Pv:Nat->St->Hp->Prop)(h0:Pv 0 σ H)(hl:∀i σ H,i<=xs.length->Pv i σ H->j6 K H a xs)
 (hs:∀i x σ H p,xs[i]?=some x->Pv i σ H->H p=none->g (.ref p) σ (upd H p (.tup [.int i,x])) fun mU H2=>tb { D with nx:=Pv (i+1),ct:=Pv (i+1),bk:=D.nx } mU H2)(hd:∀σ H,Pv xs.length σ H->D.nx σ H) :
    ∃W:Nat->Nat->St->Hp->Prop,(∃m,W 0 m σ H)/\∀i m σ H,W i m σ H ->
      ((LH K a).stop i H/\D.nx σ H)\/((LH K a).go i H/\∃N:St->Hp->Prop,(∀lh H',N lh H'->∃m',m'<m/\W (i+1) m' lh H')/\∀x H',(LH K a).yld i H x H'->g x σ H' fun mU H2=>tb { D with nx:=N,ct:=N,bk:=D.nx } mU H2):=by
  refine⟨fun i m σ H=>m=xs.length-i/\i<=xs.length/\Pv i σ H,⟨xs.length,jH,Nat.zero_le _,h0⟩,?_⟩;rintro i m σ H ⟨rfl,hi,p⟩;have q:=hl i σ H hi p
  by_cases pM:i<xs.length
  · refine .inr ⟨⟨xs,xs[i],q,by simp[pM]⟩,Pv (i+1),fun lh H' p'=>⟨xs.length-(i+1),J,Z,pM,p'⟩,fun x H' y=>?_⟩
    obtain⟨r,y,rfl,hr,hy,rfl⟩:=y;exact hs i y σ _ r (hy xs q) p hr
  · have e:i=xs.length:=J
    subst e;exact .inl ⟨⟨xs,q,aH _⟩,hd σ H p⟩
theorem yB {a:Addr}{g:TG}{tc:TT}{te:TE}{lh:St}{H:Hp}{Q:VK}(Pv:Nat->List V->Hp->Prop)(h0:Pv 0 [] H)(hl:∀i ys H,i<=xs.length->Pv i ys H->j6 K H a xs)(hz:∀i ys H,i<xs.length->Pv i ys H->ys.length<sizeLine)
 (hs:∀i x ys H p,xs[i]?=some x->Pv i ys H->H p=none->g (.ref p) lh (upd H p (.tup [.int i,x])) fun mU H2=>tc mU H2 fun b H3=>if b=true then te mU H3 fun y H4=>Pv (i+1) (ys++[y]) H4 else Pv (i+1) ys H3)(hd:∀ys H,Pv xs.length ys H->∀D,H D=none->Q (.ref D) (upd H D (.lst ys))) :
    m8 (LH K a) g tc te lh Q H:=by
  refine⟨fun i m ys H=>m=xs.length-i/\i<=xs.length/\Pv i ys H,⟨xs.length,jH,Nat.zero_le _,h0⟩,?_⟩;rintro i m ys H ⟨rfl,hi,p⟩;have q:=hl i ys H hi p
  by_cases pM:i<xs.length
  · refine .inr ⟨⟨xs,xs[i],q,by simp[pM]⟩,hz i ys H pM p,Pv (i+1),fun Nv H' p'=>⟨xs.length-(i+1),J,Z,pM,p'⟩,fun x H' y=>?_⟩
    obtain⟨r,y,rfl,hr,hy,rfl⟩:=y;exact hs i y ys _ r (hy xs q) p hr
  · have e:i=xs.length:=J
    subst e;exact .inl ⟨⟨xs,q,aH _⟩,hd ys H p⟩
theorem wG {a b:Addr}{ys:List V}{g:TG}{tc:TT}{te:TE}{lh:St}{H:Hp}{Q:VK}(hlen:xs.length=ys.length)(Pv:Nat->List V->Hp->Prop)(h0:Pv 0 [] H)(hl:∀i rs H,i<=xs.length->Pv i rs H->j6 K H a xs/\j6 K H b ys)(hz:∀i rs H,i<xs.length->Pv i rs H->rs.length<sizeLine)
 (hs:∀i x y rs H p,xs[i]?=some x->ys[i]?=some y->Pv i rs H->H p=none->g (.ref p) lh (upd H p (.tup [x,y])) fun mU H2=>tc mU H2 fun b H3=>if b=true then te mU H3 fun y H4=>Pv (i+1) (rs++[y]) H4 else Pv (i+1) rs H3)(hd:∀rs H,Pv xs.length rs H->∀D,H D=none->Q (.ref D) (upd H D (.lst rs))) :
    m8 (K9 K a b) g tc te lh Q H:=by
  refine⟨fun i m rs H=>m=xs.length-i/\i<=xs.length/\Pv i rs H,⟨xs.length,jH,Nat.zero_le _,h0⟩,?_⟩;rintro i m rs H ⟨rfl,hi,p⟩;have q:=hl i rs H hi p
  by_cases pM:i<xs.length
  · refine .inr ⟨⟨xs,ys,xs[i],ys[i],q.1,q.2,by simp[pM],jH⟩,hz i rs H pM p,Pv (i+1),fun Nv H' p'=>⟨xs.length-(i+1),J,Z,pM,p'⟩,fun x H' y=>?_⟩
    obtain⟨r,x,y,rfl,hr,hx,hy,rfl⟩:=y;exact hs i x y rs _ r (hx xs q.1) (hy ys q.2) p hr
  · have e:i=xs.length:=J
    subst e;exact .inl ⟨⟨xs,ys,q.1,q.2,.inl (aH _)⟩,hd rs H p⟩
theorem vm {n i j:Nat}(h:n<=i)(h':n<=j):rL n (I0 K 2 (vi (kW i) (vi (kW j) Kd))):=by
 rintro x σ H Q ⟨a,xs,rfl,hq,hl,v,r,rfl,v',r',rfl,rfl,q⟩;exact⟨a,_,Z,hq,hl,v,_,Z,v',_,Z,Z,⟨jH,fun k hk=>by rw[List.getElem?_set_ne J,List.getElem?_set_ne J]⟩,q⟩
theorem Aa:bootBuiltins "all"=some (.builtin "all"):=by decide +kernel
theorem Ft:bootBuiltins "min"=some (.builtin "min"):=by decide +kernel
theorem HI:bootBuiltins "max"=some (.builtin "max"):=by decide +kernel
open PySem PySem.Spec PyProof.Rows PySem.SeqAt
mutual
inductive Er (K:PySem.W.Frag)(H:Hp):V->PyData->Prop
 | non:Er K H .non .none
 | bl (b:Bool):Er K H (.bl b) (.bool b)
 | int (i:Int):Er K H (.int i) (.int i)
 | str (x:Str):Er K H (.str x) (.str x)
 | lst {a:Addr}{xs:List V}{ds:List PyData}:j6 K H a xs->Ax K H xs ds->Er K H (.ref a) (.list ds)
 | tup {a:Addr}{xs:List V}{ds:List PyData}:kQ K H a xs->Ax K H xs ds->Er K H (.ref a) (.tuple ds)
inductive Ax (K:PySem.W.Frag)(H:Hp):List V->List PyData->Prop
 | nil:Ax K H [] []
 | cons {x:V}{d:PyData}{xs:List V}{ds:List PyData}:Er K H x d->Ax K H xs ds->Ax K H (x::xs) (d::ds)
end
section
variable {X:Cx}{pins:List (Addr×Obj)}{σ:St}{H:Hp}{s:Shared}
mutual
theorem sj (I:Inv X pins σ H s):∀{x:V}{d:PyData}{u:Value},Er X.K H x d->RelV x u->∃as,Reads s.heap u d as
 | _,_,_,.non,r=>by cases r;exact⟨_,.none⟩
 | _,_,_,.bl b,r=>by cases r;exact⟨_,.bool b⟩
 | _,_,_,.int i,⟨t,e⟩=>by subst e;exact⟨_,.int i t⟩
 | _,_,_,.str y,⟨t,e⟩=>by subst e;exact⟨_,.str y t⟩
 | _,_,_,.lst h hs,r=>by
  cases r;obtain⟨its,rv,pl,_⟩:=I.list h;obtain⟨as,ra⟩:=rS I hs rv;obtain⟨o,ho,hc,n,hd⟩:=pl.isList;exact⟨_,.list ho hc hd ra⟩
 | _,_,_,.tup h hs,r=>by
  cases r;obtain⟨its,rv,pl,_⟩:=I.tuple h;obtain⟨as,ra⟩:=rS I hs rv;obtain⟨o,ho,hc,n,hd⟩:=pl;exact⟨_,.tuple ho hc hd ra⟩
theorem rS (I:Inv X pins σ H s):∀{xs:List V}{ds:List PyData}{us:List Value},Ax X.K H xs ds->Vals xs us->∃as,ReadsAll s.heap us ds as
 | _,_,_,.nil,.nil=>⟨_,.nil⟩
 | _,_,_,.cons h t,.cons r rs=>by
  obtain⟨as,ra⟩:=sj I h r;obtain⟨bs,rb⟩:=rS I t rs;exact⟨_,.cons ra rb⟩
end
end
def OH (K:PySem.W.Frag):R2:=fun x y H Q=>∃d e,Er K H x d/\Er K H y e/\shaped d=true/\shaped e=true/\noMix d e=true/\Q (.bl (same d e)) H
def L9 (K:PySem.W.Frag):R2:=fun x y H Q=>∃d e,Er K H x d/\Er K H y e/\shaped d=true/\shaped e=true/\noMix d e=true/\Q (.bl (!same d e)) H
theorem Ja {A:Around}{k:Nat}(hr:nM k A):A.units+64<cLine:=by have:=hr.un;lia
section
variable {X:Cx}
theorem Gg (hu:X.A.units+64<cLine):vg X (compareOp .Eq) (OH X.K):=by
 intro pins s σ H x y v u Q I rx ry h;obtain⟨d,e,h1,h2,s1,s2,nm,q⟩:=h;obtain⟨as,ra⟩:=sj I h1 rx;obtain⟨bs,rb⟩:=sj I h2 ry;exact eq_dataH_same ra rb s1 s2 hu nm ⟨.bl _,H,I,Z,q⟩
theorem Fw (hu:X.A.units+64<cLine):vg X (compareOp .NotEq) (L9 X.K):=by
 intro pins s σ H x y v u Q I rx ry h;obtain⟨d,e,h1,h2,s1,s2,nm,q⟩:=h;obtain⟨as,ra⟩:=sj I h1 rx;obtain⟨bs,rb⟩:=sj I h2 ry;exact ne_dataH_same ra rb s1 s2 hu nm ⟨.bl _,H,I,Z,q⟩
end
theorem Dj {K:PySem.W.Frag}{H:Hp}:∀ns:List Int,Ax K H (ns.map V.int) (ns.map PyData.int)
 | []=>.nil
 | n::r=>.cons (.int n) (Dj r)
theorem FZ {K:PySem.W.Frag}{H:Hp}{a:Addr}{ns:List Int}(h:j6 K H a (ns.map V.int)):Er K H (.ref a) (.list (ns.map PyData.int)):=.lst h (Dj ns)
theorem Fv (ns ms:List Int):noMix (.list (ns.map PyData.int)) (.list (ms.map PyData.int))=true:=by simp only[noMix];exact PySem.W.noMix_ints ns ms
theorem CM (ns ms:List Int):same (.list (ns.map PyData.int)) (.list (ms.map PyData.int))=decide (ns=ms):=by simp only[same];exact PySem.W.same_ints ns ms
theorem Ge {K:PySem.W.Frag}{H:Hp}{a b:Addr}{ns ms:List Int}{Q:VK}(h1:j6 K H a (ns.map V.int))(h2:j6 K H b (ms.map V.int))(q:Q (.bl (decide (ns=ms))) H):OH K (.ref a) (.ref b) H Q :=
 ⟨_,_,FZ h1,FZ h2,i5 ns,i5 ms,Fv ns ms,by rw[CM];exact q⟩
theorem yj:∀{ns:List Int}{its:List Value},Vals (ns.map V.int) its->∃ts:List (Int×Tok),its=ts.map (fun p=>Value.int p.1 p.2)/\ts.map (·.1)=ns
 | [],_,.nil=>⟨[],Z,Z⟩
 | n::r,_,.cons ⟨t,e⟩ rs=>by
  obtain⟨ts,e1,e2⟩:=yj rs;subst e;exact⟨(n,t)::ts,by rw[e1];rfl,by rw[<-e2];rfl⟩
section
variable {X:Cx}
theorem yC (hc:X.calm=true):rz X (.builtin "sum") (fun xs H Q=>∃(a:Addr)(ns:List Int),xs=[.ref a]/\j6 X.K H a (ns.map V.int)/\Q (.int ns.sum) H):=by
 intro pins s σ H xs us Q I r h;obtain⟨a,ns,rfl,hl,q⟩:=h;obtain⟨u,rfl,ru⟩:=vals1 r;cases ru;obtain⟨its,rv,pl,_⟩:=I.list hl;obtain⟨ts,e1,e2⟩:=yj rv;have hi:s.heap.IsList a (intItems ts.toArray):=by
  have e:intItems ts.toArray=its.toArray:=by rw[e1];simp[intItems]
  rw[e];exact pl.isList
 refine sum_intListG (I.ok.hd hc) hi fun h' tk t' hk=>⟨.int ns.sum,H,I.kept (t':=tk) hk,⟨t',?_⟩,q⟩;rw[preSum_eq,iJ jH,<-e2]
end
end L2
namespace Ld
variable {n:Nat}{a b:List Int}
def S:Nat->(Int->Int)->Int
 | 0,_=>0
 | n+1,F=>S n F+F n
theorem jT {F G:Int->Int}:∀{n:Nat},(∀j:Nat,j<n->F j=G j)->S n F=S n G
 | 0,_=>rfl
 | n+1,h=>by simp only[S];rw[jT fun j hj=>h j jJ,h n jJ]
theorem mX:∀n:Nat,S n (fun _=>0)=0
 | 0=>rfl
 | n+1=>by simp only[S];rw[mX n];rfl
theorem mD (F G:Int->Int):∀n:Nat,S n (fun j=>F j+G j)=S n F+S n G
 | 0=>rfl
 | n+1=>by simp only[S];rw[mD F G n];omega
theorem ku (c:Int)(F:Int->Int):∀n:Nat,S n (fun j=>c*F j)=c*S n F
 | 0=>by simp[S]
 | n+1=>by simp only[S];rw[ku c F n,Int.mul_add]
theorem pY (c:Int)(F:Int->Int)(n:Nat):S n (fun j=>F j*c)=S n F*c:=by
 rw[aB,<-ku];exact jT fun j _=>aB _ _
theorem mO (F:Int->Int->Int)(m:Nat):∀n:Nat,S n (fun j=>S m (fun k=>F j k))=S m (fun k=>S n (fun j=>F j k))
 | 0=>by simp only[S];rw[mX]
 | n+1=>by simp only[S];rw[mO F m n,<-mD]
theorem yr {c:Int}{G:Int->Int}:∀{n:Nat},0<=c->S n (fun j=>if j=c then G j else 0)=if c<n then G c else 0
 | 0,h=>by simp only[S];rw[if_neg jJ]
 | n+1,h=>by
  simp only[S];rw[yr h]
  by_cases e:(n:Int)=c
  .subst e;rw[ao jJ,aD Z,aD jJ];omega
  .rw[ao e]
   by_cases q:c<(n:Int)
   .rw[aD q,aD jJ];omega
   .rw[ao q,ao jJ];omega
def tK (n:Nat)(F:Int->Int):Prop:=∀x y:Int,x%n=y%n->F x=F y
theorem tK.md {F:Int->Int}(h:tK n F)(x:Int):F (x%n)=F x:=h _ _ (aW x (c5 _))
theorem vn {n x y:Int}(c:Int)(h:x%n=y%n):(x+c)%n=(y+c)%n:=by rw[Int.add_emod,h,<-Int.add_emod]
def at' (a:List Int)(x:Int):Int:=a.getD (x%a.length).toNat 0
theorem MT (a:List Int):tK a.length (at' a):=fun x y h=>by unfold at';rw[h]
theorem om (h:a.length=n):tK n (at' a):=h▸MT a
theorem vH (hn:0<n)(x:Int):(x%n).toNat<n:=by
 have h1:=aC x (show (n:Int)≠0 by omega);have h2:=az x (show (0:Int)<n by omega);omega
theorem zE (hn:0<n)(x:Int):(((x%n).toNat:Nat):Int)=x%n:=cq (aC x jJ)
theorem tf {x:Int}(h:0<a.length):a[(x%a.length).toNat]?=some (at' a x):=by
 have:=vH h x;unfold at';rw[ah,ax this];rfl
theorem oO {k:Nat}{v:Int}(h:a[k]?=some v):at' a k=v:=by
 have hk:k<a.length:=(aF.mp h).1;unfold at';rw[aR jJ jJ,ae,ah,h];rfl
theorem GW {k:Nat}(h:k<a.length):a[k]?=some (at' a k):=by
 rw[ax h];exact cQ some (oO (ax h)).symm
theorem ext (hl:a.length=b.length)(h:∀k:Nat,k<a.length->at' a k=at' b k):a=b:=by
 refine g6 fun k=>?_
 by_cases hk:k<a.length
 .rw[GW hk,GW (hl▸hk),h k hk]
 .rw[cH jJ,cH jJ]
theorem vW (hl:a.length=n)(hn:0<n)(x v y:Int):at' (a.set (x%n).toNat v) y=if y%n=x%n then v else at' a y:=by
 have hx:=vH hn x;have hy:=vH hn y;unfold at';rw[cf,hl,ah,List.getElem?_set]
 by_cases e:y%n=x%n
 .rw[aD e,e,aD Z,aD jJ];rfl
 .rw[ao e,ao fun z=>e ?_,<-ah];have:=cQ (Nat.cast (R:=Int)) z;rw[zE hn,zE hn] at this;exact this.symm
theorem HM (n:Nat)(x:Int):at' (List.replicate n 0) x=0:=by
 unfold at';rw[ah,fK];split<;>rfl
def MZ (n:Nat)(h w:Int):List Int:=(List.replicate n 0).set (h%n).toNat w
def plus (a b:List Int):List Int:=List.zipWith (· + ·) a b
theorem n6 (h:a.length=b.length):(plus a b).length=a.length:=by simp[plus,h]
theorem oS (h:a.length=b.length)(hn:0<a.length)(x:Int):at' (plus a b) x=at' a x+at' b x:=by
 have e:=tf (a:=plus a b) (x:=x) (by rw[n6 h];exact hn);rw[n6 h] at e;unfold plus at e;rw[bU,tf hn,show (x%a.length).toNat=(x%b.length).toNat by rw[h],tf jJ] at e;exact(bK e).symm
def scaled (a:List Int)(m:Int):List Int:=a.map (· * m)
theorem sR (a:List Int)(m:Int):(scaled a m).length=a.length:=by simp[scaled]
theorem qD (hn:0<a.length)(m x:Int):at' (scaled a m) x=at' a x*m:=by
 have e:=tf (a:=scaled a m) (x:=x) (by rw[sR];exact hn);rw[sR] at e;unfold scaled at e;rw[af,tf hn] at e;exact(bK e).symm
def conv (a b:List Int):List Int:=(List.range b.length).map fun x:Nat=>S b.length fun j=>at' a j*at' b ((x:Int)-j)
def Bd (B:Nat)(a:List Int):Prop:=∀x∈a,x.natAbs<=B
theorem A5 {B:Nat}(h:Bd B a)(x:Int):(at' a x).natAbs<=B:=by
 unfold at';rw[ah];cases e:a[(x%a.length).toNat]? with
 | none=>exact dJ _
 | some v=>exact h v (ak e)
def nz (a:List Int)(i:Nat):List (Int×Int):=((List.range i).map fun j:Nat=>((j:Int),at' a j)).filter fun p=>decide (¬p.2=0)
end Ld
set_option maxHeartbeats 5000000
namespace L2
variable {n:Nat}{a:List Int}
open PySem PySem.Spec PyProof.Rows PySem.SeqAt
theorem oX {k:Int}(h0:0<=k)(h1:k<n):IH n k=some k.toNat:=by unfold IH;rw[if_pos h0,if_pos h1]
theorem Af {xs:List V}(hl:xs.length=n)(hn:0<n)(x:Int):IH xs.length (x%n)=some (x%n).toNat:=by
 rw[hl];exact oX (aC _ J) (az _ J)
theorem xi (hl:a.length=n):(a.map V.int).length=n:=by rw[aa,hl]
theorem Dh (hl:a.length=n)(hn:0<n)(x:Int):me (a.map V.int) (x%n)=some (.int (Ld.at' a x)):=by
 subst hl;unfold me;rw[Af (xi Z) hn];show (a.map V.int)[(x%(a.length:Int)).toNat]?=_
 rw[af,Ld.tf hn];rfl
theorem AL {k:Int}(h0:0<=k)(hk:k<a.length):me (a.map V.int) k=some (.int (Ld.at' a k)):=by
 have:=Dh (a:=a) Z J k;rwa [aR h0 hk] at this
theorem rep0 (m:Nat):(List.replicate ((m:Nat):Int).toNat [V.int 0]).flatten=(List.replicate m (0:Int)).map V.int:=by
 rw[ae]
 induction m with
 | zero=>rfl
 | succ k ih=>rw[c9,eT,ih,c9,df];rfl
theorem set_int {j:Nat}{v:Int}:(a.map V.int).set j (.int v)=(a.set j v).map V.int:=by rw[List.map_set]
theorem nq {l:List Int}{i:Nat}{v:Int}(h:l[i]?=some v):(l.take (i+1)).map V.int=(l.take i).map V.int++[.int v]:=by
 rw[List.take_succ,h,aO];rfl
theorem nR {l:List Int}(h:l.length=n):(l.take n).map V.int=l.map V.int:=by rw[<-h,bV]
def Fz (H:Hp)(r:Addr)(ps:List (Int×Int)):Prop:=∃as:List Addr,H r=some (.lst (as.map V.ref))/\Paired (fun a (x:Int×Int)=>H a=some (.tup [.int x.1,.int x.2])) as ps
theorem oK {as:List Addr}{i:Nat}{x:V}(h:(as.map V.ref)[i]?=some x):∃a,x=.ref a/\as[i]?=some a:=by
 rw[af] at h;cases e:as[i]? with
 | none=>rw[e] at h;cases h
 | some v=>rw[e] at h;cases h;exact⟨v,Z,Z⟩
theorem oe {g:TG}{tb:TS}{D:Ends}{σ:St}{H:Hp}(Pv:Nat->St->Hp->Prop)(h0:Pv 0 σ H)
 (hs:∀i σ H,i<n->Pv i σ H->g (.int i) σ H fun mU H2=>tb { D with nx:=Pv (i+1),ct:=Pv (i+1),bk:=D.nx } mU H2)(hd:∀σ H,Pv n σ H->D.nx σ H) :
    ∃W:Nat->Nat->St->Hp->Prop,(∃m,W 0 m σ H)/\∀i m σ H,W i m σ H ->
      ((B9 0 n).stop i H/\D.nx σ H)\/((B9 0 n).go i H/\∃N:St->Hp->Prop,(∀lh H',N lh H'->∃m',m'<m/\W (i+1) m' lh H')/\∀x H',(B9 0 n).yld i H x H'->g x σ H' fun mU H2=>tb { D with nx:=N,ct:=N,bk:=D.nx } mU H2) :=
  EN Pv h0 (fun i σ H hi p=>by rw[dF];exact hs i σ H hi p) hd
theorem rX {g:TG}{tc:TT}{te:TE}{lh:St}{H:Hp}{Q:VK}(Pv:Nat->List V->Hp->Prop)(h0:Pv 0 [] H)(hz:∀i ys H,i<n->Pv i ys H->ys.length<sizeLine)
 (hs:∀i ys H,i<n->Pv i ys H->g (.int i) lh H fun mU H2=>tc mU H2 fun b H3=>if b=true then te mU H3 fun y H4=>Pv (i+1) (ys++[y]) H4 else Pv (i+1) ys H3)(hd:∀ys H,Pv n ys H->∀D,H D=none->Q (.ref D) (upd H D (.lst ys))) :
    m8 (B9 0 n) g tc te lh Q H:=sS Pv h0 hz (fun i ys H hi p=>by rw[dF];exact hs i ys H hi p) hd
theorem oC {X:Cx}{K:PySem.W.Frag}(h:X.K=K):N5 X (Pd K):=by subst h;exact kN
theorem ES {X:Cx}{K:PySem.W.Frag}(h:X.K=K):rz X (.builtin "len") (fun xs H Q=>∃p ys,xs=[.ref p]/\(j6 K H p ys\/kQ K H p ys)/\Q (.int ys.length) H):=by subst h;exact tY
open PySem PySem.Spec PyProof.Rows
def FF (lo st:Int)(n:Nat):It:=⟨fun i _=>i<n,fun i H x H'=>H'=H/\x=.int (lo+i*st),fun i _=>n<=i⟩
theorem AK {P:Program}{w:World}{K:PySem.W.Frag}{tg:Expr}(it:Addr)(lo st:Int)(n:Nat):Turn P w K tg (FF lo st n) [it] it (fun i h=>IsRangeIter h it (lo+(i:Nat)*st) ((n:Int)-(i:Nat)) st) where
 mem:=by simp
 obj:=fun i h st b hb=>by
  have e:b=it:=by simpa using hb
  subst e;exact⟨_,st,fun v z=>by
   have z':Data.fields _=Data.cell v:=z;cases z'⟩
 keep:=fun i h h' st k=>k it jH _ st
 item:=by
  intro X hP hw hK hc i pins s σ H E I hf IK hg;subst hP hw hK;obtain⟨f0,f1,f2,f3,f4,f5⟩:=hf it jH;have W:=Walks.range (prog:=X.prog) (w:=X.w) (I.ok.hd hc) it lo st n;refine W.item i s _ _ hg IK fun v h' tk hv QP kk=>?_;obtain⟨t,rfl⟩:=hv;have I1:Inv X pins σ H { s with heap:=h',toks:=tk }:=I.turned (fun b o hb e=>kk b o (by simpa using hb) e) f0 f1 f3 f4 f5;exact⟨_,Z,De (s:={ s with heap:=h',toks:=tk }) (n:="range_iterator") QP Z Z O ⟨.int (lo+i*st),H,I1,⟨t,Z⟩,⟨Z,Z⟩,QP,fun b hb=>(hf b hb).1⟩⟩
 done:=by
  intro X hP hw hK hc i pins s σ H E I hf st hg;subst hP hw hK;obtain⟨f0,f1,f2,f3,f4,f5⟩:=hf it jH;exact jm (I.ok.hd hc) st (by have:n<=i:=hg;omega) fun h' eb=>⟨Z,I.turned (t':=s.toks) (fun b o hb e=>eb b o hb e) f0 f1 f3 f4 f5⟩
 self:=fun _ _ _ _ _ st h=>jo st h
def wg (lo hi st:Int):Nat:=if lo<hi then ((hi-lo-1)/st+1).toNat else 0
theorem KD {lo hi st:Int}(h:0<st):Builtin.Range.rangeSize lo hi st=(wg lo hi st:Nat):=by
 unfold Builtin.Range.rangeSize wg;rw[aD h];split
 .have:=cR (show 0<=hi-lo-1 by omega) (show 0<=st by omega);omega
 .rfl
theorem Js {lo hi st:Int}(h:0<st)(h0:0<=lo)(h1:hi<=1000000):wg lo hi st<=1000000:=by
 unfold wg;split
 .have:=b8 (b:=st) (show 0<=hi-lo-1 by omega);omega
 .omega
section
theorem BE {lo st:Int}{n:Nat}{g:TG}{tb:TS}{D:Ends}{σ:St}{H:Hp}(Pv:Nat->St->Hp->Prop)(h0:Pv 0 σ H)
  (hs:∀i σ H,i<n->Pv i σ H->g (.int (lo+i*st)) σ H fun mU H2=>tb { D with nx:=Pv (i+1),ct:=Pv (i+1),bk:=D.nx } mU H2)(hd:∀σ H,Pv n σ H->D.nx σ H) :
  ∃W:Nat->Nat->St->Hp->Prop,(∃m,W 0 m σ H)/\∀i m σ H,W i m σ H ->
   ((FF lo st n).stop i H/\D.nx σ H)\/((FF lo st n).go i H/\∃N:St->Hp->Prop,(∀lh H',N lh H'->∃m',m'<m/\W (i+1) m' lh H')/\∀x H',(FF lo st n).yld i H x H'->g x σ H' fun mU H2=>tb { D with nx:=N,ct:=N,bk:=D.nx } mU H2):=by
 refine⟨fun i m σ H=>m=n-i/\i<=n/\Pv i σ H,⟨n,jH,Nat.zero_le _,h0⟩,?_⟩;rintro i m σ H ⟨rfl,hi,p⟩
 by_cases pM:i<n
 .refine .inr ⟨pM,Pv (i+1),fun lh H' p'=>⟨n-(i+1),jJ,Z,pM,p'⟩,fun x H' y=>?_⟩;obtain⟨e,y⟩:=y;subst e y;exact hs i σ _ pM p
 .have e:i=n:=jJ;subst e;exact .inl ⟨aH _,hd σ H p⟩
end
theorem Bl (p:Int):∀l:List Int,O9 (.int p) (l.map V.int)=decide (p∈l)
 | []=>by simp[O9]
 | a::r=>by
  have ih:=Bl p r;unfold O9 at ih ⊢;rw[df,iC,ih];show ((a == p) || decide (p∈r))=_
  by_cases h:a=p
  .simp[h]
  .have h':¬p=a:=fun e=>h e.symm;simp[h,h']
theorem yq:∀l:List Int,(l.map V.int).all ub=true
 | []=>rfl
 | a::r=>by rw[df,iB,yq r];rfl
def xL (H:Hp)(r:Addr)(ts:List (Int×Int×Int)):Prop:=∃as:List Addr,H r=some (.lst (as.map V.ref))/\Paired (fun a (x:Int×Int×Int)=>H a=some (.tup [.int x.1,.int x.2.1,.int x.2.2])) as ts
theorem xL.same {H H':Hp}{r:Addr}{ts:List (Int×Int×Int)}(h:xL H r ts)(s:jU H H'):xL H' r ts:=let ⟨as,h1,h2⟩:=h;⟨as,s _ _ h1,Paired.xU h2 fun d x e=>s _ _ e⟩
section
variable {X:Cx}
abbrev tQ (i:Int):Int:=((Builtin.Int.intBits i:Nat):Int)
def PP:V->List V->Hp->VK->Prop:=fun x vs H Q=>∃i:Int,x=.int i/\vs=[]/\Q (.int (tQ i)) H
theorem ua:Zf X "int.bit_length" PP:=by
 intro pins s σ H x vs v us Q I rx rv h;obtain⟨i,rfl,rfl,q⟩:=h;cases rv;obtain⟨t,rfl⟩:=rx;exact call_int_bit_length ⟨.int (tQ i),H,I.tok _,⟨_,Z⟩,q⟩
theorem A2 {i:Int}(h:¬tQ i > 0):i=0:=by
 unfold tQ Builtin.Int.intBits at h
 by_cases e:i=0
 .exact e
 .rw[ao (by simpa using e)] at h;omega
theorem JY {i:Int}(h:tQ i > 0):¬i=0:=by
 rintro rfl;exact absurd h O
theorem sQ:∀{l:List Value}{n:Nat}{F:Nat->V},l.length=n->(∀(j:Nat) v,l[j]?=some v->RelV (F j) v)->Vals ((List.range n).map F) l
 | [],n,F,hl,_=>by cases hl;exact .nil
 | v::l,n,F,hl,h=>by
  cases hl;have e:(List.range (v::l).length).map F=F 0::(List.range l.length).map (fun j=>F (j+1)):=by
   rw[bj,List.range_succ_eq_map,df,iK];rfl
  rw[e];exact .cons (h 0 v Z) (sQ Z fun j u hj=>h (j+1) u hj)
def AM (lo st:Int)(n:Nat):List Int:=(List.range n).map fun (i:Nat)=>lo+(i:Int)*st
def Uc (ta:TA):TE:=fun σ H Q=>ta σ H fun vs H1=>∃i j k:Int,vs=[.int i,.int j,.int k]/\(0<=i/\i<=1000000/\0<=j/\j<=1000000/\0<k/\k<=1000000)/\∀l,H1 l=none->Q (.ref l) (upd H1 l (.lst ((AM i k (wg i j k)).map V.int)))
theorem Hu {a b c:Expr}{ta:TA}{p p2 pos Fe:Pos}(hcm:X.calm=true)(QQ:Gl X "list")(XS:X.mg "list"=none)(hg:Gl X "range")(hm:X.mg "range"=none)(ha:PA X [a,b,c] ta)
  (he:starEach [a,b,c] X.env=(false,eval a X.env)::starEach [b,c] X.env:=by rfl)(xu:(backTo Fe (starEach [b,c] X.env)).any (·.1)=false:=by rfl)
  (Of:starEach [.Call (.Name "range" p2) [a,b,c] [] Fe] X.env=(false,eval (.Call (.Name "range" p2) [a,b,c] [] Fe) X.env)::starEach [] X.env:=by rfl) :
  PE X (.Call (.Name "list" p) [.Call (.Name "range" p2) [a,b,c] [] Fe] [] pos) (Uc ta):=by
 intro pins s σ H Q I h;refine fT (pV I QQ XS pQ ?_);refine cG ?_ Of Z;rw[Of];show wpAny _ _ (spliced ((false,eval (.Call (.Name "range" p2) [a,b,c] [] Fe) X.env)::backTo pos (starEach [] X.env))) _ _ s
 refine Calls.spliced_cons ?_;refine Call_ (pV I hg hm boot_range (cG (mQ (ha Fe pins s σ H _ I h) fun us s1 ⟨vs,H1,I1,r1,q1⟩=>?_) he xu));obtain⟨i,j,k,e,⟨q1,q2,q3,q4,q5,q6⟩,q⟩:=q1;subst e;cases r1 with
 | cons r rr =>
  cases rr with
  | cons r' rr =>
   cases rr with
   | cons Sj rr =>
    cases rr;obtain⟨t,rfl⟩:=r;obtain⟨t',rfl⟩:=r';obtain⟨Og,rfl⟩:=Sj;refine call_range_3 jJ ?_ (.inl (iL jJ));have c3:=Js (lo:=i) q5 q1 q4;have sm:Builtin.Range.small i j k=true:=by
     unfold Builtin.Range.small;rw[KD q5];simp only[Builtin.Range.rangeFitsLong,Bool.and_eq_true,Bool.or_eq_true,decide_eq_true_eq,beq_iff_eq,q5,if_true,gt_iff_lt];omega
    have I2:Inv X pins σ H1 { s1 with heap:=s1.heap.push { cls:=.type "range",data:=.fields #[.int i t,.int j t',.int k Og] },toks:=s1.toks }:=I1.kept fun b o e=>aQ _ e;refine Calls.spliced_nil ?_;refine call_list_range (n:=wg i j k) (I2.ok.hd hcm) (jD ..) sm (KD q5) jJ fun h' tk QR c' kp e items=>?_;have vals:Vals ((AM i k (wg i j k)).map V.int) QR.toList:=by
     unfold AM;rw[iK];refine sQ (by rw[Array.length_toList];exact items.1) fun m v hm=>?_;have:=items.2 m v (by rw[<-Array.getElem?_toList];exact hm);obtain⟨t,rfl⟩:=this;exact⟨t,Z⟩
    have hz:((AM i k (wg i j k)).map V.int).length<=sizeLine:=by
     unfold AM;rw[List.length_map,List.length_map,List.length_range];exact Nat.le_trans c3 O
    refine⟨.ref _,_,I2.laid (t':=tk) kp (aH _) (show nI X.prog X.w _ h' _ (.lst ((AM i k (wg i j k)).map V.int)) from ⟨hz,QR.toList,c',vals,by simpa using e⟩),Z,q _ (I2.hok.fresh (Nat.le_refl _))⟩
end
section
variable {κ:Type} [DecidableEq κ]
def Ex (kvs:List (κ×V))(k:κ):Option V:=(kvs.find? fun kv=>decide (kv.1=k)).map (·.2)
def putK (kvs:List (κ×V))(k:κ)(v:V):List (κ×V) :=
 if (kvs.any fun kv=>decide (kv.1=k))=true then kvs.map (fun kv=>if kv.1=k then (kv.1,v) else kv) else kvs++[(k,v)]
theorem vC.getD {o:Option V}{u:Option Value}{d:V}{d':Value}(r:vC o u)(rd:RelV d d'):RelV (o.getD d) (u.getD d'):=by
 cases o with
 | none=>cases u with
  | none=>exact rd
  | some _=>exact(show dR from r).elim
 | some _=>cases u with
  | none=>exact(show dR from r).elim
  | some _=>exact r
theorem KV.length {kvs:List (κ×V)}{vs:List (κ×Value)}(r:KV kvs vs):kvs.length=vs.length:=fe r
end
abbrev KT (H:Hp):List (List Key×V)->List (List Key×Addr×Value)->Prop:=Paired fun p q=>p.1=q.1/\H q.2.1=some (.tup (p.1.map kV))/\RelV p.2 q.2.2
theorem KT.keeps {H H':Hp}{kvs:List (List Key×V)}{xs:List (List Key×Addr×Value)}(r:KT H kvs xs)(ht:∀b ys,H b=some (.tup ys)->H' b=some (.tup ys)):KT H' kvs xs :=
 Paired.xU r fun _ _ z=>⟨z.1,ht _ _ z.2.1,z.2.2⟩
def xN (H:Hp)(a:Addr)(y:V)(r:Option V):Prop :=
 (∃kvs k,Rd H a (.dK kvs)/\y=kV k/\r=Ex kvs k)\/∃kvs k b,Rd H a (.dT kvs)/\y=.ref b/\H b=some (.tup (k.map kV))/\r=Ex kvs k
def xR (H:Hp)(a:Addr)(y v:V)(H':Hp):Prop :=
 (∃kvs k,H a=some (.dK kvs)/\y=kV k/\kvs.length<sizeLine/\H'=upd H a (.dK (putK kvs k v))) \/
 ∃kvs k b,H a=some (.dT kvs)/\y=.ref b/\H b=some (.tup (k.map kV))/\kvs.length<sizeLine/\H'=upd H a (.dT (putK kvs k v))
theorem xN.k {H:Hp}{a:Addr}{kvs:List (Key×V)}{k:Key}(e:H a=some (.dK kvs)):xN H a (kV k) (Ex kvs k):=.inl ⟨kvs,k,.inl e,Z,Z⟩
theorem xN.t {H:Hp}{a b:Addr}{kvs:List (List Key×V)}{k:List Key}(e:H a=some (.dT kvs))(eb:H b=some (.tup (k.map kV))):xN H a (.ref b) (Ex kvs k):=.inr ⟨kvs,k,b,.inl e,Z,eb,Z⟩
theorem xR.k {H:Hp}{a:Addr}{kvs:List (Key×V)}{k:Key}{v:V}(e:H a=some (.dK kvs))(hl:kvs.length<sizeLine):xR H a (kV k) v (upd H a (.dK (putK kvs k v))):=.inl ⟨kvs,k,e,Z,hl,Z⟩
theorem xR.t {H:Hp}{a b:Addr}{kvs:List (List Key×V)}{k:List Key}{v:V}(e:H a=some (.dT kvs))(eb:H b=some (.tup (k.map kV)))(hl:kvs.length<sizeLine) :
  xR H a (.ref b) v (upd H a (.dT (putK kvs k v))):=.inr ⟨kvs,k,b,e,Z,eb,hl,Z⟩
section
variable {X:Cx}{pins:List (Addr×Obj)}{σ:St}{H:Hp}{s:Shared}
theorem Inv.big (I:Inv X pins σ H s):sysModules<s.heap.objs.size:=by
 have h:mainGlobals<s.heap.objs.size:=(I.mod.glob.keeps I.bk).lt;exact iM O h
end
structure M1 (X:Cx)(o:Expr)(m:Str)(apos:Pos)(e:Expr)(cpos:Pos):Prop where
 base:attributeBase o m X.env (eval o X.env)=eval o X.env
 Br:((backTo cpos (starEach [e] X.env)).all (fun x=>!x.1) && (backToKw cpos (keywordEach [] X.env)).all (fun x=>x.1.isSome)
  && decide (([e]:List Expr).length+([]:List Keyword).length+(if ([]:List Keyword).isEmpty then 0 else 1)<30))=true
 line:(apos.endLine == cpos.line)=true
 trees:backTo cpos (starEach [e] X.env)=[(false,eval e X.env)]
structure M2 (X:Cx)(o:Expr)(m:Str)(apos:Pos)(e f:Expr)(cpos:Pos):Prop where
 base:attributeBase o m X.env (eval o X.env)=eval o X.env
 Br:((backTo cpos (starEach [e,f] X.env)).all (fun x=>!x.1) && (backToKw cpos (keywordEach [] X.env)).all (fun x=>x.1.isSome)
  && decide (([e,f]:List Expr).length+([]:List Keyword).length+(if ([]:List Keyword).isEmpty then 0 else 1)<30))=true
 line:(apos.endLine == cpos.line)=true
 trees:backTo cpos (starEach [e,f] X.env)=[(false,eval e X.env),(false,eval f X.env)]
abbrev kI (i:Int):Key:=.inl i
abbrev k2 (p h:Int):List Key:=[.inl p,.inl h]
theorem xN.p {H:Hp}{a b:Addr}{kvs:List (List Key×V)}{p h:Int}(e:H a=some (.dT kvs))(eb:H b=some (.tup [.int p,.int h])):xN H a (.ref b) (Ex kvs (k2 p h)):=xN.t (k:=k2 p h) e eb
theorem xR.p {H:Hp}{a b:Addr}{kvs:List (List Key×V)}{p h:Int}{v:V}(e:H a=some (.dT kvs))(eb:H b=some (.tup [.int p,.int h]))(hl:kvs.length<sizeLine):xR H a (.ref b) v (upd H a (.dT (putK kvs (k2 p h) v))):=xR.t (k:=k2 p h) e eb hl
theorem xN.i {H:Hp}{a:Addr}{kvs:List (Key×V)}{i:Int}(e:H a=some (.dK kvs)):xN H a (.int i) (Ex kvs (kI i)):=xN.k (k:=kI i) e
theorem xR.i {H:Hp}{a:Addr}{kvs:List (Key×V)}{i:Int}{v:V}(e:H a=some (.dK kvs))(hl:kvs.length<sizeLine):xR H a (.int i) v (upd H a (.dK (putK kvs (kI i) v))):=xR.k (k:=kI i) e hl
theorem D7:∀{bs:List Bool}{its:List Value},Vals (bs.map V.bl) its->its=bs.map Value.bool
 | [],_,.nil=>rfl
 | b::r,_,.cons e rs=>by
  have e':_=Value.bool b:=e;rw[df,<-D7 rs,<-e']
theorem CA (bs:List Bool):((List.range bs.length).all fun i=>(bs[i]?).getD true)=bs.all id:=by
 rw[eQ,dE,dE];constructor
 .intro h b hb;obtain⟨i,hi,e⟩:=List.getElem_of_mem hb;have:=h i (dZ.mpr hi);simp only[List.getElem?_eq_getElem hi,Option.getD_some,e] at this;exact this
 .intro h i hi;have Nx:=dZ.mp hi;simp only[List.getElem?_eq_getElem Nx,Option.getD_some];exact h _ (b9 Nx)
theorem Jh {s:Shared}{h':Heap}{o:Obj}(hk:∀b x,b∉[s.heap.objs.size]->(s.heap.push o).get? b=some x->h'.get? b=some x):∀b x,s.heap.get? b=some x->h'.get? b=some x :=
 fun b x e=>hk b x (fun hm=>by rw[bw.mp hm] at e;exact d7 _ (bR e)) (aQ _ e)
section
variable {X:Cx}
theorem sE (hc:X.calm=true):rz X (.builtin "all") (fun xs H Q=>∃(a:Addr)(bs:List Bool),xs=[.ref a]/\j6 X.K H a (bs.map V.bl)/\Q (.bl (bs.all id)) H):=by
 intro pins s σ H xs us Q I r h;obtain⟨a,bs,rfl,hl,q⟩:=h;obtain⟨u,rfl,ru⟩:=vals1 r;cases ru;obtain⟨its,rv,pl,_⟩:=I.list hl;have ei:=D7 rv;subst ei;have hL:=pl.isList;have pM:a<s.heap.objs.size:=by obtain⟨_,e,_⟩:=hL;exact Heap.lt_size e
 refine call_all_walk (wpAny_pyIter_list hL ?_);refine⟨s.heap.objs.size,[s.heap.objs.size,a],[s.heap.objs.size],(bs.map Value.bool).toArray.size,_,_,fun i=>(bs[i]?).getD true,Z,Walks.list (A:=X.A.in1) (I.ok.hd hc) _ a (cP pM) (bs.map Value.bool).toArray,
  ⟨⟨_,bZ _ Z,Z,Z⟩,hL.push _⟩,fun i v s' Q' E' hP hQ=>?_,fun h' tk hk=>?_⟩
 .have QS:(bs.map Value.bool)[i]?=some v:=by simpa using hP
  rw[af] at QS;cases e:bs[i]? with
  | none=>rw[e] at QS;cases QS
  | some b =>
   rw[e] at QS;cases QS;simp only[e,Option.getD_some] at hQ;exact fW hQ
 .have e:((List.range (bs.map Value.bool).toArray.size).all fun i=>(bs[i]?).getD true)=bs.all id:=by
   rw[cy,aa];exact CA bs
  rw[e];exact⟨.bl _,H,I.kept (t':=tk) (Jh hk),Z,q⟩
end
theorem rep1 (m:Nat):(List.replicate ((m:Nat):Int).toNat [V.int 1]).flatten=(List.replicate m (1:Int)).map V.int:=by
 rw[ae]
 induction m with
 | zero=>rfl
 | succ m ih=>rw[c9,eT,ih,c9,df];rfl
theorem qx {c A B:Prop} [Decidable c] (h:c)(a:A):if c then A else B:=by rw[aD h];exact a
theorem mB {c A B:Prop} [Decidable c] (h:¬c)(b:B):if c then A else B:=by rw[ao h];exact b
theorem tO {K:PySem.W.Frag}{a b:Addr}{xs ys:List V}{g:TG}{tb:TS}{D:Ends}{σ:St}{H:Hp}(hlen:xs.length=ys.length)(Pv:Nat->St->Hp->Prop)(h0:Pv 0 σ H)(hl:∀i σ H,i<=xs.length->Pv i σ H->j6 K H a xs/\j6 K H b ys)
  (hs:∀i x y σ H p,xs[i]?=some x->ys[i]?=some y->Pv i σ H->H p=none->g (.ref p) σ (upd H p (.tup [x,y])) fun mU H2=>tb { D with nx:=Pv (i+1),ct:=Pv (i+1),bk:=D.nx } mU H2)(hd:∀σ H,Pv xs.length σ H->D.nx σ H) :
  ∃W:Nat->Nat->St->Hp->Prop,(∃m,W 0 m σ H)/\∀i m σ H,W i m σ H ->
   ((K9 K a b).stop i H/\D.nx σ H)\/((K9 K a b).go i H/\∃N:St->Hp->Prop,(∀lh H',N lh H'->∃m',m'<m/\W (i+1) m' lh H')/\∀x H',(K9 K a b).yld i H x H'->g x σ H' fun mU H2=>tb { D with nx:=N,ct:=N,bk:=D.nx } mU H2):=by
 refine⟨fun i m σ H=>m=xs.length-i/\i<=xs.length/\Pv i σ H,⟨xs.length,jH,Nat.zero_le _,h0⟩,?_⟩;rintro i m σ H ⟨rfl,hi,p⟩;obtain⟨q1,q2⟩:=hl i σ H hi p
 by_cases pM:i<xs.length
 .refine .inr ⟨⟨xs,ys,xs[i],ys[i]'J,q1,q2,by simp[pM],by simp[show i<ys.length by lia]⟩,Pv (i+1),fun lh H' p'=>⟨xs.length-(i+1),J,Z,pM,p'⟩,fun x H' y=>?_⟩;obtain⟨r,y1,y2,rfl,hr,hy1,hy2,rfl⟩:=y;exact hs i y1 y2 σ _ r (hy1 xs q1) (hy2 ys q2) p hr
 .have e:i=xs.length:=J;subst e;exact .inl ⟨⟨xs,ys,q1,q2,.inl (aH _)⟩,hd σ H p⟩
theorem AC (ns:List Int)(k:Nat):uk (ns.map V.int) (some (k:Int)) none=(ns.drop k).map V.int:=by
 unfold uk;rw[HT.zA,HT.Gw,aa,<-List.map_drop,<-List.map_take];congr 1
 by_cases h:k<=ns.length
 .rw[io h,iJ (by rw[cx];lia)]
 .rw[Nat.min_eq_right J,iN (aH _),iN J];simp
theorem Paired.Cs {α β:Type}{F:α->β->Prop}:∀{a c:List α}{b d:List β},Paired F a b->Paired F c d->Paired F (a++c) (b++d)
 | _,_,_,_,.nil,h=>h
 | _,_,_,_,.cons h t,g=>.cons h (Paired.Cs t g)
abbrev d3 (t:Int×Int×Int):PyData:=.tuple [.int t.1,.int t.2.1,.int t.2.2]
variable {as:List Addr}{rows:List (List Int)}
theorem Hl {X:Cx}{K:PySem.W.Frag}(h:X.K=K):VT X (Pm K):=by subst h;exact vS
theorem O1 (x y z w a b c d:Int):same (.tuple [.int x,.int y,.int z,.int w]) (.tuple [.int a,.int b,.int c,.int d])=decide (x=a/\y=b/\z=c/\w=d):=by
 simp only[same,PySem.Spec.sameAll]
 by_cases h1:x=a<;>by_cases h2:y=b<;>by_cases h3:z=c<;>by_cases h4:w=d<;>simp[h1,h2,h3,h4]
theorem UH {K:PySem.W.Frag}{H:Hp}{r s:Addr}{x y z w a b c d:Int}{Q:VK}(h1:H r=some (.tup [.int x,.int y,.int z,.int w]))(h2:H s=some (.tup [.int a,.int b,.int c,.int d]))(q:Q (.bl (!decide (x=a/\y=b/\z=c/\w=d))) H):L9 K (.ref r) (.ref s) H Q :=
 ⟨_,_,.tup (kQ.of h1) (.cons (.int _) (.cons (.int _) (.cons (.int _) (.cons (.int _) .nil)))),.tup (kQ.of h2) (.cons (.int _) (.cons (.int _) (.cons (.int _) (.cons (.int _) .nil)))),Z,Z,by simp[noMix,noMixAll],by rw[O1];exact q⟩
theorem pP {K:PySem.W.Frag}{n i j k:Nat}(h:n<=i)(h':n<=j)(h'':n<=k):rL n (I0 K 3 (vi (kW i) (vi (kW j) (vi (kW k) Kd)))):=by
 rintro x σ H Q ⟨a,xs,rfl,hq,hl,v,r,rfl,v',r',rfl,v'',Sj,rfl,rfl,q⟩;exact⟨a,_,Z,hq,hl,v,_,Z,v',_,Z,v'',_,Z,Z,⟨jH,fun m hk=>by rw[List.getElem?_set_ne J,List.getElem?_set_ne J,List.getElem?_set_ne J]⟩,q⟩
structure Mn (K:PySem.W.Frag)(C:Addr)(m q:Str)(st:Stmt)(ps:List Str):Prop where
 ex:∃(f:Addr)(fd:FuncData),Dx K m q st f fd/\Binds K fd ps []/\Meth K C m f
structure Mf (P:Program)(w:World)(K:PySem.W.Frag)(mg:Str->Option Value)(base:Heap)(k:Nat)(C:Addr)(m:Str)(ps:List Str)(sp:Sp):Prop where
 ex:∃(f:Addr)(fd:FuncData),rD P w K mg base D5 k f fd ps sp/\Binds K fd ps []/\Meth K C m f
structure Kn (K:PySem.W.Frag)(mg:Str->Option Value)(C:Addr)(x q:Str)(st:Stmt)(ps:List Str):Prop where
 ex:∃(f:Addr)(fd:FuncData),Dx K "__init__" q st f fd/\Binds K fd ps []/\Mk K C f/\mg x=some (.ref C)
structure Kf (P:Program)(w:World)(K:PySem.W.Frag)(mg:Str->Option Value)(base:Heap)(k:Nat)(C:Addr)(x:Str)(ps:List Str)(sp:Sp):Prop where
 ex:∃(f:Addr)(fd:FuncData),rD P w K mg base D5 k f fd ps sp/\Binds K fd ps []/\Mk K C f/\mg x=some (.ref C)
theorem Mn.ok {P:Program}{w:World}{K:PySem.W.Frag}{mg:Str->Option Value}{base:Heap}{C:Addr}{m q:Str}{st:Stmt}{N ps:List Str}{k:Nat}{sp:Sp}(D:Mn K C m q st ps)(S:jZ N ps (jW st))(len:∀vs H Q E,sp vs H Q E->vs.length=ps.length)
  (hbody:∀(f:Addr)(cdv:Value)(A:Around)(outer:List Env)(s:Shared)(H:Hp)(vs:List V)(Q:VK)(E:XK),nM k (A.deeper (envOfC q (jW st) s.heap.objs.size f cdv))->sp vs H Q E ->
   ∃t,yp (xO D5 P w K mg base N q (jW st) f cdv A outer s H E).Fk (lC st) t/\t { nx:=fun _ H'=>Q .non H',rt:=Q } (start N vs) H):Mf P w K mg base (k+1) C m ps sp:=by
 obtain⟨f,fd,F,b,mt⟩:=D.ex;exact⟨f,fd,F.ok S len (fun cdv A outer s H vs Q E hr h=>hbody f cdv A outer s H vs Q E hr h),b,mt⟩
theorem Kn.ok {P:Program}{w:World}{K:PySem.W.Frag}{mg:Str->Option Value}{base:Heap}{C:Addr}{x q:Str}{st:Stmt}{N ps:List Str}{k:Nat}{sp:Sp}(D:Kn K mg C x q st ps)(S:jZ N ps (jW st))(len:∀vs H Q E,sp vs H Q E->vs.length=ps.length)
  (hbody:∀(f:Addr)(cdv:Value)(A:Around)(outer:List Env)(s:Shared)(H:Hp)(vs:List V)(Q:VK)(E:XK),nM k (A.deeper (envOfC q (jW st) s.heap.objs.size f cdv))->sp vs H Q E ->
   ∃t,yp (xO D5 P w K mg base N q (jW st) f cdv A outer s H E).Fk (lC st) t/\t { nx:=fun _ H'=>Q .non H',rt:=Q } (start N vs) H):Kf P w K mg base (k+1) C x ps sp:=by
 obtain⟨f,fd,F,b,mt⟩:=D.ex;exact⟨f,fd,F.ok S len (fun cdv A outer s H vs Q E hr h=>hbody f cdv A outer s H vs Q E hr h),b,mt⟩
section
variable {X:Cx}{k:Nat}{C:Addr}{x m:Str}{ps:List Str}{sp:Sp}{e o:Expr}{es:List Expr}{ta:TE}{t:TA}{p pos apos:Pos}
theorem xn {pl:Sem Bool}(he:PE X o ta)(c:Fy X.K C)(D:Mf X.prog X.w X.K X.mg X.base k C m ps sp)(hr:nM k X.A)(ha:PA X (e::es) t)
  (uv:starEach (e::es) X.env=(false,eval e X.env)::starEach es X.env:=by rfl)(xu:(backTo pos (starEach es X.env)).any (·.1)=false:=by rfl)
  (ht:eval (.Call (.Attribute o m apos) (e::es) [] pos) X.env=(do
   let ov <-eval o X.env
   standAt apos.atName
   let (f,first) <-holding [ov] (getMethod ov m pl)
   callWith pos f first (backTo pos (starEach (e::es) X.env)) (backToKw pos (keywordEach [] X.env))):=by rfl) :
  PE X (.Call (.Attribute o m apos) (e::es) [] pos) (KR C m sp [] E0 ta t):=by
 obtain⟨f,fd,F,hb,hm⟩:=D.ex;exact IX (pl:=pl) he c hm F hr hb .nil FE ha uv xu ht
theorem MO (D:Kf X.prog X.w X.K X.mg X.base k C x ps sp)(hr:nM (k+1) X.A)(hg:Gl X x)(ha:PA X (e::es) t)(E9:(x == ("__debug__":Str))=false:=by decide)
  (he:starEach (e::es) X.env=(false,eval e X.env)::starEach es X.env:=by rfl)(xu:(backTo pos (starEach es X.env)).any (·.1)=false:=by rfl) :
  PE X (.Call (.Name x p) (e::es) [] pos) (KI C sp [] E0 t):=by
 obtain⟨f,fd,F,hb,M,hm⟩:=D.ex;exact JH M F hr hg hm hb .nil FE ha E9 he xu
end
def lH (H:Hp)(r:Addr)(rows:List (List Int)):Prop:=∃as:List Addr,H r=some (.lst (as.map V.ref))/\Paired (fun a (x:List Int)=>H a=some (.lst (x.map V.int))) as rows
theorem kT {H H':Hp}(sm:jU H H')(h:Paired (fun a (x:List Int)=>H a=some (.lst (x.map V.int))) as rows):Paired (fun a (x:List Int)=>H' a=some (.lst (x.map V.int))) as rows:=by
 induction h with
 | nil=>exact .nil
 | cons a _ ih=>exact .cons (sm _ _ a) ih
theorem lH.same {H H':Hp}(sm:jU H H'){r:Addr}(h:lH H r rows):lH H' r rows :=
 let ⟨as,h1,h2⟩:=h;⟨as,sm _ _ h1,kT sm h2⟩
theorem j7 {α β:Type}{F:α->β->Prop}:∀{a:List α}{b:List β},Paired F a b->a.length=b.length
 | _,_,.nil=>rfl
 | _,_,.cons _ t=>cQ (· + 1) (j7 t)
theorem mK {H:Hp}(h:Paired (fun a (x:List Int)=>H a=some (.lst (x.map V.int))) as rows){i:Nat}{x:V}(e:(as.map V.ref)[i]?=some x):∃(a:Addr)(row:List Int),x=.ref a/\as[i]?=some a/\rows[i]?=some row/\H a=some (.lst (row.map V.int)):=by
 obtain⟨a,rfl,ha⟩:=oK e;obtain⟨row,hr,hh⟩:=kU h ha;exact⟨a,row,Z,ha,hr,hh⟩
theorem xl {H:Hp}(h:Paired (fun a (x:List Int)=>H a=some (.lst (x.map V.int))) as rows){i:Nat}{row:List Int}(e:rows[i]?=some row):∃a:Addr,me (as.map V.ref) ((i:Nat):Int)=some (.ref a)/\H a=some (.lst (row.map V.int)):=by
 have l:=j7 h;have il:i<rows.length:=(aF.mp e).1;have ha:as[i]?=some (as[i]'J):=ax J;obtain⟨row',hr,hh⟩:=kU h ha;rw[e] at hr;cases hr;exact⟨_,lP (by rw[af,ha];rfl),hh⟩
theorem wd {α β:Type}{F:α->β->Prop}:∀{a:List α}{b:List β}{x:α}{y:β}(c:Nat),Paired F a b->F x y->Paired F (a.set c x) (b.set c y)
 | _,_,_,_,_,.nil,_=>.nil
 | _,_,_,_,0,.cons _ t,h=>.cons h t
 | _,_,_,_,c+1,.cons q t,h=>.cons q (wd c t h)
theorem lH.put {H:Hp}{D a:Addr}{l:List Int}{c:Nat}(hD:H D=some (.lst (as.map V.ref)))(pa:Paired (fun a (x:List Int)=>H a=some (.lst (x.map V.int))) as rows)(ne:as≠[])(ha:H a=some (.lst (l.map V.int))) :
  lH (upd H D (.lst ((as.map V.ref).set c (.ref a)))) D (rows.set c l):=by
 have nD:∀(b:Addr)(x:List Int),H b=some (.lst (x.map V.int))->b≠D:=fun b x hb=>nV hb hD fun z=>by
  injection z with z;cases as with
  | nil=>exact ne Z
  | cons a0 Sk=>cases x with
   | nil=>cases z
   | cons y ys=>injection z with z1;cases z1
 have old:Paired (fun a (x:List Int)=>upd H D (.lst ((as.map V.ref).set c (.ref a))) a=some (.lst (x.map V.int))) as rows->iu:=fun _=>trivial;have go:∀{sH:List Addr}{xy:List (List Int)}{o:HO},Paired (fun a (x:List Int)=>H a=some (.lst (x.map V.int))) sH xy->Paired (fun a (x:List Int)=>upd H D o a=some (.lst (x.map V.int))) sH xy:=fun {sH xy o} p=>by
  induction p with
  | nil=>exact .nil
  | cons h _ ih=>exact .cons ((j5 (nD _ _ h)).trans h) ih
 refine⟨as.set c a,by rw[jO,List.map_set],wd c (go pa) ((j5 (nD _ _ ha)).trans ha)⟩
section
variable {xs:List V}
variable {K:PySem.W.Frag}{a b:Addr}{g:TG}{te:TE}{lh:St}{H:Hp}{Q:VK}
theorem lJ (zs:List Int)(hlen:zs.length=xs.length)(hz:xs.length<=20000)(hS:j6 K H a xs)
 (hs:∀(i:Nat) x H2,xs[i]?=some x->jU H H2->∀R:VK,(∀H4 z,jU H2 H4->zs[i]?=some z->R (.int z) H4)->g x lh H2 fun mU H3=>te mU H3 R)
 (hd:∀D H2,jU H H2->H D=none->H2 D=some (.lst (zs.map V.int))->Q (.ref D) H2):m8 (JA K a) g xT te lh Q H:=by
  refine oV (K:=K) (xs:=xs) (fun i rs H2=>jU H H2/\rs=(zs.take i).map V.int) ⟨jU.refl H,jH⟩ (fun i rs H2 _ z=>z.1.seq hS)
    (fun i rs H2 hi z=>by rw[z.2];simp only[List.length_map,List.length_take];exact mH J) ?_ ?_
  · rintro i x rs H2 hx ⟨sm,rfl⟩
    exact hs i x H2 hx sm (fun y H4=>jU H H4/\(zs.take i).map V.int++[y]=(zs.take (i+1)).map V.int) fun H4 z s4 ez=>⟨sm.trans s4,by rw[nq ez]⟩
  · rintro rs H2 ⟨sm,rfl⟩ D hD
    rw[nR hlen];exact hd D _ (jR sm hD) (sm.free hD) jO
theorem n5 {ys:List V}(zs:List Int)(Kh:xs.length=ys.length)(hlen:zs.length=xs.length)(hz:xs.length<=20000)(hS:j6 K H a xs)(XT:j6 K H b ys)
 (hs:∀(i:Nat) x y H2 p,xs[i]?=some x->ys[i]?=some y->jU H H2->H2 p=none->∀R:VK,(∀H4 z,jU H2 H4->zs[i]?=some z->R (.int z) H4)->g (.ref p) lh (upd H2 p (.tup [x,y])) fun mU H3=>te mU H3 R)
 (hd:∀D H2,jU H H2->H D=none->H2 D=some (.lst (zs.map V.int))->Q (.ref D) H2):m8 (K9 K a b) g xT te lh Q H:=by
  refine wG (K:=K) (xs:=xs) (ys:=ys) Kh (fun i rs H2=>jU H H2/\rs=(zs.take i).map V.int) ⟨jU.refl H,jH⟩ (fun i rs H2 _ z=>⟨z.1.seq hS,z.1.seq XT⟩)
    (fun i rs H2 hi z=>by rw[z.2];simp only[List.length_map,List.length_take];exact mH J) ?_ ?_
  · rintro i x y rs H2 p hx hy ⟨sm,rfl⟩ hp
    exact hs i x y H2 p hx hy sm hp (fun y H4=>jU H H4/\(zs.take i).map V.int++[y]=(zs.take (i+1)).map V.int) fun H4 z s4 ez=>⟨sm.trans s4,by rw[nq ez]⟩
  · rintro rs H2 ⟨sm,rfl⟩ D hD
    rw[nR hlen];exact hd D _ (jR sm hD) (sm.free hD) jO
theorem Ep {ys:List V}(zs:List Bool)(Kh:xs.length=ys.length)(hlen:zs.length=xs.length)(hz:xs.length<=20000)(hS:j6 K H a xs)(XT:j6 K H b ys)
 (hs:∀(i:Nat) x y H2 p,xs[i]?=some x->ys[i]?=some y->jU H H2->H2 p=none->∀R:VK,(∀H4 z,jU H2 H4->zs[i]?=some z->R (.bl z) H4)->g (.ref p) lh (upd H2 p (.tup [x,y])) fun mU H3=>te mU H3 R)
 (hd:∀D H2,jU H H2->H D=none->H2 D=some (.lst (zs.map V.bl))->Q (.ref D) H2):m8 (K9 K a b) g xT te lh Q H:=by
  refine wG (K:=K) (xs:=xs) (ys:=ys) Kh (fun i rs H2=>jU H H2/\rs=(zs.take i).map V.bl) ⟨jU.refl H,jH⟩ (fun i rs H2 _ z=>⟨z.1.seq hS,z.1.seq XT⟩)
    (fun i rs H2 hi z=>by rw[z.2];simp only[List.length_map,List.length_take];exact mH J) ?_ ?_
  · rintro i x y rs H2 p hx hy ⟨sm,rfl⟩ hp
    exact hs i x y H2 p hx hy sm hp (fun y H4=>jU H H4/\(zs.take i).map V.bl++[y]=(zs.take (i+1)).map V.bl) fun H4 z s4 ez=>⟨sm.trans s4,by rw[de,ez,aO];rfl⟩
  · rintro rs H2 ⟨sm,rfl⟩ D hD
    have:(zs.take xs.length).map V.bl=zs.map V.bl:=by rw[<-hlen,bV]
    rw[this];exact hd D _ (jR sm hD) (sm.free hD) jO
theorem FV (zs:List V)(hlen:zs.length=xs.length)(hz:xs.length<=20000)(hS:j6 K H a xs)
 (hs:∀(i:Nat) x H2,xs[i]?=some x->jU H H2->∀R:VK,(∀H4 z,jU H2 H4->zs[i]?=some z->R z H4)->g x lh H2 fun mU H3=>te mU H3 R)
 (hd:∀D H2,jU H H2->H D=none->H2 D=some (.lst zs)->Q (.ref D) H2):m8 (JA K a) g xT te lh Q H:=by
  refine oV (K:=K) (xs:=xs) (fun i rs H2=>jU H H2/\rs=zs.take i) ⟨jU.refl H,jH⟩ (fun i rs H2 _ z=>z.1.seq hS)
    (fun i rs H2 hi z=>by rw[z.2];simp only[List.length_take];exact mH J) ?_ ?_
  · rintro i x rs H2 hx ⟨sm,rfl⟩
    exact hs i x H2 hx sm (fun y H4=>jU H H4/\zs.take i++[y]=zs.take (i+1)) fun H4 z s4 ez=>⟨sm.trans s4,by rw[de,ez];rfl⟩
  · rintro rs H2 ⟨sm,rfl⟩ D hD
    have:zs.take xs.length=zs:=by rw[<-hlen,bV]
    rw[this];exact hd D _ (jR sm hD) (sm.free hD) jO
theorem qy (zs:List (List Int))(hlen:zs.length=xs.length)(hz:xs.length<=20000)(hS:j6 K H a xs)
 (hs:∀(i:Nat) x H2,xs[i]?=some x->jU H H2->∀R:VK,(∀H4 c z,jU H2 H4->zs[i]?=some z->H4 c=some (.lst (z.map V.int))->R (.ref c) H4)->g x lh H2 fun mU H3=>te mU H3 R)
 (hd:∀D H2,jU H H2->H D=none->lH H2 D zs->Q (.ref D) H2):m8 (JA K a) g xT te lh Q H:=by
  refine oV (K:=K) (xs:=xs) (fun i rs H2=>jU H H2/\∃as:List Addr,rs=as.map V.ref/\Paired (fun a (x:List Int)=>H2 a=some (.lst (x.map V.int))) as (zs.take i)) ⟨jU.refl H,[],Z,.nil⟩ (fun i rs H2 _ z=>z.1.seq hS)
    (fun i rs H2 hi z=>by obtain⟨as,e,pa⟩:=z.2;rw[e,List.length_map,j7 pa,List.length_take];exact mH J) ?_ ?_
  · rintro i x rs H2 hx ⟨sm,as,rfl,pa⟩
    exact hs i x H2 hx sm (fun y H4=>jU H H4/\∃sH:List Addr,as.map V.ref++[y]=sH.map V.ref/\Paired (fun a (x:List Int)=>H4 a=some (.lst (x.map V.int))) sH (zs.take (i+1))) fun H4 c z s4 ez hc=>⟨sm.trans s4,as++[c],by rw[aO];rfl,by
      rw[de,ez];exact L2.Paired.Cs (kT s4 pa) (.cons hc .nil)⟩
  · rintro rs H2 ⟨sm,as,rfl,pa⟩ D hD
    have:zs.take xs.length=zs:=by rw[<-hlen,bV]
    rw[this] at pa;exact hd D _ (jR sm hD) (sm.free hD) ⟨as,jO,kT (jR (jU.refl _) hD) pa⟩
theorem HD (zs:List (List Int))(hlen:zs.length=xs.length)(hz:xs.length<=20000)(hS:j6 K H a xs)
 (hs:∀(i:Nat) x H2 p,xs[i]?=some x->jU H H2->H2 p=none->∀R:VK,(∀H4 c z,jU H2 H4->zs[i]?=some z->H4 c=some (.lst (z.map V.int))->R (.ref c) H4)->g (.ref p) lh (upd H2 p (.tup [.int i,x])) fun mU H3=>te mU H3 R)
 (hd:∀D H2,jU H H2->H D=none->lH H2 D zs->Q (.ref D) H2):m8 (LH K a) g xT te lh Q H:=by
  refine yB (K:=K) (xs:=xs) (fun i rs H2=>jU H H2/\∃as:List Addr,rs=as.map V.ref/\Paired (fun a (x:List Int)=>H2 a=some (.lst (x.map V.int))) as (zs.take i)) ⟨jU.refl H,[],Z,.nil⟩ (fun i rs H2 _ z=>z.1.seq hS)
    (fun i rs H2 hi z=>by obtain⟨as,e,pa⟩:=z.2;rw[e,List.length_map,j7 pa,List.length_take];exact mH J) ?_ ?_
  · rintro i x rs H2 p hx ⟨sm,as,rfl,pa⟩ hp
    exact hs i x H2 p hx sm hp (fun y H4=>jU H H4/\∃sH:List Addr,as.map V.ref++[y]=sH.map V.ref/\Paired (fun a (x:List Int)=>H4 a=some (.lst (x.map V.int))) sH (zs.take (i+1))) fun H4 c z s4 ez hc=>⟨sm.trans s4,as++[c],by rw[aO];rfl,by
      rw[de,ez];exact L2.Paired.Cs (kT s4 pa) (.cons hc .nil)⟩
  · rintro rs H2 ⟨sm,as,rfl,pa⟩ D hD
    have:zs.take xs.length=zs:=by rw[<-hlen,bV]
    rw[this] at pa;exact hd D _ (jR sm hD) (sm.free hD) ⟨as,jO,kT (jR (jU.refl _) hD) pa⟩
theorem Au {n:Nat}(zs:List (List Int))(hlen:zs.length=n)(hz:n<=20000)
 (hs:∀(i:Nat) H2,i<n->jU H H2->∀R:VK,(∀H4 c z,jU H2 H4->zs[i]?=some z->H4 c=some (.lst (z.map V.int))->R (.ref c) H4)->g (.int i) lh H2 fun mU H3=>te mU H3 R)
 (hd:∀D H2,jU H H2->H D=none->lH H2 D zs->Q (.ref D) H2):m8 (B9 0 n) g xT te lh Q H:=by
  refine rX (fun i rs H2=>jU H H2/\∃as:List Addr,rs=as.map V.ref/\Paired (fun a (x:List Int)=>H2 a=some (.lst (x.map V.int))) as (zs.take i)) ⟨jU.refl H,[],Z,.nil⟩
    (fun i rs H2 hi z=>by obtain⟨as,e,pa⟩:=z.2;rw[e,List.length_map,j7 pa,List.length_take];exact mH J) ?_ ?_
  · rintro i rs H2 hi ⟨sm,as,rfl,pa⟩
    exact hs i H2 hi sm (fun y H4=>jU H H4/\∃sH:List Addr,as.map V.ref++[y]=sH.map V.ref/\Paired (fun a (x:List Int)=>H4 a=some (.lst (x.map V.int))) sH (zs.take (i+1))) fun H4 c z s4 ez hc=>⟨sm.trans s4,as++[c],by rw[aO];rfl,by
      rw[de,ez];exact L2.Paired.Cs (kT s4 pa) (.cons hc .nil)⟩
  · rintro rs H2 ⟨sm,as,rfl,pa⟩ D hD
    have:zs.take n=zs:=by rw[<-hlen,bV]
    rw[this] at pa;exact hd D _ (jR sm hD) (sm.free hD) ⟨as,jO,kT (jR (jU.refl _) hD) pa⟩
end
theorem qB {a b:Int}(h1:-1000000000000<=a)(h2:a<=1000000000000):IntMulOk a b:=IntMulOk.of_left (fi J J)
abbrev dP (t:Int×Int):PyData:=.tuple [.int t.1,.int t.2]
theorem B6 {K:PySem.W.Frag}{H:Hp}:∀{as:List Addr}{ts:List (Int×Int)},Paired (fun a (x:Int×Int)=>H a=some (.tup [.int x.1,.int x.2])) as ts->Ax K H (as.map V.ref) (ts.map dP)
 | _,_,.nil=>.nil
 | _,_,.cons h t=>.cons (.tup (kQ.of h) (.cons (.int _) (.cons (.int _) .nil))) (B6 t)
theorem DP:∀ts:List (Int×Int),PyData.canLayAll0 (ts.map dP)=true
 | []=>by simp[PyData.canLayAll0]
 | t::r=>by simp[PyData.canLayAll0,PyData.canLay0,DP r]
theorem DL:∀ts:List (Int×Int),PyData.depthAll (ts.map dP)<=2
 | []=>by simp[PyData.depthAll]
 | t::r=>by
  have:=DL r;simp only[List.map_cons,PyData.depthAll,PyData.depth];lia
theorem DO (ts:List (Int×Int)):shaped (.list (ts.map dP))=true:=by
 have h1:=DL ts;unfold shaped;rw[fU];exact⟨by simp only[PyData.canLay0];exact DP ts,decide_eq_true (by simp only[PyData.depth];lia)⟩
theorem DX:∀ts us:List (Int×Int),noMixAll (ts.map dP) (us.map dP)=true
 | [],[]=>by simp[noMixAll]
 | [],_::_=>by simp[noMixAll]
 | _::_,[]=>by simp[noMixAll]
 | t::r,u::q=>by simp[noMixAll,noMix,DX r q]
theorem Dz:∀ts us:List (Int×Int),PySem.Spec.sameAll (ts.map dP) (us.map dP)=decide (ts=us)
 | [],[]=>by simp[PySem.Spec.sameAll]
 | [],_::_=>by simp[PySem.Spec.sameAll]
 | _::_,[]=>by simp[PySem.Spec.sameAll]
 | (a,b)::r,(c,d)::q=>by
  simp only[List.map_cons,PySem.Spec.sameAll,PySem.Spec.same,Dz r q]
  by_cases h1:a=c<;>by_cases h2:b=d<;>by_cases h3:r=q<;>simp[h1,h2,h3]
theorem JV {K:PySem.W.Frag}{H:Hp}{a b:Addr}{ts us:List (Int×Int)}{Q:VK}(h1:Fz H a ts)(h2:Fz H b us)(q:Q (.bl (!decide (ts=us))) H):L9 K (.ref a) (.ref b) H Q:=by
 obtain⟨as,e1,p1⟩:=h1;obtain⟨bs,e2,p2⟩:=h2;exact⟨_,_,.lst (j6.of e1) (B6 p1),.lst (j6.of e2) (B6 p2),DO ts,DO us,by simp only[noMix];exact DX ts us,by simp only[same];rw[Dz];exact q⟩
theorem xK {X:Cx}{K:PySem.W.Frag}(h:X.K=K):rz X (.type "list") (fun xs H Q=>∃p ys,xs=[.ref p]/\(j6 K H p ys\/kQ K H p ys)/\∀l,H l=none->Q (.ref l) (upd H l (.lst ys))):=by subst h;exact nU
section
variable {g:TG}{te:TE}{lh:St}{H:Hp}{Q:VK}
theorem FR {lo:Int}{n:Nat}(zs:List Int)(hlen:zs.length=n)(hz:n<=20000)
  (hs:∀(i:Nat) H2,i<n->jU H H2->∀R:VK,(∀H4 z,jU H2 H4->zs[i]?=some z->R (.int z) H4)->g (.int (lo+i)) lh H2 fun mU H3=>te mU H3 R)
  (hd:∀D H2,jU H H2->H D=none->H2 D=some (.lst (zs.map V.int))->Q (.ref D) H2):m8 (B9 lo n) g xT te lh Q H:=by
 refine sS (fun i rs H2=>jU H H2/\rs=(zs.take i).map V.int) ⟨jU.refl H,jH⟩
  (fun i rs H2 hi z=>by rw[z.2];simp only[List.length_map,List.length_take];exact mH J) ?_ ?_
 .rintro i rs H2 hi ⟨sm,rfl⟩;exact hs i H2 hi sm (fun y H4=>jU H H4/\(zs.take i).map V.int++[y]=(zs.take (i+1)).map V.int) fun H4 z s4 ez=>⟨sm.trans s4,by rw[nq ez]⟩
 .rintro rs H2 ⟨sm,rfl⟩ D hD;rw[nR hlen];exact hd D _ (jR sm hD) (sm.free hD) jO
end
section
variable {K:PySem.W.Frag}{x q m:Str}{st:Stmt}{f C:Addr}{T pm cd:Value}{h:Heap}{mg:Str->Option Value}{ps:List Str}
def BA (x q:Str)(st:Stmt)(ps:List Str):Prop:=∀(kV doc pm:Value)(an:Option Addr)(cdv ct:Value)(us:List Value),us.length=ps.length->bindArgs (PySem.W.fnOf x q (ma st) (lC st) (jW st) .none kV doc pm an cdv ct) ⟨us,[]⟩=pure (ps.zip us)
theorem Hz (h:ps.length=1)(e:∀(kV doc pm:Value)(an:Option Addr)(cdv ct u0:Value),bindArgs (PySem.W.fnOf x q (ma st) (lC st) (jW st) .none kV doc pm an cdv ct) ⟨[u0],[]⟩=pure (ps.zip [u0])):BA x q st ps:=fun _ _ _ _ _ _ us hl=>match us,hl.trans h with | [_],_=>e _ _ _ _ _ _ _
theorem rF (h:ps.length=2)(e:∀(kV doc pm:Value)(an:Option Addr)(cdv ct u0 u1:Value),bindArgs (PySem.W.fnOf x q (ma st) (lC st) (jW st) .none kV doc pm an cdv ct) ⟨[u0,u1],[]⟩=pure (ps.zip [u0,u1])):BA x q st ps:=fun _ _ _ _ _ _ us hl=>match us,hl.trans h with | [_,_],_=>e _ _ _ _ _ _ _ _
theorem w6 (h:ps.length=3)(e:∀(kV doc pm:Value)(an:Option Addr)(cdv ct u0 u1 u2:Value),bindArgs (PySem.W.fnOf x q (ma st) (lC st) (jW st) .none kV doc pm an cdv ct) ⟨[u0,u1,u2],[]⟩=pure (ps.zip [u0,u1,u2])):BA x q st ps:=fun _ _ _ _ _ _ us hl=>match us,hl.trans h with | [_,_,_],_=>e _ _ _ _ _ _ _ _ _
theorem Ph (h:ps.length=4)(e:∀(kV doc pm:Value)(an:Option Addr)(cdv ct u0 u1 u2 u3:Value),bindArgs (PySem.W.fnOf x q (ma st) (lC st) (jW st) .none kV doc pm an cdv ct) ⟨[u0,u1,u2,u3],[]⟩=pure (ps.zip [u0,u1,u2,u3])):BA x q st ps:=fun _ _ _ _ _ _ us hl=>match us,hl.trans h with | [_,_,_,_],_=>e _ _ _ _ _ _ _ _ _ _
theorem ba5 (h:ps.length=5)(e:∀(kV doc pm:Value)(an:Option Addr)(cdv ct u0 u1 u2 u3 u4:Value),bindArgs (PySem.W.fnOf x q (ma st) (lC st) (jW st) .none kV doc pm an cdv ct) ⟨[u0,u1,u2,u3,u4],[]⟩=pure (ps.zip [u0,u1,u2,u3,u4])):BA x q st ps:=fun _ _ _ _ _ _ us hl=>match us,hl.trans h with | [_,_,_,_,_],_=>e _ _ _ _ _ _ _ _ _ _ _
def Fa (K:PySem.W.Frag)(x:Str)(st:Stmt):Prop:=∃(f:Addr)(fd:FuncData),Dx K x x st f fd/\PySem.W.nsIn K mainGlobals x=some (some (.ref f))
theorem Fa.of (a:PySem.W.nsIn K mainGlobals x=some (some (.ref f)))(l:K.lookup f=some ⟨T,none,.func (PySem.W.fnOf x x (ma st) (lC st) (jW st) .none .none .none pm none cd .none),⟨[]⟩⟩)(c:PySem.W.codeIn K cd x=true)(k:PySem.W.keepIn K (.ref f)=true):Fa K x st:=⟨f,_,FS l c k,a⟩
theorem Fa.dn (D:Fa K x st)(X:K.In h)(G:h.Ns mainGlobals mg)(b:BA x x st ps):Dn K mg x st ps :=
 let ⟨f,fd,F,a⟩:=D
 ⟨f,fd,F,F.binds b,fE X G a⟩
theorem Fa.law (D:Fa K x st)(X:K.In h)(G:h.Ns mainGlobals mg)(e:mg x=some (.ref f)):∃fd,Dx K x x st f fd:=by
 obtain⟨g,fd,F,a⟩:=D;have e':=e.symm.trans (fE X G a);cases e';exact⟨fd,F⟩
theorem Dx.to {fd:FuncData}(F:Dx K x q st f fd)(b:BA x q st ["script"])(s:Shared)(v:Value):BindsTo s fd ⟨[v],[]⟩ [("script",v)]:=by
 obtain⟨oc,od,kV,doc,pm,an,cdv,ct,osl,rfl,lk,Ec⟩:=F.ex;exact .of_eq (b kV doc pm an cdv ct [v] Z)
def Fm (K:PySem.W.Frag)(C:Addr)(m q:Str)(st:Stmt):Prop:=∃(f:Addr)(fd:FuncData),Dx K m q st f fd/\PySem.W.findIn K (.ref C) m=some (some (.ref f))/\PySem.W.isFn K (.ref f)=true/\PySem.W.keepIn K (.ref f)=true
theorem Fm.of (a:PySem.W.findIn K (.ref C) m=some (some (.ref f)))(i:PySem.W.isFn K (.ref f)=true)(l:K.lookup f=some ⟨T,none,.func (PySem.W.fnOf m q (ma st) (lC st) (jW st) .none .none .none pm none cd .none),⟨[]⟩⟩)(c:PySem.W.codeIn K cd q=true)(k:PySem.W.keepIn K (.ref f)=true):Fm K C m q st:=⟨f,_,FS l c k,a,i,k⟩
theorem Fm.mn (D:Fm K C m q st)(b:BA m q st ps):Mn K C m q st ps :=
 let ⟨f,fd,F,a,i,k⟩:=D
 ⟨f,fd,F,F.binds b,⟨a,i,k⟩⟩
theorem Fm.kn (D:Fm K C "__init__" q st)(mk:PySem.W.makesIn K C=true)(kc:PySem.W.keepIn K (.ref C)=true)(e:mg x=some (.ref C))(b:BA "__init__" q st ps):Kn K mg C x q st ps :=
 let ⟨f,fd,F,a,i,k⟩:=D
 ⟨f,fd,F,F.binds b,⟨mk,a,i,kc⟩,e⟩
end
section
variable {X:Cx}{k k':Nat}{x:Str}{ps:List Str}{sp:Sp}{a b e:Expr}{es:List Expr}{ta tb te:TE}{t:TA}{p pos pos':Pos}{r:R2}
theorem kh (i:Nat)(hN:X.N.Nodup)(he:PE X e te)(hi:X.N[i]?=some x:=by exact rfl)(hx:Loc X.env.scope x:=by first | exact Or.inl Z | exact Or.inr Z)(hs:swapsWith e (some (.Name x pos')) pos.line X.env=pure false:=by rfl)(hf:X.fn x=true\/X.env.scope.names.lookup x=some .local:=by first | exact .inl Z | exact .inr Z | assumption) :
  PS X (.Assign [.Name x pos'] e pos) (Gy te (kW i)):=LD hN hi hx he hs hf
theorem lX (i:Nat)(hN:X.N.Nodup)(hi:X.N[i]?=some x:=by exact rfl)(hx:Loc X.env.scope x:=by first | exact Or.inl Z | exact Or.inr Z)(hf:X.fn x=true\/X.env.scope.names.lookup x=some .local:=by first | exact .inl Z | exact .inr Z | assumption):PG X (.Name x pos) (kW i):=oq hN hi hx hf
theorem kf (D:Df X.prog X.w X.K X.mg X.base k x ps sp)(hr:nM k' X.A)(ha:PA X (e::es) t)(le:k<=k':=by decide)(hg:Gl X x:=by rfl)(E9:(x == ("__debug__":Str))=false:=by decide)
  (he:starEach (e::es) X.env=(false,eval e X.env)::starEach es X.env:=by rfl)(xu:(backTo pos (starEach es X.env)).any (·.1)=false:=by rfl) :
  PE X (.Call (.Name x p) (e::es) [] pos) (Ha sp [] E0 t):=LU D (hr.mono le) hg ha E9 he xu
theorem ki (hr:N5 X r)(ha:PE X a ta)(hb:PE X b tb)(hs:DZ b:=by exact fun _ _=>Z):PE X (.Subscript a b pos) (N0 r ta tb):=O3 hr ha hb hs
theorem lI {op:CmpOp}(ho:vg X (compareOp op) r)(ha:PE X a ta)(hb:PE X b tb)(hm:behindInMarks op b=false:=by exact pJ _):PT X (.Compare a [op] [b] pos) (K8 (N0 r ta tb)):=DU ho ha hb hm
theorem nQ (hm:X.mg "len"=none)(ha:PE X e te)(hg:Gl X "len":=by rfl)(hs:starEach [e] X.env=[(false,eval e X.env)]:=by rfl):PE X (.Call (.Name "len" p) [e] [] pos) (WG (fun xs H Q=>∃p ys,xs=[.ref p]/\(j6 X.K H p ys\/kQ X.K H p ys)/\Q (.int (ys.length:Nat)) H) (AG te JK)):=kP tY hg hm Gk (jL ha ke hs) (he:=hs)
theorem kL (ha:PE X e te)(hs:starEach [e] X.env=[(false,eval e X.env)]:=by rfl):PA X [e] (AG te JK):=jL ha ke hs
theorem ko {e':Expr}{ZG:TE}(ha:PE X e te)(hb:PE X e' ZG)(hs:starEach [e,e'] X.env=(false,eval e X.env)::starEach [e'] X.env:=by rfl)(Kk:starEach [e'] X.env=[(false,eval e' X.env)]:=by rfl):PA X [e,e'] (AG te (AG ZG JK)):=jL ha (jL hb ke Kk) hs
end
section
variable {mV:List (Str×Nat)}
variable {X:Cx}{elt iter tg:Expr}{ifs:List Expr}{scope:Scope}{pos py Im:Pos}{x y:Str}{cl:List (Str×Addr)}{wi:TI}{g:TG}{tc:TT}{te:TE}
theorem nT {oW:List Str}{C:Addr}{s:Shared}{H:Hp}{fp:List Addr}(i:Nat)(hN:(mV.map (·.1)++oW).Nodup:=by decide +kernel)(hi:(k7 X scope cl (mV.map (·.1)++oW) C s H fp).N[i]?=some x:=by exact rfl)(hx:Loc (k7 X scope cl (mV.map (·.1)++oW) C s H fp).env.scope x:=by exact Or.inl Z)(hf:(k7 X scope cl (mV.map (·.1)++oW) C s H fp).fn x=true\/(k7 X scope cl (mV.map (·.1)++oW) C s H fp).env.scope.names.lookup x=some .local:=by exact Or.inr Z):PG (k7 X scope cl (mV.map (·.1)++oW) C s H fp) (.Name x pos) (kW i):=oq hN hi hx hf
theorem sJ {oW:List Str}{C:Addr}{s:Shared}{H:Hp}{fp:List Addr}{k:Nat}{p p':Pos}(i j:Nat)(hc:X.calm=true:=by exact rfl)(hN:(mV.map (·.1)++oW).Nodup:=by decide +kernel)(hi:(k7 X scope cl (mV.map (·.1)++oW) C s H fp).N[i]?=some x:=by exact rfl)(hj:(k7 X scope cl (mV.map (·.1)++oW) C s H fp).N[j]?=some y:=by exact rfl)(hx:Loc (k7 X scope cl (mV.map (·.1)++oW) C s H fp).env.scope x:=by exact Or.inl Z)(hy:Loc (k7 X scope cl (mV.map (·.1)++oW) C s H fp).env.scope y:=by exact Or.inl Z)(hf:(k7 X scope cl (mV.map (·.1)++oW) C s H fp).fn x=true\/(k7 X scope cl (mV.map (·.1)++oW) C s H fp).env.scope.names.lookup x=some .local:=by exact Or.inr Z)(hg:(k7 X scope cl (mV.map (·.1)++oW) C s H fp).fn y=true\/(k7 X scope cl (mV.map (·.1)++oW) C s H fp).env.scope.names.lookup y=some .local:=by exact Or.inr Z):PG (k7 X scope cl (mV.map (·.1)++oW) C s H fp) (.Tuple [.Name x p,.Name y p'] k pos) (I0 X.K 2 (vi (kW i) (vi (kW j) Kd))):=mv hc (kg (oq hN hi hx hf) (kg (oq hN hj hy hg) lO))
theorem nh (mV:List (Str×Nat))(oW:List Str)(hi:PI X tg iter wi)
  (hb:∀C s H fp,PG (k7 X scope cl (mV.map (·.1)++oW) C s H fp) tg g/\KQ (k7 X scope cl (mV.map (·.1)++oW) C s H fp) ifs tc/\PE (k7 X scope cl (mV.map (·.1)++oW) C s H fp) elt te)
  (ut:closureFor scope X.env=pure cl:=by exact rfl)(hc:X.calm=true:=by exact rfl)(qF:scope.kind=.function:=by exact rfl)
  (qY:∀x∈scope.names,x.2=.local->scope.names.lookup x.1=some .local:=by decide +kernel)(qE:∀y∈scope.names,y.2≠.cell:=by decide +kernel)
  (rB:∀y∈scope.names,y.2=.free->∃c,cl.lookup y.1=some c:=by exact Du Z)
  (sK:∀x c,cl.lookup x=some c->X.env.cells.lookup x=some c:=by repeat first | exact Dg | refine AT Z ?_)
  (xw:∀p∈mV,X.N[p.2]?=some p.1/\(X.env.kindOf p.1=some .cell\/X.env.kindOf p.1=some .free)/\((relabel scope X.env).names.lookup p.1=some .cell\/(relabel scope X.env).names.lookup p.1=some .free)/\∃c,cl.lookup p.1=some c:=by repeat first | exact D9 | refine A7 ⟨Z,Or.inl Z,Or.inl Z,_,Z⟩ ?_)
  (hl:rL mV.length g:=by first | exact vj O | exact vm O O | exact pP O O O)
  (hs:∀x,foldedSetIterable iter X.env x=pure x:=by intro _;rfl) :
  PE X (.ListComp elt [⟨tg,iter,ifs,0⟩] scope pos) (Bm mV oW.length wi g tc te):=AU hc ut qF qY qE rB sK xw hl hi hb hs
theorem tj (i:Nat)(mV:List (Str×Nat))(oW:List Str)(hN:X.N.Nodup)(hi:PI X tg iter wi)
  (hb:∀C s H fp,PG (k7 X scope cl (mV.map (·.1)++oW) C s H fp) tg g/\KQ (k7 X scope cl (mV.map (·.1)++oW) C s H fp) ifs tc/\PE (k7 X scope cl (mV.map (·.1)++oW) C s H fp) elt te)
  (ut:closureFor scope X.env=pure cl:=by exact rfl)(hc:X.calm=true:=by exact rfl)(qF:scope.kind=.function:=by exact rfl)
  (qY:∀x∈scope.names,x.2=.local->scope.names.lookup x.1=some .local:=by decide +kernel)(qE:∀y∈scope.names,y.2≠.cell:=by decide +kernel)
  (rB:∀y∈scope.names,y.2=.free->∃c,cl.lookup y.1=some c:=by exact Du Z)
  (sK:∀x c,cl.lookup x=some c->X.env.cells.lookup x=some c:=by repeat first | exact Dg | refine AT Z ?_)
  (xw:∀p∈mV,X.N[p.2]?=some p.1/\(X.env.kindOf p.1=some .cell\/X.env.kindOf p.1=some .free)/\((relabel scope X.env).names.lookup p.1=some .cell\/(relabel scope X.env).names.lookup p.1=some .free)/\∃c,cl.lookup p.1=some c:=by repeat first | exact D9 | refine A7 ⟨Z,Or.inl Z,Or.inl Z,_,Z⟩ ?_)
  (hl:rL mV.length g:=by first | exact vj O | exact vm O O | exact pP O O O)
  (XN:X.N[i]?=some y:=by exact rfl)(hy:Loc X.env.scope y:=by first | exact Or.inl Z | exact Or.inr Z)
  (hs:∀x,foldedSetIterable iter X.env x=pure x:=by intro _;rfl)
  (XO:swapsWith (.ListComp elt [⟨tg,iter,ifs,0⟩] scope pos) (some (.Name y py)) Im.line X.env=pure true:=by rfl)
  (hf:X.fn y=true\/X.env.scope.names.lookup y=some .local:=by first | exact .inl Z | exact .inr Z | assumption) :
  PS X (.Assign [.Name y py] (.ListComp elt [⟨tg,iter,ifs,0⟩] scope pos) Im) (Gy (Bm mV oW.length wi g tc te) (kW i)):=BD hN XN hy hc ut qF qY qE rB sK xw hl hi hb hs XO hf
end
theorem kR {P:Program}{w:World}{K:PySem.W.Frag}{mg:Str->Option Value}{base:Heap}{x:Str}{st:Stmt}{N ps:List Str}{k:Nat}{sp:Sp}(D:Dn K mg x st ps)(S:jZ N ps (jW st))
  (hbody:∀(f:Addr)(cdv:Value)(A:Around)(outer:List Env)(s:Shared)(H:Hp)(vs:List V)(Q:VK)(E:XK),nM k (A.deeper (envOfC x (jW st) s.heap.objs.size f cdv))->N.Nodup->sp vs H Q E ->
   ∃t,yp (xO D5 P w K mg base N x (jW st) f cdv A outer s H E).Fk (lC st) t/\t { nx:=fun _ H'=>Q .non H',rt:=Q } (start N vs) H)
  (len:∀vs H Q E,sp vs H Q E->vs.length=ps.length:=by intro _ _ _ _ h;cases h;subst_vars;rfl):Df P w K mg base (k+1) x ps sp:=by
 obtain⟨f,fd,F,b,m⟩:=D.ex;exact⟨f,fd,F.ok S len (fun cdv A outer s H vs Q E hr h=>hbody f cdv A outer s H vs Q E hr S.nd h),b,F.kp,m⟩
theorem Qt (n:Nat):Builtin.Range.rangeSize ((n:Int)-1) (-1) (-1)=(n:Nat):=by
 unfold Builtin.Range.rangeSize;rw[ao O];split
 .have:((n:Int)-1 - -1-1) / - -1=(n:Int)-1:=by
   rw[show (- -1:Int)=1 by decide,Int.ediv_one];lia
  lia
 .lia
section
variable {X:Cx}{tg:Expr}
def Pf (ta:TA):TI:=fun σ H R=>ta σ H fun vs H1=>∃n:Nat,vs=[.int ((n:Int)-1),.int (-1),.int (-1)]/\n<=1000000/\R (FF ((n:Int)-1) (-1) n) H1
theorem EU {a b c:Expr}{ta:TA}{p pos:Pos}(hg:Gl X "range")(hm:X.mg "range"=none)(ha:PA X [a,b,c] ta)(he:starEach [a,b,c] X.env=(false,eval a X.env)::starEach [b,c] X.env:=by rfl)(xu:(backTo pos (starEach [b,c] X.env)).any (·.1)=false:=by rfl) :
  PI X tg (.Call (.Name "range" p) [a,b,c] [] pos) (Pf ta):=by
 intro pins s σ H R I h;refine Call_ (pV I hg hm boot_range (cG (mQ (ha pos pins s σ H _ I h) fun us s1 ⟨vs,H1,I1,r1,q1⟩=>?_) he xu));obtain⟨n,e,n1,q⟩:=q1;subst e;cases r1 with
 | cons r rr =>
  cases rr with
  | cons r' rr =>
   cases rr with
   | cons Sj rr =>
    cases rr;obtain⟨t,rfl⟩:=r;obtain⟨t',rfl⟩:=r';obtain⟨Og,rfl⟩:=Sj;obtain⟨i,hi⟩:∃i:Int,i=(n:Int)-1:=⟨_,Z⟩;have sz:=Qt n;rw[<-hi] at sz q ⊢;refine call_range_3 J ?_ (.inl (iL J));have sm:Builtin.Range.small i (-1) (-1)=true:=by
     unfold Builtin.Range.small;rw[sz];simp only[Builtin.Range.rangeFitsLong,Bool.and_eq_true,Bool.or_eq_true,decide_eq_true_eq,beq_iff_eq,if_true,gt_iff_lt];have c1:¬((0:Int) < -1):=O;simp only[c1,if_false];exact⟨J,.inr O⟩
    refine wpAny_pyIter_range (jD ..) sm ?_;have I2:Inv X pins σ H1 { s1 with heap:=s1.heap.push { cls:=.type "range",data:=.fields #[.int i t,.int (-1) t',.int (-1) Og] },toks:=s1.toks }:=I1.kept fun b o e=>aQ _ e;refine⟨(s1.heap.push { cls:=.type "range",data:=.fields #[.int i t,.int (-1) t',.int (-1) Og] }).objs.size,[(s1.heap.push { cls:=.type "range",data:=.fields #[.int i t,.int (-1) t',.int (-1) Og] }).objs.size],_,_,H1,Z,
     I2.kept (t':=s1.toks) fun b o e=>aQ _ e,AK _ i (-1) n,?_,fun b hb=>?_,q⟩
    .have e1:i+((0:Nat):Int)*(-1)=i:=by simp
     have e2:((n:Nat):Int)-((0:Nat):Int)=Builtin.Range.rangeSize i (-1) (-1):=by rw[sz];simp
     show IsRangeIter _ _ (i+((0:Nat):Int)*(-1)) (((n:Nat):Int)-((0:Nat):Int)) (-1)
     rw[e1,e2];exact bZ _ Z
    .have e:b=(s1.heap.push { cls:=.type "range",data:=.fields #[.int i t,.int (-1) t',.int (-1) Og] }).objs.size:=by simpa using hb
     subst e;exact I2.BO (aH _) (I2.hok.fresh (aH _))
end
theorem Gr {X:Cx}{ss:List Stmt}:yp X ss (fun _ _ _=>dR):=fun _ _ _ _ _ _ h=>h.elim
end L2
namespace Pt
def HE (m b:Int):Prop:=∀d,2<=d->d<b->¬d∣m
def m9 (p:Int):Prop:=2<=p/\∀d,2<=d->d<p->¬d∣p
def Hk (p q:Int):Prop:=∃e:Nat,q=p^(e+1)
def rC:List (Int×Int)->Int
 | []=>1
 | a::r=>a.2*rC r
theorem O4 (a:Int):a^(0+1)=a:=by rw[bx,eL,cY]
theorem qP:∀(a b:List (Int×Int)),rC (a++b)=rC a*rC b
 | [],b=>by simp[rC]
 | x::r,b=>by simp[rC,qP r b,Int.mul_assoc]
structure Row (x:Int×Int):Prop where
 pr:m9 x.1
 pw:Hk x.1 x.2
structure xP (n:Int)(ps:List (Int×Int))(left p:Int):Prop where
 prd:rC ps*left=n
 Mw:HE left p
 row:∀x∈ps,Row x
 low:∀x∈ps,x.1<p
 srt:ps.Pairwise fun a b=>a.1<b.1
structure Parts (n:Int)(ps:List (Int×Int)):Prop where
 prd:rC ps=n
 row:∀x∈ps,Row x
 srt:ps.Pairwise fun a b=>a.1<b.1
theorem start (n:Int):xP n [] n 2 :=
 ⟨by simp[rC],fun d h1 h2=>by lia,fun x h=>(nomatch h),fun x h=>(nomatch h),List.Pairwise.nil⟩
structure Ab (m p q:Int):Prop where
 pos:1<=q
 pw:∃e:Nat,q=p^e
 dv:q∣m
theorem q0 (m p:Int):Ab m p 1:=⟨J,⟨0,jH⟩,Int.one_dvd m⟩
theorem q1 {m p q:Int}(hp:2<=p)(h:Ab m p q)(d:m%(q*p)=0):Ab m p (q*p):=by
 obtain⟨h1,⟨e,he⟩,h3⟩:=h;have:=aA hp (show 0<=q by lia);exact⟨J,⟨e+1,by rw[he,bx]⟩,bS d⟩
theorem Ji {m p q:Int}(hm:1<=m)(h:Ab m p q):q<=m:=aU J h.dv
theorem Gz {p q:Int}(hp:2<=p)(h:1<=q):q<q*p:=by
 have:=aA hp (show 0<=q by lia);lia
structure BK (m p q:Int):Prop where
 inv:Ab m p q
 no:¬q*p∣m
theorem q2 {m p q:Int}(h:Ab m p q)(d:¬m%(q*p)=0):BK m p q:=⟨h,fun z=>d (bT z)⟩
theorem FQ {n:Int}{ps:List (Int×Int)}{left p q:Int}(h:xP n ps left p)(hq:BK left p q)(h1:¬q > 1):xP n ps left (p+1):=by
 have e:q=1:=by have:=hq.inv.pos;lia
 have no:¬p∣left:=by have:=hq.no;rw[e,cY] at this;exact this
 refine⟨h.prd,fun d h2 h3=>?_,h.row,fun x hx=>by have:=h.low x hx;lia,h.srt⟩
 by_cases c:d=p
 .rw[c];exact no
 .exact h.Mw d h2 J
theorem Ib {n:Int}{ps:List (Int×Int)}{left p q:Int}(hp:2<=p)(h:xP n ps left p)(hq:BK left p q)(h1:q > 1):xP n (ps++[(p,q)]) (left/q) (p+1):=by
 obtain⟨⟨q1,⟨e,he⟩,⟨c,hc⟩⟩,no⟩:=hq;have ec:left/q=c:=by rw[hc];exact aG c J
 cases e with
 | zero=>rw[he] at h1;simp at h1
 | succ e =>
  have pq:p∣q:=by rw[he,bx];exact fq _ _
  have pl:p∣left:=bF pq ⟨c,hc⟩;have cl:c∣left:=⟨q,by rw[hc,aB]⟩;have Io:m9 p:=⟨hp,fun d h2 h3 z=>h.Mw d h2 h3 (bF z pl)⟩;refine⟨?_,?_,?_,?_,?_⟩
  .rw[qP,ec];simp only[rC,Int.mul_one];rw[aK,<-hc];exact h.prd
  .rw[ec];intro d h2 h3 z
   by_cases k:d=p
   .apply no;obtain⟨f,hf⟩:=z;exact⟨f,by rw[hc,hf,k,aK]⟩
   .exact h.Mw d h2 J (bF z cl)
  .intro x hx;rcases List.mem_append.mp hx with hx | hx
   .exact h.row x hx
   .obtain rfl:=List.mem_singleton.mp hx;exact⟨Io,⟨e,he⟩⟩
  .intro x hx;rcases List.mem_append.mp hx with hx | hx
   .have:=h.low x hx;lia
   .obtain rfl:=List.mem_singleton.mp hx;show p<p+1;lia
  .rw[eZ];refine⟨h.srt,gy _ _,fun a ha b hb=>?_⟩;obtain rfl:=List.mem_singleton.mp hb;exact h.low a ha
theorem Ay {left q:Int}(h:1<=left)(hd:q∣left)(hq:1<=q):1<=left/q/\left/q<=left:=by
 obtain⟨c,hc⟩:=hd;have ec:left/q=c:=by rw[hc];exact aG c J
 rw[ec];have cp:1<=c:=by
  rcases Int.lt_or_le 0 c with z | z
  .lia
  .have:=aA z (show 0<=q by lia);lia
 have:=av hq (show 0<=c by lia);lia
theorem F0 {left p:Int}(hp:2<=p)(h:HE left p)(hb:¬p*p<=left)(h1:left > 1):m9 left/\p<=left:=by
 have pl:p<=left:=by
  rcases Int.lt_or_le left p with z | z
  .exact absurd (c5 left) (h left J z)
  .exact z
 refine⟨⟨J,fun d h2 h3 hd=>?_⟩,pl⟩;obtain⟨c,hc⟩:=id hd
 by_cases dp:d<p
 .exact h d h2 dp hd
 .have c2:2<=c:=by
   rcases Int.lt_or_le c 2 with z | z
   .have:c<=1:=J;have:=aA this (show 0<=d by lia);lia
   .exact z
  by_cases cp:c<p
  .exact h c c2 cp ⟨d,by rw[hc,aB]⟩
  .have a1:=aA (show p<=c by lia) (show 0<=d by lia);have a2:=av (show p<=d by lia) (show 0<=p by lia);lia
theorem OZ {n:Int}{ps:List (Int×Int)}{left p:Int}(hp:2<=p)(h:xP n ps left p)(hb:¬p*p<=left)(h1:left > 1):Parts n (ps++[(left,left)]):=by
 obtain⟨pr,pl⟩:=F0 hp h.Mw hb h1;refine⟨?_,?_,?_⟩
 .rw[qP];simp only[rC,Int.mul_one];exact h.prd
 .intro x hx;rcases List.mem_append.mp hx with hx | hx
  .exact h.row x hx
  .obtain rfl:=List.mem_singleton.mp hx;exact⟨pr,⟨0,(O4 left).symm⟩⟩
 .rw[eZ];refine⟨h.srt,gy _ _,fun a ha b hb=>?_⟩;obtain rfl:=List.mem_singleton.mp hb;have:=h.low a ha;show a.1<left;lia
theorem MV {n:Int}{ps:List (Int×Int)}{left p:Int}(h:xP n ps left p)(h0:1<=left)(h1:¬left > 1):Parts n ps:=by
 have:left=1:=J;refine⟨?_,h.row,h.srt⟩;have:=h.prd;rw[‹left=1›,bX] at this;exact this
theorem wf {p:Int}(hp:2<=p)(k:Nat):1<=p^k:=by
 induction k with
 | zero=>simp
 | succ k ih =>
  rw[bx];have:=aA hp (show 0<=p^k by lia);lia
theorem AV {p:Int}(hp:2<=p){k e:Nat}(h:k<=e):p^k<=p^e:=by
 obtain⟨d,rfl⟩:=Nat.exists_eq_add_of_le h;rw[eD];have a:=wf hp k;have:=aA (wf hp d) (show 0<=p^k by lia);lia
theorem sT {x:Int×Int}(h:Row x):2<=x.1/\x.1<=x.2:=by
 obtain⟨e,he⟩:=h.pw;refine⟨h.pr.1,?_⟩;have a:=AV h.pr.1 (show 0+1<=e+1 by lia);rw[<-he,O4] at a;exact a
theorem qO:∀(ps:List (Int×Int)),(∀x∈ps,Row x)->1<=rC ps
 | [],_=>by simp[rC]
 | x::r,h=>by
  have a:=sT (h x aq);have b:=qO r fun y hy=>h y (ar _ hy);have c:=av (show 1<=x.2 by lia) (show 0<=rC r by lia);simp only[rC];lia
theorem BQ:∀(ps:List (Int×Int)),(∀x∈ps,Row x)->∀x∈ps,x.2<=rC ps
 | [],_,_,h=>nomatch h
 | y::r,h,x,hx=>by
  have a:=sT (h y aq);have h':∀z∈r,Row z:=fun z hz=>h z (ar _ hz);have b:=qO r h';simp only[rC];rcases List.mem_cons.mp hx with e | e
  .rw[e];have c:=aA b (show 0<=y.2 by lia);lia
  .have i:=BQ r h' x e;have c:=av (show 1<=y.2 by lia) (show 0<=rC r by lia);lia
variable {p:Int}
theorem JE {a:Int}(hp:m9 p)(h:¬p∣a):Nat.Coprime p.natAbs a.natAbs:=by
 have g1:(Nat.gcd p.natAbs a.natAbs)∣p.natAbs:=Nat.gcd_dvd_left _ _;have g2:(Nat.gcd p.natAbs a.natAbs)∣a.natAbs:=Nat.gcd_dvd_right _ _;have e1:((Nat.gcd p.natAbs a.natAbs:Nat):Int)∣p:=jb.mpr g1;have e2:((Nat.gcd p.natAbs a.natAbs:Nat):Int)∣a:=jb.mpr g2;have p2:=hp.1;have gp:0<Nat.gcd p.natAbs a.natAbs:=Nat.gcd_pos_of_pos_left _ J;have gl:((Nat.gcd p.natAbs a.natAbs:Nat):Int)<=p:=aU J e1;show Nat.gcd p.natAbs a.natAbs=1
 rcases Nat.lt_or_ge (Nat.gcd p.natAbs a.natAbs) 2 with z | z
 .lia
 .rcases Int.lt_or_le ((Nat.gcd p.natAbs a.natAbs:Nat):Int) p with y | y
  .exact absurd e1 (hp.2 _ J y)
  .have:((Nat.gcd p.natAbs a.natAbs:Nat):Int)=p:=J;rw[this] at e2;exact absurd e2 h
theorem euclid {a b:Int}(hp:m9 p)(h:p∣a*b):p∣a\/p∣b:=by
 by_cases c:p∣a
 .exact .inl c
 .right;have q:=JE hp c;have h':p.natAbs∣a.natAbs*b.natAbs:=by rw[<-aM];exact aX.mpr h
  exact aX.mp (q.dvd_of_dvd_mul_left h')
theorem sA {p r:Int}(hp:m9 p)(hr:m9 r):∀e:Nat,p∣r^e->p=r
 | 0,h=>by
  have:=aU (show (0:Int)<1 by decide) (show p∣1 by simpa using h);have:=hp.1;lia
 | e+1,h=>by
  rw[bx] at h;rcases euclid hp h with z | z
  .exact sA hp hr e z
  .have l:=aU (by have:=hr.1;lia) z;rcases Int.lt_or_le p r with y | y
   .exact absurd z (hr.2 p hp.1 y)
   .lia
theorem vQ {p:Int}(hp:m9 p):∀(ps:List (Int×Int)),(∀x∈ps,Row x)->p∣rC ps->∃x∈ps,x.1=p
 | [],_,h=>by
  have:=aU O (show p∣1 from h);have:=hp.1;lia
 | x::r,h,d=>by
  have d':p∣x.2*rC r:=d;rcases euclid hp d' with z | z
  .obtain⟨e,he⟩:=(h x List.mem_cons_self).pw;rw[he] at z;exact⟨x,aq,(sA hp (h x aq).pr _ z).symm⟩
  .obtain⟨y,hy,e⟩:=vQ hp r (fun y hy=>h y (List.mem_cons_of_mem _ hy)) z;exact⟨y,ar _ hy,e⟩
theorem MU (hp:2<=p)(k:Nat):p^k≠0:=by have:=wf hp k;lia
theorem JZ {j e:Nat}(h:j+1<=e):p^(j+1)∣p^e:=by
 obtain⟨d,rfl⟩:=Nat.exists_eq_add_of_le h;rw[eD p (j+1) d];exact cV _ _
structure DI (n c:Int)(low high:List Int):Prop where
 sq:∀x,1<=x->x<c->x*x<=n
 ls:low.Pairwise (· < ·)
 lm:∀x,x∈low↔(1<=x/\x<c)/\x∣n
 hs:high.Pairwise (· < ·)
 hm:∀y,y∈high↔∃x,(1<=x/\x<c)/\x*x≠n/\x*y=n
def FD (n s:Int):Prop :=
 ((∃p,m9 p/\p*p∣n)/\s=0)\/((∀p,m9 p->¬p*p∣n)/\∃l:List Int,l.Nodup/\(∀p,p∈l↔m9 p/\p∣n)/\s=(-1)^l.length)
theorem Bf {n:Int}(h:2<=n):∃p,m9 p/\p∣n:=by
 have:∀k:Nat,∀c:Int,2<=c->(n-c).toNat=k->c<=n->(∀d,2<=d->d<c->¬d∣n)->∃p,m9 p/\p∣n:=by
  intro k
  induction k with
  | zero =>
   intro c c2 ek cn no;have:c=n:=J;subst this;exact⟨c,⟨c2,no⟩,c5 _⟩
  | succ k ih =>
   intro c c2 ek cn no
   by_cases z:c∣n
   .exact⟨c,⟨c2,fun d a b y=>no d a b (bF y z)⟩,z⟩
   .refine ih (c+1) J J J fun d a b=>?_
    by_cases q:d=c
    .subst q;exact z
    .exact no d a J
 exact this _ 2 J Z h (fun d a b=>by lia)
open Classical in
noncomputable def mu (n:Int):Int:=if h:∃s,FD n s then Classical.choose h else 0
theorem take_snoc {α:Type}{ps:List α}{i:Nat}{x:α}(h:ps[i]?=some x):ps.take (i+1)=ps.take i++[x]:=by rw[de,h];rfl
structure LI (n0 n p done:Int):Prop where
 ex:∃m,n0=m*n/\FD m done/\1<=m/\(∀r,m9 r->r∣m->r<p)
 no:HE n p
variable {ps:List (Int×Int)}
theorem uY {x:Int×Int}(h:x∈ps)(srt:ps.Pairwise fun a b=>a.1<b.1)(row:∀y∈ps,Row y):∃m,rC ps=x.2*m/\¬x.1∣m/\1<=m:=by
 obtain⟨a,b,rfl⟩:=List.append_of_mem h;rw[eZ,fG] at srt;have ra:∀y∈a,Row y:=fun y hy=>row y (cN _ hy);have rb:∀y∈b,Row y:=fun y hy=>row y (bu _ (ar _ hy));have rx:=row x h;refine⟨rC a*rC b,?_,fun z=>?_,?_⟩
 .rw[qP];simp only[rC];rw[Int.mul_left_comm]
 .rcases euclid rx.pr z with z | z
  .obtain⟨y,hy,e⟩:=vQ rx.pr a ra z;have:=srt.2.2 y hy x aq;lia
  .obtain⟨y,hy,e⟩:=vQ rx.pr b rb z;have:=srt.2.1.1 y hy;lia
 .have:=cS (qO a ra) (qO b rb) J (by have:=qO a ra;lia);lia
theorem oB {n:Int}(h:Parts n ps)(x:Int×Int):x∈ps↔m9 x.1/\x.1∣n/\Hk x.1 x.2/\x.2∣n/\¬x.2*x.1∣n:=by
 constructor
 .intro hx;have rx:=h.row x hx;obtain⟨m,e,nd,m1⟩:=uY hx h.srt h.row;rw[h.prd] at e;obtain⟨k,hk⟩:=rx.pw;have dq:x.2∣n:=⟨m,e⟩;refine⟨rx.pr,bF ?_ dq,rx.pw,dq,fun z=>nd ?_⟩
  .rw[hk,bx];exact fq _ _
  .rw[e] at z;exact ir (by have:=sT rx;lia) z
 .rintro⟨pr,d,⟨k,hk⟩,dq,nd⟩;rw[<-h.prd] at d;obtain⟨y,hy,e⟩:=vQ pr ps h.row d;obtain⟨m,e2,nm,m1⟩:=uY hy h.srt h.row;rw[h.prd] at e2;obtain⟨j,hj⟩:=(h.row y hy).pw;rw[e] at hj nm;have p2:=pr.1;have le:∀{a b:Nat}{c:Int},¬x.1∣c->x.1^a∣x.1^b*c->a<=b:=by
   intro a b c hc hd;rcases Nat.lt_or_ge b a with z | z
   .obtain⟨t,rfl⟩:=Nat.exists_eq_add_of_le z;rw[show b+1+t=b+(t+1) by lia,eD] at hd;have:=ir (MU p2 b) hd;exact absurd (bF ⟨x.1^t,by rw[bx,aB]⟩ this) hc
   .exact z
  have k1:k+1<=j+1:=le nm (by rw[<-hj,<-e2,<-hk];exact dq);have k2:¬k+1+1<=j+1:=fun z=>nd (by
   rw[hk,<-bx,e2,hj];exact bF (JZ z) (cV _ _))
  have:k=j:=J;have q:x=y:=Prod.ext e.symm (by rw[hk,hj,this]);rw[q];exact hy
theorem AR:∀{a b:List (Int×Int)},a.Pairwise (fun x y=>x.1<y.1)->b.Pairwise (fun x y=>x.1<y.1)->(∀x,x∈a↔x∈b)->a=b
 | [],[],_,_,_=>rfl
 | [],y::b,_,_,h=>by have:=(h y).mpr aq;cases this
 | x::a,[],_,_,h=>by have:=(h x).mp aq;cases this
 | x::a,y::b,ha,hb,h=>by
  rw[fG] at ha hb;have e:x=y:=by
   have h1:=(h x).mp aq;have h2:=(h y).mpr aq;rcases List.mem_cons.mp h1 with e | e
   .exact e
   .rcases List.mem_cons.mp h2 with f | f
    .exact f.symm
    .have:=hb.1 x e;have:=ha.1 y f;lia
  subst e;congr 1;refine AR ha.2 hb.2 fun z=>?_;have q:=h z;rw[fD,fD] at q;constructor
  .intro hz;rcases q.mp (.inr hz) with e | e
   .subst e;have:=ha.1 z hz;lia
   .exact e
  .intro hz;rcases q.mpr (.inr hz) with e | e
   .subst e;have:=hb.1 z hz;lia
   .exact e
theorem nJ {n:Int}{a b:List (Int×Int)}(ha:Parts n a)(hb:Parts n b):a=b:=AR ha.srt hb.srt fun x=>by rw[oB ha,oB hb]
structure CI (n c:Int)(k:Nat):Prop where
 ex:∃low high,DI n c low high/\low.length+high.length=k
def rt (n:Nat):Nat->Nat
 | 0=>0
 | d+1=>bif Nat.ble ((d+1)*(d+1)) n then d+1 else rt n d
end Pt
namespace Eh
def G (a b:Int):Int:=(Int.gcd a b:Nat)
def ab (a:Int):Int:=if a<0 then -a else a
theorem B3 (a:Int):ab a=(a.natAbs:Int):=by unfold ab;split<;>lia
theorem WW (a b:Int):G (ab a) (ab b)=G a b:=by
 unfold G;rw[B3,B3];simp[Int.gcd]
theorem Hw (a b:Int):0<=G a b:=ja _
theorem start (a b:Int):0<=ab a/\0<=ab b/\G (ab a) (ab b)=G a b:=by
 refine⟨?_,?_,WW a b⟩<;>(rw[B3];lia)
theorem turn {a b g s:Int}(hg:0<=g)(hs:0<=s)(h:G g s=G a b)(ne:¬s=0) :
  0<=s/\0<=Int.fmod g s/\G s (Int.fmod g s)=G a b:=by
 have e:=cX g hs;refine⟨hs,?_,?_⟩
 .rw[e];exact aC _ ne
 .rw[e,<-h];unfold G;congr 1;obtain⟨m,rfl⟩:=Int.eq_ofNat_of_zero_le hg;obtain⟨n,rfl⟩:=Int.eq_ofNat_of_zero_le hs;rw[<-Int.natCast_emod];show Nat.gcd n (m%n)=Nat.gcd m n
  rw[iO n,<-Nat.gcd_rec,iO]
theorem less {g s:Int}(hs:0<=s)(ne:¬s=0):(Int.fmod g s).toNat<s.toNat:=by
 have e:=cX g hs;have:=az g (show 0<s by lia);have:=aC g ne;lia
theorem out {a b g s:Int}(hg:0<=g)(h:G g s=G a b)(z:s=0):g=G a b:=by
 subst z;unfold G at *;have:Int.gcd g 0=g.natAbs:=Int.gcd_zero_right g;lia
theorem P5 {a b g s:Int}(hg:0<=g)(hs:0<=s)(h:G g s=G a b)(ne:¬s=0):0<=g%s/\G s (g%s)=G a b/\(g%s).toNat<s.toNat:=by
 have t:=turn hg hs h ne;have l:=less (g:=g) hs ne;rw[cX g hs] at t l;exact⟨t.2.1,t.2.2,l⟩
structure Bk (st n r c lr lc:Int):Prop where
 g:G r lr=G st n
 x:∃x,r=st*c+n*x
 y:∃y,lr=st*lc+n*y
theorem bk0 {st n:Int}(hn:0<n):0<=n/\0<=Int.fmod st n/\Int.fmod st n<n+1/\Bk st n n 0 (Int.fmod st n) 1:=by
 have e:=cX st (g5 hn);have h0:=aC st (show n≠0 by lia);have h1:=az st hn;refine⟨J,J,J,?_,⟨1,?_⟩,⟨-(st/n),?_⟩⟩
 .rw[e];unfold G;congr 1;have d:=bP st n;have q:Int.gcd n (st%n+n*(st/n))=Int.gcd n (st%n):=Int.gcd_add_mul_left_right ..;rw[d] at q;rw[<-q,Int.gcd_comm]
 .simp
 .rw[e,fL,bX];have:=bP st n;lia
theorem bkt {st n r c lr lc:Int}(hr:0<=r)(h0:0<=lr)(ne:¬lr=0)(h:Bk st n r c lr lc) :
  0<=lr/\0<=r-Int.fdiv r lr*lr/\Bk st n lr lc (r-Int.fdiv r lr*lr) (c-Int.fdiv r lr*lc):=by
 have e:=d4 r h0;rw[e];have m:r-r/lr*lr=r%lr:=by
  have:=bP r lr;rw[aB] at this;lia
 rw[m];obtain⟨hg,⟨x,hx⟩,⟨y,hy⟩⟩:=h;have t:=turn hr h0 hg ne;have f:=cX r h0;rw[f] at t;refine⟨h0,t.2.1,t.2.2,⟨y,hy⟩,⟨x-r/lr*y,?_⟩⟩;rw[<-m,cT,cT];have a1:st*(r/lr*lc)=r/lr*(st*lc):=by rw[jf]
 have a2:n*(r/lr*y)=r/lr*(n*y):=by rw[jf]
 have a3:r/lr*lr=r/lr*(st*lc)+r/lr*(n*y):=by rw[<-e8,<-hy]
 lia
theorem MP {r lr:Int}(h0:0<=lr)(ne:¬lr=0):(r-Int.fdiv r lr*lr).toNat<lr.toNat:=by
 have e:=d4 r h0;rw[e];have m:r-r/lr*lr=r%lr:=by
  have:=bP r lr;rw[aB] at this;lia
 rw[m];have:=az r (show 0<lr by lia);have:=aC r ne;lia
theorem U3 {st n:Int}(hn:0<n):0<=st%n/\st%n<n/\Bk st n n 0 (st%n) 1:=by
 have h:=bk0 (st:=st) hn;rw[cX st (g5 hn)] at h;exact⟨h.2.1,az st hn,h.2.2.2⟩
theorem Vk {st n r c lr lc:Int}(hr:0<=r)(h0:0<=lr)(ne:¬lr=0)(h:Bk st n r c lr lc) :
  0<=r-r/lr*lr/\(r-r/lr*lr)<lr/\(r-r/lr*lr).toNat<lr.toNat/\Bk st n lr lc (r-r/lr*lr) (c-r/lr*lc):=by
 have t:=bkt hr h0 ne h;have l:=MP (r:=r) h0 ne;rw[d4 r h0] at t l;refine⟨t.2.1,J,l,t.2.2⟩
def us (n:Int)(i:Nat):List Int:=((List.range i).map fun (j:Nat)=>(1+(j:Int))).filter fun k=>decide (G k n=1)
end Eh
namespace Ld
def tab (n:Nat)(F:Int->Int):List Int:=(List.range n).map fun x:Nat=>F x
theorem vN (n:Nat)(F:Int->Int):(tab n F).length=n:=by simp[tab]
theorem Gd {n:Nat}{F:Int->Int}(hn:0<n)(hF:tK n F)(x:Int):at' (tab n F) x=F x:=by
 have e:=tf (a:=tab n F) (x:=x) (by rw[vN];exact hn);rw[vN] at e;unfold tab at e;rw[af,dC (vH hn x)] at e;have e':=bK e;unfold tab;rw[<-e'];show F (((x%n).toNat:Nat):Int)=_
 rw[zE hn];exact hF.md x
theorem TF {st n:Int}:∀(m:Nat)(r c lr lc:Int),lr.toNat=m->0<=r->0<=lr->Eh.Bk st n r c lr lc->∃c' x,Eh.G st n=st*c'+n*x:=by
 intro m
 induction m using Nat.strongRecOn with
 | ind m ih =>
  intro r c lr lc hm hr h0 h
  by_cases z:lr=0
  .obtain⟨hg,⟨x,hx⟩,_⟩:=h;have:=Eh.out hr hg z;exact⟨c,x,by rw[<-this];exact hx⟩
  .have t:=Eh.Vk hr h0 z h;exact ih _ (by rw[<-hm];exact t.2.2.1) _ _ _ _ Z h0 t.1 t.2.2.2
theorem Nd {st:Int}{n:Nat}(hn:0<n)(g:Eh.G st n=1):∃v,(st*v)%n=1%n:=by
 have b:=Eh.U3 (st:=st) (n:=n) J;obtain⟨c,x,e⟩:=TF _ _ _ _ _ Z J b.1 b.2.2;refine⟨c,?_⟩;rw[g] at e;rw[e,dr]
def turned (a:List Int)(yL:Int):List Int:=tab a.length fun x=>at' a (x-yL)
theorem wj (a:List Int)(yL:Int):(turned a yL).length=a.length:=vN _ _
theorem Jv {a:List Int}{n:Nat}(h:a.length=n)(c:Int):tK n fun x=>at' a (x-c):=fun x y e=>om h _ _ (by rw[eM,e,<-eM])
theorem yH {a:List Int}(hn:0<a.length)(yL x:Int):at' (turned a yL) x=at' a (x-yL):=Gd hn (Jv Z yL) x
structure IJ (n:Nat)(st:Int)(a o:List Int):Prop where
 la:a.length=n
 lo:o.length=n
 at_:∀x:Int,at' o (x*st)=at' a x
theorem IJ.plus {n:Nat}(hn:0<n){s:Int}{a b l r:List Int}(h:IJ n s a l)(g:IJ n s b r):IJ n s (plus a b) (plus l r) :=
 ⟨by rw[n6 (h.la.trans g.la.symm),h.la],by rw[n6 (h.lo.trans g.lo.symm),h.lo],fun x=>by
  rw[oS (h.lo.trans g.lo.symm) (by rw[h.lo];exact hn),oS (h.la.trans g.la.symm) (by rw[h.la];exact hn),h.at_,g.at_]⟩
theorem IJ.turned {n:Nat}(hn:0<n){s:Int}{a l:List Int}(h:IJ n s a l)(yL:Int):IJ n s (turned a yL) (turned l (yL*s)) :=
 ⟨by rw[wj,h.la],by rw[wj,h.lo],fun x=>by
  rw[yH (by rw[h.lo];exact hn),yH (by rw[h.la];exact hn),<-cU,h.at_]⟩
variable {q:Nat}
def ML (a:List Int)(q:Nat)(x:Int):Int:=if x%q=0 then at' a (x/q) else 0
def fin (a:List Int)(q:Nat):List Int:=tab (q*a.length) (ML a q)
theorem DT (a:List Int)(q:Nat):(fin a q).length=q*a.length:=vN _ _
theorem JD {n:Nat}(hq:0<q){x y:Int}(h:x%((q*n:Nat):Int)=y%((q*n:Nat):Int)):x%q=y%q/\(x/q)%n=(y/q)%n:=by
 have d:((q:Nat):Int)∣((q*n:Nat):Int):=by rw[aP];exact cV _ _
 refine⟨?_,?_⟩
 .rw[<-aW x d,h,aW y d]
 .have e:((q*n:Nat):Int)∣x-y:=bS (aL.mp h);obtain⟨t,ht⟩:=e;rw[aP] at ht;have ex:x=y+q*(n*t):=by rw[<-aK];lia
  rw[ex,iT _ _ J,dr]
theorem IV {a:List Int}{n:Nat}(ha:a.length=n)(hq:0<q):tK (q*n) (ML a q):=fun x y h=>by
 have d:=JD hq h;unfold ML;rw[d.1,om ha _ _ d.2]
theorem Hv {a:List Int}(hn:0<a.length)(hq:0<q)(x:Int):at' (fin a q) x=if x%q=0 then at' a (x/q) else 0:=Gd (fM hq hn) (IV Z hq) x
theorem FC {st v:Int}{n:Nat}(h:(st*v)%((q*n:Nat):Int)=1%((q*n:Nat):Int)):(st*v)%n=1%n/\(st*v)%q=1%q:=by
 have d1:((n:Nat):Int)∣((q*n:Nat):Int):=by rw[aP];exact fq _ _
 have d2:((q:Nat):Int)∣((q*n:Nat):Int):=by rw[aP];exact cV _ _
 exact⟨by rw[<-aW _ d1,h,aW _ d1],by rw[<-aW _ d2,h,aW _ d2]⟩
theorem IJ.fin {n q:Nat}(hn:0<n)(hq:0<q){st v:Int}{a o:List Int}(h:IJ n st a o)(hv:(st*v)%((q*n:Nat):Int)=1%((q*n:Nat):Int)):IJ (q*n) st (fin a q) (fin o q) :=
 ⟨by rw[DT,h.la],by rw[DT,h.lo],fun x=>by
  rw[Hv (by rw[h.lo];exact hn) hq,Hv (by rw[h.la];exact hn) hq];have iq:=(FC hv).2
  by_cases z:x%q=0
  .obtain⟨y,rfl⟩:=Int.dvd_of_emod_eq_zero z;rw[aD z,aD (by rw[aK,jc]),aK,aG _ J,aG _ J,h.at_]
  .rw[ao z,ao fun w=>z ?_];have:(x*st*v)%q=x%q:=by rw[aK,gA,iq,<-gA,bX]
   rw[<-this,gA,w,aY,d8]⟩
end Ld
namespace Pl
theorem VY {m p:Int}(hm:1<=m)(hp:2<=p):∀(k:Nat)(q:Int),(m-q).toNat=k->Pt.Ab m p q->∃q',Pt.BK m p q':=by
 intro k
 induction k using Nat.strongRecOn with
 | ind k ih =>
  intro q hk h
  by_cases d:m%(q*p)=0
  .have h1:=Pt.q1 hp h d;have g:=Pt.Gz hp h.pos;have l:=Pt.Ji hm h1;exact ih _ J _ Z h1
  .exact⟨q,Pt.q2 h d⟩
theorem FG {n:Int}(hn:1<=n):∃ps,Pt.Parts n ps:=by
 have go:∀(k:Nat)(ps:List (Int×Int))(left p:Int),(n+2-p).toNat=k->Pt.xP n ps left p->2<=p->1<=left->left<=n->∃ps,Pt.Parts n ps:=by
  intro k
  induction k using Nat.strongRecOn with
  | ind k ih =>
   intro ps left p hk h p2 l1 ln
   by_cases c:p*p<=left
   .have pl:p<=left:=by have:=aA (show 1<=p by lia) (show 0<=p by lia);lia
    obtain⟨q,hq⟩:=VY l1 p2 _ 1 Z (Pt.q0 left p)
    by_cases g:q > 1
    .have lp:=Pt.Ay l1 hq.inv.dv hq.inv.pos;exact ih _ J _ _ (p+1) Z (Pt.Ib p2 h hq g) J lp.1 J
    .exact ih _ J _ _ (p+1) Z (Pt.FQ h hq g) J l1 ln
   .by_cases g:left > 1
    .exact⟨_,Pt.OZ p2 h c g⟩
    .exact⟨_,Pt.MV h l1 g⟩
 exact go _ [] n 2 Z (Pt.start n) J hn (dY _)
def ds (n:Nat):Nat->List Int
 | 0=>[]
 | k+1=>ds n k++(if ((k:Int)+1)∣(n:Int) then [(k:Int)+1] else [])
noncomputable def pv (n:Nat)(yL:Int):Int:=(((ds n n).filter fun d=>decide (d∣yL)).map fun d=>d*Pt.mu (n/d)).sum
noncomputable def mk (n:Nat)(d:Int):Int×Int:=(d,d*Pt.mu (n/d))
theorem GD (F:Int->Int):∀n:Nat,((List.range n).map fun j:Nat=>F j).sum=Ld.S n F
 | 0=>rfl
 | n+1=>by rw[jB,aO,List.sum_append,GD F n];simp[Ld.S]
end Pl
namespace Rs
variable {ps:List (Int×Int)}{x:Int×Int}
open Pt (Parts rC m9 Row Hk)
theorem WR {a b t:Int}(h:Nat.Coprime a.natAbs b.natAbs)(ha:a∣t)(hb:b∣t):a*b∣t:=by
 rw[<-aX] at ha hb ⊢;rw[aM];exact Nat.Coprime.mul_dvd_of_dvd_of_dvd h ha hb
theorem AH {a b t:Int}(h:Nat.Coprime a.natAbs b.natAbs)(hd:a∣b*t):a∣t:=by
 rw[<-aX] at hd ⊢;rw[aM] at hd;exact d9 h hd
theorem sF {p m:Int}(hp:m9 p)(h:¬p∣m)(e:Nat):Nat.Coprime (p^e).natAbs m.natAbs:=by
 rw[jF];exact iV e (Pt.JE hp h)
theorem mM {n:Int}(hp:Parts n ps)(hx:x∈ps):∃m,n=x.2*m/\n/x.2=m/\¬x.1∣m/\2<=x.2/\x.1∣x.2/\Nat.Coprime x.2.natAbs m.natAbs:=by
 obtain⟨m,e,nd,_⟩:=Pt.uY hx hp.srt hp.row;rw[hp.prd] at e;have row:=hp.row x hx;obtain⟨k,hk⟩:=row.pw;have l:=Pt.sT row;refine⟨m,e,by rw[e];exact aG _ J,nd,J,by rw[hk,bx];exact fq _ _,?_⟩;rw[hk];exact sF row.pr nd _
theorem zf {n:Int}(hp:Parts n ps)(hx:x∈ps):Eh.G (n/x.2) x.2=1:=by
 obtain⟨m,_,e,_,_,_,c⟩:=mM hp hx;rw[e];unfold Eh.G Int.gcd;rw[iO];have:Nat.gcd x.2.natAbs m.natAbs=1:=c;rw[this];rfl
theorem HZ {y:Int×Int}(hx:Row x)(hy:Row y)(ne:x.1≠y.1):Nat.Coprime x.2.natAbs y.2.natAbs:=by
 obtain⟨k,hk⟩:=hx.pw;obtain⟨j,hj⟩:=hy.pw;rw[hk];refine sF hx.pr (fun d=>ne ?_) _;rw[hj] at d;exact Pt.sA hx.pr hy.pr _ d
theorem Dl {t:Int}:∀{ps:List (Int×Int)},(∀x∈ps,Row x)->ps.Pairwise (fun a b=>a.1<b.1)->(∀x∈ps,x.2∣t)->rC ps∣t
 | [],_,_,_=>fY t
 | x::r,row,srt,h=>by
  have ⟨s1,s2⟩:=fG.mp srt;have ih:=Dl (fun y hy=>row y (ar _ hy)) s2 (fun y hy=>h y (ar _ hy));have As:∀{l:List (Int×Int)},(∀y∈l,Row y/\x.1≠y.1)->Nat.Coprime x.2.natAbs (rC l).natAbs:=by
   intro l
   induction l with
   | nil=>intro _;simp[rC]
   | cons y l ih =>
    intro hl;have a:=hl y aq;have b:=ih fun z hz=>hl z (ar _ hz);simp only[rC];rw[aM];exact Nat.Coprime.mul_right (HZ (row x aq) a.1 a.2) b
  exact WR (As fun y hy=>⟨row y (ar _ hy),by have:=s1 y hy;lia⟩) (h x aq) ih
theorem Av {n:Int}(hp:Parts n ps){y:Int×Int}(hx:x∈ps)(hy:y∈ps)(ne:x.1≠y.1):x.2∣n/y.2:=by
 obtain⟨m,e,e',_⟩:=mM hp hy;obtain⟨m',f,_⟩:=mM hp hx;rw[e'];refine AH (HZ (hp.row x hx) (hp.row y hy) ne) ?_;rw[<-e,f];exact cV _ _
structure Sh (n q hole c:Int):Prop where
 lo:0<=c
 hi:c<q
 dv:q∣c*(n/q)-hole
theorem wQ {n q hole u:Int}(hq:0<q)(hu:(n/q*u-1)%q=0):Sh n q hole (hole*u%q):=by
 refine⟨aC _ J,az _ hq,?_⟩;have d1:q∣hole*u-hole*u%q:=Int.dvd_self_sub_emod;have d2:q∣n/q*u-1:=bS hu;have e:hole*u%q*(n/q)-hole=hole*(n/q*u-1)-(hole*u-hole*u%q)*(n/q):=by
  rw[cT,cU,bX];have:hole*(n/q*u)=hole*u*(n/q):=by rw[aK,aB u]
  lia
 rw[e];exact bf (ay d2) (aE d1)
theorem zT {n q h h' c c':Int}(As:Nat.Coprime q.natAbs (n/q).natAbs)(a:Sh n q h c)(b:Sh n q h' c')(e:q∣h-h'):c=c':=by
 have d:q∣n/q*(c-c'):=by
  have:=bQ (bf a.dv b.dv) e;have z:c*(n/q)-h-(c'*(n/q)-h')+(h-h')=n/q*(c-c'):=by
   rw[cT,aB (n/q) c,aB (n/q) c'];lia
  rwa [z] at this
 have d':=AH As d;have z:=aL.mpr (bT d');rwa [aR a.lo a.hi,aR b.lo b.hi] at z
theorem tW {n:Int}(hp:Parts n ps)(hx:x∈ps):Nat.Coprime x.2.natAbs (n/x.2).natAbs:=by
 obtain⟨m,_,e,_,_,_,c⟩:=mM hp hx;rw[e];exact c
def K7 (n:Int)(l:List ((Int×Int)×Int)):Int:=(l.map fun z=>z.2*(n/z.1.2)).sum
theorem E4 {n:Int}(hp:Pt.Parts n ps):(ps.length:Int)<=n:=by
 have key:∀l:List (Int×Int),(∀x∈l,Pt.Row x)->(l.length:Int)<=Pt.rC l:=by
  intro l
  induction l with
  | nil=>intro _;simp[Pt.rC]
  | cons x r ih =>
   intro h;have a:=ih fun y hy=>h y (ar _ hy);have b:=Pt.sT (h x aq);have c:=Pt.qO r fun y hy=>h y (ar _ hy);simp only[Pt.rC,List.length_cons];have:=av (show 2<=x.2 by lia) (show 0<=Pt.rC r by lia);lia
 have:=key ps hp.row;rwa [hp.prd] at this
end Rs
namespace Eb
theorem zQ {a b:Int}(ha:0<=a)(hb:b<=0):a*b<=0:=by
 have:=bE ha (show 0<=-b by lia);rw[fL] at this;lia
def Sg (x y z w:Int):Prop:=(0<=x/\y<=0/\z<=0/\0<=w)\/(x<=0/\0<=y/\0<=z/\w<=0)
theorem Sg.step {x y z w q:Int}(h:Sg x y z w)(hq:0<=q):Sg z w (x-q*z) (y-q*w):=by
 rcases h with ⟨a,b,c,d⟩ | ⟨a,b,c,d⟩
 .have:=zQ hq c;have:=bE hq d;exact .inr ⟨c,d,J,J⟩
 .have:=bE hq c;have:=zQ hq d;exact .inl ⟨c,d,J,J⟩
inductive Tn (A B:Int):Int->Int->Int->Int->Prop where
 | one:Tn A B 1 0 0 1
 | step {x y z w:Int}(q:Int):Tn A B x y z w->0<z*A+w*B->0<=(x-q*z)*A+(y-q*w)*B->(x-q*z)*A+(y-q*w)*B<z*A+w*B->0<=q->Tn A B z w (x-q*z) (y-q*w)
theorem Tn.sg {A B x y z w:Int}(h:Tn A B x y z w):Sg x y z w:=by
 induction h with
 | one=>exact .inl ⟨O,O,O,O⟩
 | step q _ _ _ _ hq ih=>exact ih.step hq
theorem Tn.le {A B x y z w:Int}(h:Tn A B x y z w):z*A+w*B<=B:=by
 induction h with
 | one=>lia
 | step q _ _ _ lt _ ih=>lia
theorem Tn.lt {A B x y z w:Int}(h:Tn A B x y z w)(ne:¬(x=1/\y=0/\z=0/\w=1)):z*A+w*B<B:=by
 cases h with
 | one=>exact absurd ⟨Z,Z,Z,Z⟩ ne
 | step q h _ _ lt _=>have:=h.le;lia
theorem Tn.pos {A B x y z w:Int}(h:Tn A B x y z w)(hA:0<=A)(hB:0<=B):0<=x*A+y*B/\0<=z*A+w*B:=by
 induction h with
 | one=>exact⟨J,J⟩
 | step q _ p n _ _ _=>exact⟨J,n⟩
structure St (one other r0 r1 c0 c1:Int):Prop where
 p0:0<=r0
 p1:0<=r1
 sg:(c0<=0/\0<=c1)\/(0<=c0/\c1<=0)
 m:∃m0 m1:Int,r0=m0*one+c0*other/\r1=m1*one+c1*other/\(m0*c1-m1*c0=1\/m0*c1-m1*c0=-1)
theorem St.start {one other:Int}(h1:0<=one)(h2:0<=other):St one other one other 0 1:=⟨h1,h2,.inl ⟨O,O⟩,1,0,J,J,.inl O⟩
theorem St.step {one other r0 r1 c0 c1 q:Int}(h:St one other r0 r1 c0 c1)(hq:0<=q)(p:0<=r0-q*r1):St one other r1 (r0-q*r1) c1 (c0-q*c1):=by
 obtain⟨p0,p1,sg,m0,m1,e0,e1,d⟩:=h;refine⟨p1,p,?_,m1,m0-q*m1,e1,by grind,?_⟩
 .rcases sg with ⟨a,b⟩ | ⟨a,b⟩
  .have:=bE hq b;exact .inr ⟨b,J⟩
  .have:=zQ hq b;exact .inl ⟨b,J⟩
 .have e:m1*(c0-q*c1)-(m0-q*m1)*c1=-(m0*c1-m1*c0):=by grind
  rw[e];rcases d with d | d<;>rw[d]
  .exact .inr Z
  .exact .inl Z
theorem Tn.st {one other r0 r1 c0 c1 x y z w:Int}(t:Tn r0 r1 x y z w)(h:St one other r0 r1 c0 c1):St one other (x*r0+y*r1) (z*r0+w*r1) (x*c0+y*c1) (z*c0+w*c1):=by
 induction t with
 | one =>
  have e1:1*r0+0*r1=r0:=J;have e2:0*r0+1*r1=r1:=J;have e3:1*c0+0*c1=c0:=J;have e4:0*c0+1*c1=c1:=J;rw[e1,e2,e3,e4];exact h
 | @step x y z w q _ _ n _ hq ih =>
  have e1:(x-q*z)*r0+(y-q*w)*r1=(x*r0+y*r1)-q*(z*r0+w*r1):=by grind
  have e2:(x-q*z)*c0+(y-q*w)*c1=(x*c0+y*c1)-q*(z*c0+w*c1):=by grind
  rw[e1] at n ⊢;rw[e2];exact ih.step hq n
theorem St.Av {one other r0 r1 c0 c1:Int}(h:St one other r0 r1 c0 c1)(h1:0<=one):r0*c1.natAbs+r1*c0.natAbs=one:=by
 obtain⟨p0,p1,sg,m0,m1,e0,e1,d⟩:=h;have e:r0*c1-r1*c0=(m0*c1-m1*c0)*one:=by rw[e0,e1];grind
 rcases sg with ⟨a,b⟩ | ⟨a,b⟩
 .have k1:(c1.natAbs:Int)=c1:=J;have k0:(c0.natAbs:Int)=-c0:=J;rw[k1,k0,fL];have p2:=bE p0 b;have p3:=bE p1 (show 0<=-c0 by lia);rw[fL] at p3;rcases d with d | d<;>rw[d] at e<;>lia
 .have k1:(c1.natAbs:Int)=-c1:=J;have k0:(c0.natAbs:Int)=c0:=J;rw[k1,k0,fL];have p2:=bE p0 (show 0<=-c1 by lia);have p3:=bE p1 a;rw[fL] at p2;rcases d with d | d<;>rw[d] at e<;>lia
theorem err {u v α β H:Int}(h:(0<=u/\v<=0)\/(u<=0/\0<=v))(a0:0<=α)(a1:α<=H)(b0:0<=β)(b1:β<=H){d:Int}(du:(u.natAbs:Int)<=d)(dv:(v.natAbs:Int)<=d):-(d*H)<=u*α+v*β/\u*α+v*β<=d*H:=by
 have H0:0<=H:=J;have key:∀{x y:Int},0<=x->x<=d->0<=y->y<=H->x*y<=d*H:=fun hx hd hy hH=>cS hd hH hy J;rcases h with ⟨a,b⟩ | ⟨a,b⟩
 .have k1:=key a J a0 a1;have k2:=key (show 0<=-v by lia) J b0 b1;have p1:=bE a a0;have p2:=bE (show 0<=-v by lia) b0;rw[iW] at k2 p2;lia
 .have k1:=key b J b0 b1;have k2:=key (show 0<=-u by lia) J a0 a1;have p1:=bE b b0;have p2:=bE (show 0<=-u by lia) a0;rw[iW] at k2 p2;lia
theorem sure {A B a b α β H x y z w:Int}(hH:1<=H)(eA:A=a*H+α)(eB:B=b*H+β)(a0:0<=α)(a1:α<H)(b0:0<=β)(b1:β<H)(t:Tn A B x y z w){q:Int}(hq:0<=q)
  (L0:0<z*A+w*B){d d':Int}(dx:((x-q*z).natAbs:Int)<=d)(dy:((y-q*w).natAbs:Int)<=d)(dz:(z.natAbs:Int)<=d')(dw:(w.natAbs:Int)<=d')
  (n1:d<(x-q*z)*a+(y-q*w)*b)(n2:d+d'<(z*a+w*b)-((x-q*z)*a+(y-q*w)*b)) :
  Tn A B z w (x-q*z) (y-q*w)/\H<=(x-q*z)*A+(y-q*w)*B:=by
 have s:=t.sg;have s2:=s.step hq;have d0:0<=d:=J;have d'0:0<=d':=J;have e1:=err (H:=H-1) (u:=x-q*z) (v:=y-q*w) (α:=α) (β:=β) (d:=d) (by rcases s2 with ⟨_,_,a,b⟩ | ⟨_,_,a,b⟩;exact .inr ⟨a,b⟩;exact .inl ⟨a,b⟩) a0 J b0 J dx dy;have e2:=err (H:=H-1) (u:=z) (v:=w) (α:=α) (β:=β) (d:=d') (by rcases s with ⟨_,_,a,b⟩ | ⟨_,_,a,b⟩;exact .inr ⟨a,b⟩;exact .inl ⟨a,b⟩) a0 J b0 J dz dw;have t1:(x-q*z)*A+(y-q*w)*B=((x-q*z)*a+(y-q*w)*b)*H+((x-q*z)*α+(y-q*w)*β):=by rw[eA,eB];grind
 have t2:z*A+w*B=(z*a+w*b)*H+(z*α+w*β):=by rw[eA,eB];grind
 generalize (x-q*z)*a+(y-q*w)*b=new at *;generalize z*a+w*b=later at *;generalize (x-q*z)*α+(y-q*w)*β=s1 at *;generalize z*α+w*β=s2' at *;have m1:=av (show d+1<=new by lia) (show 0<=H by lia);have m2:=av (show d+d'+1<=later-new by lia) (show 0<=H by lia);have x1:(d+1)*H=d*(H-1)+d+H:=by grind
 have x2:(d+d'+1)*H=d*(H-1)+d'*(H-1)+d+d'+H:=by grind
 rw[x1] at m1;rw[x2,cU] at m2;have big:H<=(x-q*z)*A+(y-q*w)*B:=by rw[t1];lia
 exact⟨.step q t L0 J (by rw[t1,t2];lia) hq,big⟩
theorem J7 {m c d:Int}(u v:Int)(e:m*u-v*c=1\/m*u-v*c=-1)(hm:d∣v)(hc:d∣u):d∣1:=by
 have:d∣m*u-v*c:=bf (ay hc) (aE hm);rcases e with e | e
 .rwa [e] at this
 .rw[e] at this;exact dL.mp this
theorem St.Qe {one other r0 r1 c0 c1:Int}(h:St one other r0 r1 c0 c1)(h1:0<one){s t k:Int}(hs:0<s)(e:s*other=t+k*one)(As:Int.gcd s t=1)
  (small:t.natAbs*c1.natAbs+s*r1<one):(c1=s/\r1=t)\/(c1=-s/\r1=-t):=by
 obtain⟨p0,p1,sg,m0,m1,e0,e1,d⟩:=h;have z1:s*r1-t*c1=(s*m1+c1*k)*one:=by
  have:s*r1=s*m1*one+c1*(s*other):=by rw[e1];grind
  rw[this,e];grind
 have ab:((s*r1-t*c1).natAbs:Int)<one:=by
  have a1:((s*r1-t*c1).natAbs:Int)<=(s*r1).natAbs+(t*c1).natAbs:=J;have a2:((s*r1).natAbs:Int)=s*r1:=by have:=bE (show 0<=s by lia) p1;lia
  have a3:((t*c1).natAbs:Int)=t.natAbs*c1.natAbs:=by rw[aM,aP]
  lia
 have z2:s*m1+c1*k=0:=by
  rw[z1] at ab;rcases Int.lt_trichotomy (s*m1+c1*k) 0 with g | g | g
  .have:=av (show s*m1+c1*k<=-1 by lia) (show 0<=one by lia);lia
  .exact g
  .have:=av (show 1<=s*m1+c1*k by lia) (show 0<=one by lia);lia
 rw[z2,aY] at z1
 -- s divides c1
 have sd:s∣c1:=by
  have:s∣t*c1:=⟨r1,J⟩;have XU:Nat.Coprime s.natAbs t.natAbs:=As;have:=aX.mpr this;rw[aM] at this;exact aX.mp (XU.dvd_of_dvd_mul_left this)
 obtain⟨f,hf⟩:=sd;have er:r1=t*f:=by
  refine aS (show s≠0 by lia) ?_;rw[hf] at z1;grind
 have em:m1=-(f*k):=by
  refine aS (show s≠0 by lia) ?_;rw[hf] at z2;grind
 have f1:f∣1:=J7 (m:=m0) (c:=c0) c1 m1 d (by rw[em];exact dL.mpr (cV ..)) (by rw[hf];exact fq ..);have fb:=aX.mpr f1;have fle:=gu O fb;have f0:f≠0:=fun z=>by rw[z] at f1;have:=gc.mp f1;lia
 have:f=1\/f=-1:=by
  have:f.natAbs<=1:=fle;lia
 rcases this with z | z
 .left;rw[z,bX] at hf er;exact⟨hf,er⟩
 .right;rw[z] at hf er;exact⟨J,J⟩
theorem Tn.c0 {one other r0 r1 c0 c1 x y z w:Int}(t:Tn r0 r1 x y z w)(h:St one other r0 r1 c0 c1)(o1:0<=one)(p0:1<=r0)(ne:¬(x=1/\y=0/\z=0/\w=1)) :
  ((x*c0+y*c1).natAbs:Int)<=one/\1<=x*r0+y*r1/\x*r0+y*r1<=r1:=by
 cases t with
 | one=>exact absurd ⟨Z,Z,Z,Z⟩ ne
 | @step a b _ _ q t p n l hq =>
  have s:=t.st h;have c:=s.Av o1;have le:=t.le;refine⟨?_,J,J⟩;have a1:1<=a*r0+b*r1:=by
   cases t with
   | one=>lia
   | step q t p n l hq=>lia
  have q1:=bE s.p1 (show (0:Int)<=(a*c0+b*c1).natAbs by lia);have q2:=av a1 (show (0:Int)<=(x*c0+y*c1).natAbs by lia);lia
theorem St.c1 {one other r0 r1 c0 c1:Int}(h:St one other r0 r1 c0 c1)(o1:0<=one)(p0:1<=r0):(c1.natAbs:Int)<=one:=by
 have c:=h.Av o1;have q1:=bE h.p1 (show (0:Int)<=c0.natAbs by lia);have q2:=av p0 (show (0:Int)<=c1.natAbs by lia);lia
theorem St.dvd {one other r0 r1 c0 c1:Int}(h:St one other r0 r1 c0 c1)(z:r1=0):r0∣one/\r0∣other:=by
 obtain⟨m0,m1,e0,e1,d⟩:=h.m;rw[z] at e1;constructor
 .rcases d with d | d
  .refine⟨c1,?_⟩;rw[e0];have:(m0*c1-m1*c0)*one=one:=by rw[d,cY]
   have e:c0*(m1*one+c1*other)=0:=by rw[<-e1,bB]
   grind
  .refine⟨-c1,?_⟩;rw[e0];have:(m0*c1-m1*c0)*one=-one:=by rw[d];lia
   have e:c0*(m1*one+c1*other)=0:=by rw[<-e1,bB]
   grind
 .rcases d with d | d
  .refine⟨-m1,?_⟩;rw[e0];have:(m0*c1-m1*c0)*other=other:=by rw[d,cY]
   have e:m0*(m1*one+c1*other)=0:=by rw[<-e1,bB]
   grind
  .refine⟨m1,?_⟩;rw[e0];have:(m0*c1-m1*c0)*other=-other:=by rw[d];lia
   have e:m0*(m1*one+c1*other)=0:=by rw[<-e1,bB]
   grind
theorem St.KZ {one other r0 r1 c0 c1:Int}(h:St one other r0 r1 c0 c1)(lt:r1<one):c1≠0:=fun z=>by
 obtain⟨m0,m1,e0,e1,d⟩:=h.m;rw[z] at e1 d;have u:m1*c0=1\/m1*c0=-1:=jJ;have m1u:m1=1\/m1=-1:=by
  have n:m1.natAbs*c0.natAbs=1:=by
   rw[<-aM];rcases u with u | u<;>rw[u]<;>rfl
  have:=Nat.eq_one_of_mul_eq_one_right n;lia
 have p1:=h.p1;rcases m1u with y | y<;>rw[y] at e1<;>lia
theorem St.back {n st c0 c1:Int}(h:St n (st%n) 1 0 c0 c1)(n1:1<=n):1<=(c0-1)%n+1/\(c0-1)%n+1<=n/\n∣st*((c0-1)%n+1)-1:=by
 have a:=aC (c0-1) (show n≠0 by lia);have b:=az (c0-1) (show 0<n by lia);refine⟨J,J,?_⟩;obtain⟨m0,m1,e0,e1,d⟩:=h.m;have e:(c0-1)%n=c0-1-n*((c0-1)/n):=iP ..;have f:st%n=st-n*(st/n):=iP ..;rw[f] at e0;rw[e];refine⟨-m0+c0*(st/n)-st*((c0-1)/n),?_⟩;grind
end Eb
namespace Lt
variable {one other:List Int}{k:Nat}
abbrev g (v:List Int)(i:Nat):Int:=v.getD i 0
def mix (one:List Int)(a:Int)(other:List Int)(b m:Int):List Int:=List.zipWith (fun x y=>(x*a+y*b)%m) one other
theorem ui {K:Nat}(h1:one.length=K)(h2:other.length=K)(a b m:Int):(mix one a other b m).length=K:=by unfold mix;rw[List.length_zipWith,h1,h2,Nat.min_self]
theorem oT {K:Nat}(h1:one.length=K)(h2:other.length=K)(a b m:Int)(i:Nat):g (mix one a other b m) i=(g one i*a+g other i*b)%m:=by
 unfold g mix;rw[ah,ah,ah,bU]
 by_cases c:i<K
 .rw[ax J,ax J];rfl
 .rw[cH J,cH J];show (0:Int)=(0*a+0*b)%m
  rw[aY,aY,cW,d8]
def dt (k:Nat)(v:List Int)(a:Int->Int):Int:=Ld.S k fun i=>g v i.toNat*a i
theorem nE {m:Int}{F G:Int->Int}:∀{k:Nat},(∀i:Nat,i<k->m∣F i-G i)->m∣Ld.S k F-Ld.S k G
 | 0,_=>by show m∣(0:Int)-0;exact aZ _
 | k+1,h=>by
  have a:=nE (k:=k) fun i hi=>h i (bJ hi);have b:=h k (bO k);show m∣(Ld.S k F+F k)-(Ld.S k G+G k)
  rw[show (Ld.S k F+F k)-(Ld.S k G+G k)=(Ld.S k F-Ld.S k G)+(F k-G k) by lia];exact bQ a b
theorem n4 {m x y:Int}(h:m∣x-y):m∣x↔m∣y:=by
 constructor
 .intro d;have:=bf d h;rwa [show x-(x-y)=y by lia] at this
 .intro d;have:=bQ d h;rwa [show y+(x-y)=x by lia] at this
theorem lG (x m:Int):m∣x%m-x:=by
 have:=bP x m;exact⟨-(x/m),by rw[fL];lia⟩
theorem zw {K:Nat}(h1:one.length=K)(h2:other.length=K)(a b m:Int)(k:Nat)(w:Int->Int):m∣dt k (mix one a other b m) w-(a*dt k one w+b*dt k other w):=by
 have e:a*dt k one w+b*dt k other w=Ld.S k fun i=>a*(g one i.toNat*w i)+b*(g other i.toNat*w i):=by
  unfold dt;rw[Ld.mD,Ld.ku,Ld.ku]
 rw[e];refine nE fun i _=>?_;rw[oT h1 h2];obtain⟨z,hz⟩:=lG (g one (i:Int).toNat*a+g other (i:Int).toNat*b) m;refine⟨z*w i,?_⟩;have:(g one (i:Int).toNat*a+g other (i:Int).toNat*b)%m=m*z+(g one (i:Int).toNat*a+g other (i:Int).toNat*b):=J;rw[this];grind
inductive Ent (m:Int):Nat->List (List Int)->List Int->List (List Int)->Prop where
 | nil {c:Nat}{left:List Int}:Ent m c [] left []
 | skip {c:Nat}{l left:List Int}{ls ls':List (List Int)}:g left c=0->Ent m (c+1) ls left ls'->Ent m c (l::ls) left (l::ls')
 | mix {c:Nat}{l left:List Int}{ls ls':List (List Int)}(α β G:Int):g left c≠0->1<=G->G∣g l c->G∣g left c->α*g l c+β*g left c=G ->
   Ent m (c+1) ls (mix left (g l c/G) l (-(g left c/G)) m) ls'->Ent m c (l::ls) left (mix l α left β m::ls')
def BG (m:Int)(K:Nat):Nat->List (List Int)->Prop
 | _,[]=>iu
 | c,l::ls=>(l.length=K/\(∀i,i<c->g l i=0)/\1<=g l c/\g l c∣m)/\BG m K (c+1) ls
structure Lf (m:Int)(K c:Nat)(left:List Int):Prop where
 len:left.length=K
 zero:∀i,i<c->g left i=0
 AI:∀i,0<=g left i/\g left i<m
theorem Lf.next {m:Int}{K c:Nat}{left:List Int}(h:Lf m K c left)(z:g left c=0):Lf m K (c+1) left :=
 ⟨h.len,fun i hi=>(by rcases Nat.lt_succ_iff_lt_or_eq.mp hi with y | y;exact h.zero i y;rw[y];exact z),h.AI⟩
theorem Lf.mixed {m:Int}(hm:1<=m){K c:Nat}{l left:List Int}(h:Lf m K c left)(ll:l.length=K)(lz:∀i,i<c->g l i=0){G:Int}(hG:1<=G)(d1:G∣g l c)(d2:G∣g left c):Lf m K (c+1) (mix left (g l c/G) l (-(g left c/G)) m):=by
 refine⟨ui h.len ll _ _ _,fun i hi=>?_,fun i=>?_⟩
 .rw[oT h.len ll];rcases Nat.lt_succ_iff_lt_or_eq.mp hi with y | y
  .rw[h.zero i y,lz i y,aY,aY,cW,d8]
  .rw[y];obtain⟨x,hx⟩:=d1;obtain⟨z,hz⟩:=d2;have:g left c*(g l c/G)+g l c * -(g left c/G)=0:=by
    rw[hx,hz,aG _ J,aG _ J];grind
   rw[this,d8]
 .rw[oT h.len ll];exact⟨aC _ J,az _ J⟩
theorem Ent.Cp {m:Int}(hm:1<=m){K:Nat}:∀{c:Nat}{ls:List (List Int)}{left:List Int}{ls':List (List Int)},Ent m c ls left ls'->BG m K c ls->Lf m K c left->BG m K c ls'/\ls'.length=ls.length:=by
 intro c ls left ls' h
 induction h with
 | nil=>intro _ _;exact⟨trivial,Z⟩
 | skip z _ ih =>
  intro t f;have:=ih t.2 (f.next z);exact⟨⟨t.1,this.1⟩,by rw[bj,bj,this.2]⟩
 | @mix c l left ls ls' α β G nz G1 d1 d2 e _ ih =>
  intro t f;obtain⟨⟨ll,lz,l1,lm⟩,t2⟩:=t;have:=ih t2 (f.mixed hm ll lz G1 d1 d2);have rg:=f.AI c;have Gle:G<=g left c:=aU J d2;refine⟨⟨⟨ui ll f.len _ _ _,fun i hi=>?_,?_,?_⟩,this.1⟩,by rw[bj,bj,this.2]⟩
  .rw[oT ll f.len,lz i hi,f.zero i hi,aY,aY,cW,d8]
  .rw[oT ll f.len,show g l c*α+g left c*β=G by rw[aB,aB (g left c)];exact e,aR J J];exact G1
  .rw[oT ll f.len,show g l c*α+g left c*β=G by rw[aB,aB (g left c)];exact e,aR J J];exact bF d1 lm
def E2 (m:Int)(k:Nat)(a:Int->Int)(ls:List (List Int)):Prop:=∀l∈ls,m∣dt k l a
theorem back {m:Int}{K:Nat}{l left:List Int}(ll:l.length=K)(fl:left.length=K){α β x d:Int}(e:α*d+β*x=1)(a:Int->Int)
 (h1:m∣dt k (mix l α left β m) a)(h2:m∣dt k (mix left d l (-x) m) a):m∣dt k l a/\m∣dt k left a:=by
  have a1:=(n4 (zw ll fl α β m k a)).mp h1;have a2:=(n4 (zw fl ll d (-x) m k a)).mp h2;generalize dt k l a=u at *;generalize dt k left a=v at *;constructor
  · have b1:m∣d*(α*u+β*v):=ay a1
    have b2:m∣β*(d*v + -x*u):=ay a2;have:=bf b1 b2;rwa [show d*(α*u+β*v)-β*(d*v + -x*u)=(α*d+β*x)*u by grind,e,Int.one_mul] at this
  · have b1:m∣x*(α*u+β*v):=ay a1
    have b2:m∣α*(d*v + -x*u):=ay a2;have:=bQ b1 b2;rwa [show x*(α*u+β*v)+α*(d*v + -x*u)=(α*d+β*x)*v by grind,e,Int.one_mul] at this
theorem D8 {α β G u v:Int}(hG:1<=G)(d1:G∣u)(d2:G∣v)(e:α*u+β*v=G):α*(u/G)+β*(v/G)=1:=by
 obtain⟨x,rfl⟩:=d1;obtain⟨y,rfl⟩:=d2;rw[aG _ J,aG _ J];refine aS (show G≠0 by lia) ?_;rw[bX];have:G*(α*x+β*y)=α*(G*x)+β*(G*y):=by grind
 rw[this];exact e
theorem Jk {v:List Int}(h:∀i,i<k->g v i=0)(a:Int->Int):dt k v a=0:=by
 unfold dt;rw[Ld.jT (G:=fun _=>0) fun i hi=>by rw[ae,h i hi,aY]];exact Ld.mX k
theorem Ent.kill {m:Int}(hm:1<=m){K:Nat}(a:Int->Int):∀{c:Nat}{ls:List (List Int)}{left:List Int}{ls':List (List Int)},Ent m c ls left ls'->BG m K c ls->Lf m K c left->c+ls.length=k->E2 m k a ls'->E2 m k a ls/\m∣dt k left a:=by
 intro c ls left ls' h
 induction h with
 | nil =>
  intro _ f e _;refine⟨fun l hl=>(nomatch hl),?_⟩;rw[Jk (fun i hi=>f.zero i (by simp at e;lia)) a];exact Int.dvd_zero _
 | @skip c l left ls ls' z _ ih =>
  intro t f e kl;have:=ih t.2 (f.next z) (by rw[bj] at e;lia) fun y hy=>kl y (ar _ hy);refine⟨fun y hy=>?_,this.2⟩;rcases List.mem_cons.mp hy with w | w
  .rw[w];exact kl l aq
  .exact this.1 y w
 | @mix c l left ls ls' α β G nz G1 d1 d2 eb _ ih =>
  intro t f e kl;obtain⟨⟨ll,lz,l1,lm⟩,t2⟩:=t;have r:=ih t2 (f.mixed hm ll lz G1 d1 d2) (by rw[bj] at e;lia) fun y hy=>kl y (ar _ hy);have b:=back (k:=k) ll f.len (D8 G1 d1 d2 eb) a (kl _ aq) r.2;refine⟨fun y hy=>?_,b.2⟩;rcases List.mem_cons.mp hy with w | w
  .rw[w];exact b.1
  .exact r.1 y w
def Jo (m:Int)(k:Nat):Nat->List (List Int)->Prop
 | _,[]=>iu
 | c,l::ls=>(∀a:Int->Int,E2 m k a ls->m∣m/g l c*dt k l a)/\Jo m k (c+1) ls
theorem Ent.how {m:Int}(hm:1<=m){K:Nat}:∀{c:Nat}{ls:List (List Int)}{left:List Int}{ls':List (List Int)},Ent m c ls left ls'->BG m K c ls->Lf m K c left->c+ls.length=k->Jo m k c ls->Jo m k c ls':=by
 intro c ls left ls' h
 induction h with
 | nil=>intro _ _ _ _;trivial
 | @skip c l left ls ls' z en ih =>
  intro t f e hw;refine⟨fun a kl=>?_,ih t.2 (f.next z) (by rw[bj] at e;lia) hw.2⟩;exact hw.1 a (en.kill hm a t.2 (f.next z) (by rw[bj] at e;lia) kl).1
 | @mix c l left ls ls' α β G nz G1 d1 d2 eb en ih =>
  intro t f e hw;obtain⟨⟨ll,lz,l1,lm⟩,t2⟩:=t;have f2:=f.mixed hm ll lz G1 d1 d2;have e2:c+1+ls.length=k:=by rw[bj] at e;lia
  refine⟨fun a kl=>?_,ih t2 f2 e2 hw.2⟩;obtain⟨k1,k2⟩:=en.kill hm a t2 f2 e2 kl;have o:=hw.1 a k1;have rg:=f.AI c;have Gle:G<=g left c:=aU J d2;have eG:g (Lt.mix l α left β m) c=G:=by
   rw[oT ll f.len,show g l c*α+g left c*β=G by rw[aB,aB (g left c)];exact eb,aR J J]
  rw[eG];have q1:=zw ll f.len α β m k a;have q2:=(n4 (zw f.len ll (g l c/G) (-(g left c/G)) m k a)).mp k2;have bz:=D8 G1 d1 d2 eb;obtain⟨d,hd⟩:=d1;obtain⟨x,hx⟩:=d2;obtain⟨r,hr⟩:=lm;have dG:g l c/G=d:=by rw[hd];exact aG _ J
  have xG:g left c/G=x:=by rw[hx];exact aG _ J
  have mr:m/g l c=r:=by rw[hr];exact aG _ J
  have mG:m/G=d*r:=by
   rw[hr,hd,aK];exact aG _ J
  rw[dG,xG] at q2 bz;rw[mr] at o;rw[mG];have q3:m∣d*r*(dt k (Lt.mix l α left β m) a-(α*dt k l a+β*dt k left a)):=ay q1;generalize dt k (Lt.mix l α left β m) a=n at *;generalize dt k l a=u at *;generalize dt k left a=v at *;have q4:m∣r*β*(d*v + -x*u):=ay q2;have:=bQ (bQ q3 q4) o;have ee:d*r*(n-(α*u+β*v))+r*β*(d*v + -x*u)+r*u=d*r*n+r*u*(1-(α*d+β*x)):=by grind
  rw[ee,bz,cA,bB,cW] at this;exact this
end Lt
namespace Mx
variable {M:Int->Int->Int}
open Lt (nE n4 lG)
theorem tZ {m:Int}{F:Int->Int}:∀{k:Nat},(∀i:Nat,i<k->m∣F i)->m∣Ld.S k F
 | 0,_=>aZ _
 | k+1,h=>bQ (tZ (k:=k) fun i hi=>h i (bJ hi)) (h k (bO k))
def vz (p:Int)(k:Nat)(M:Int->Int->Int):Prop:=∀y:Int->Int,(∀t:Nat,t<k->p∣Ld.S k fun s=>y s*M s t)->∀s:Nat,s<k->p∣y s
theorem nW {p a b:Int}(hp:Pt.m9 p)(h:p∣a*b)(na:¬p∣a):p∣b:=by
 have c:=Pt.JE hp na;have h1:=aX.mpr h;rw[aM] at h1;exact aX.mp (d9 c h1)
theorem vz.snoc {p:Int}(hp:Pt.m9 p){k:Nat}(h:vz p k M){x:Int->Int}(z:∀t:Nat,t<k->p∣M k t-Ld.S k fun s=>x s*M s t)(nz:¬p∣M k k-Ld.S k fun s=>x s*M s k):vz p (k+1) M:=fun y hy=>by
 have e:∀t:Int,(Ld.S (k+1) fun s=>y s*M s t)=(Ld.S k fun s=>(y s+y k*x s)*M s t)+y k*(M k t-Ld.S k fun s=>x s*M s t):=fun t=>by
  show (Ld.S k fun s=>y s*M s t)+y k*M k t=_
  have:(Ld.S k fun s=>(y s+y k*x s)*M s t)=(Ld.S k fun s=>y s*M s t)+y k*(Ld.S k fun s=>x s*M s t):=by
   rw[<-Ld.ku,<-Ld.mD];exact Ld.jT fun s _=>by grind
  rw[this];grind
 have h1:=h (fun s=>y s+y k*x s) fun t ht=>by
  have a:=hy t (bJ ht);rw[e] at a;have b:p∣y k*(M k t-Ld.S k fun s=>x s*M s t):=ay (z t ht);have:=bf a b;rwa [show ∀u v:Int,u+v-v=u from fun u v=>by lia] at this
 have yk:p∣y k:=by
  have a:=hy k (bO k);rw[e] at a;have b:p∣Ld.S k fun s=>(y s+y k*x s)*M s k:=tZ fun s hs=>aE (h1 s hs);have c:=bf a b;rw[show ∀u v:Int,u+v-u=v from fun u v=>by lia,aB] at c;exact nW hp c nz
 intro s hs;rcases Nat.lt_succ_iff_lt_or_eq.mp hs with q | q
 .have a:=h1 s q;have b:p∣y k*x s:=aE yk;have:=bf a b;rwa [show y s+y k*x s-y k*x s=y s by lia] at this
 .rw[q];exact yk
theorem vz.zero (p:Int)(M:Int->Int->Int):vz p 0 M:=fun y _ s hs=>absurd hs (bI _)
theorem vz.pow {p:Int}(p1:1<=p){k:Nat}{M:Int->Int->Int}(h:vz p k M):∀(e:Nat)(y:Int->Int),(∀t:Nat,t<k->p^e∣Ld.S k fun s=>y s*M s t)->∀s:Nat,s<k->p^e∣y s
 | 0,y,_,s,_=>by rw[eL];exact fY _
 | e+1,y,hy,s,hs=>by
  have y1:=h y fun t ht=>bF ⟨p^e,by rw[bx,aB]⟩ (hy t ht)
  -- y is p times Oh
  have q:∀s:Nat,s<k->y s=p*(y s/p):=fun s hs=>(cZ (y1 s hs)).symm;have r:=vz.pow p1 h e (fun s=>y s/p) (fun t ht=>by
   obtain⟨c,hc⟩:=hy t ht;have e1:(Ld.S k fun s=>y s*M s t)=p*Ld.S k fun s=>y s/p*M s t:=by
    rw[<-Ld.ku];refine Ld.jT fun s hs=>?_;rw[<-aK,<-q s hs]
   rw[e1] at hc;refine⟨c,aS (show p≠0 by lia) ?_⟩;rw[hc,bx];grind) s hs
  obtain⟨c,hc⟩:=r;refine⟨c,?_⟩;rw[q s hs,hc,bx];grind
def LI (m:Int)(k:Nat)(U M:Int->Int->Int):Prop:=∀i j:Nat,i<k->j<k->m∣(Ld.S k fun t=>U i t*M t j)-if i=j then 1 else 0
theorem mf {k:Nat}{F:Int->Int}{j:Nat}(hj:j<k):(Ld.S k fun t=>F t*if t=(j:Int) then 1 else 0)=F j:=by
 have:(Ld.S k fun t=>F t*if t=(j:Int) then 1 else 0)=Ld.S k fun t=>if t=(j:Int) then F t else 0:=Ld.jT fun t _=>by
  by_cases c:(t:Int)=j
  .rw[aD c,aD c,bX]
  .rw[ao c,ao c,bB]
 rw[this,Ld.yr J,aD J]
theorem LI.right {p:Int}(p1:1<=p){e k:Nat}{U:Int->Int->Int}(h:LI (p^e) k U M)(ind:vz p k M):∀i j:Nat,i<k->j<k->p^e∣(Ld.S k fun t=>M i t*U t j)-if i=j then 1 else 0:=fun i j hi hj=>by
 have key:∀t:Nat,t<k->p^e∣Ld.S k fun s=>((Ld.S k fun u=>M i u*U u s)-if (i:Int)=s then 1 else 0)*M s t:=fun t ht=>by
  -- (M U-1) M=M (U M)-M
  have e1:(Ld.S k fun s=>((Ld.S k fun u=>M i u*U u s)-if (i:Int)=s then 1 else 0)*M s t)=(Ld.S k fun u=>M i u*Ld.S k fun s=>U u s*M s t)-M i t:=by
   have a1:(Ld.S k fun s=>((Ld.S k fun u=>M i u*U u s)-if (i:Int)=s then 1 else 0)*M s t)=(Ld.S k fun s=>Ld.S k fun u=>M i u*(U u s*M s t))+Ld.S k fun s=>-1*(M s t*if s=(i:Int) then 1 else 0):=by
    rw[<-Ld.mD];refine Ld.jT fun s _=>?_;rw[cU,<-Ld.pY];have:(Ld.S k fun u=>M i u*U u s*M s t)=Ld.S k fun u=>M i u*(U u s*M s t):=Ld.jT fun u _=>aK ..;rw[this]
    by_cases c:(s:Int)=i
    .rw[aD c.symm,aD c];lia
    .rw[ao (fun z=>c z.symm),ao c];lia
   rw[a1,Ld.mO,Ld.ku,mf hi];have:(Ld.S k fun u=>Ld.S k fun s=>M i u*(U u s*M s t))=Ld.S k fun u=>M i u*Ld.S k fun s=>U u s*M s t:=Ld.jT fun u _=>by rw[Ld.ku]
   rw[this];lia
  rw[e1];have e2:M i t=Ld.S k fun u=>M i u*if u=(t:Int) then 1 else 0:=(mf ht).symm;rw[e2];refine nE fun u hu=>?_;rw[<-cT];refine ay ?_;have:=h u t hu ht
  by_cases c:u=t
  .rw[aD c] at this;rw[aD J];exact this
  .rw[ao c] at this;rw[ao J];exact this
 have z:p^e∣(Ld.S k fun t=>M i t*U t j)-if (i:Int)=j then 1 else 0:=ind.pow p1 e (fun s=>(Ld.S k fun u=>M i u*U u s)-if (i:Int)=s then 1 else 0) key j hj
 by_cases c:i=j
 .rw[aD c];rwa [aD J] at z
 .rw[ao c];rwa [ao J] at z
end Mx
namespace Pg
theorem wm:∀{M N:Nat}(f:Nat->Nat),M<N->(∀i,i<N->f i<M)->∃i j,i<j/\j<N/\f i=f j
 | 0,N,f,h,lt=>absurd (lt 0 h) (bI _)
 | M+1,0,f,h,lt=>absurd h (bI _)
 | M+1,N+1,f,h,lt=>by
  -- the value of the last one is taken out
  by_cases c:∃i,i<N/\f i=f N
  .obtain⟨i,hi,e⟩:=c;exact⟨i,N,hi,bO N,e⟩
  .let g:Nat->Nat:=fun i=>if f i=M then f N else f i
   have gl:∀i,i<N->g i<M:=fun i hi=>by
    have a:=lt i (bJ hi);have b:=lt N (bO N);show (if f i=M then f N else f i)<M
    by_cases z:f i=M
    .rw[aD z];have:f N≠M:=fun y=>c ⟨i,hi,z.trans y.symm⟩;lia
    .rw[ao z];lia
   obtain⟨i,j,ij,jN,e⟩:=wm g (show M<N by lia) gl;refine⟨i,j,ij,bJ jN,?_⟩;have e':(if f i=M then f N else f i)=if f j=M then f N else f j:=e
   by_cases zi:f i=M
   .by_cases zj:f j=M
    .rw[zi,zj]
    .rw[aD zi,ao zj] at e';exact absurd ⟨j,jN,e'.symm⟩ c
   .by_cases zj:f j=M
    .rw[ao zi,aD zj] at e';exact absurd ⟨i,iM ij jN,e'⟩ c
    .rwa [ao zi,ao zj] at e'
theorem least {P:Nat->Prop}:∀{n:Nat},P n->∃k,P k/\∀j,j<k->¬P j:=by
 intro n
 induction n using Nat.strongRecOn with
 | ind n ih =>
  intro h
  by_cases c:∃j,j<n/\P j
  .obtain⟨j,jn,hj⟩:=c;exact ih j jn hj
  .exact⟨n,h,fun j jn hj=>c ⟨j,jn,hj⟩⟩
def sq (N:Nat):Nat->Nat->Nat
 | 0,x=>x
 | k+1,x=>sq N k (x*x%N)
end Pg
namespace Sg
def enc (R:Nat):Nat->(Nat->Nat)->Nat
 | 0,_=>0
 | k+1,e=>enc R k e+R^k*e k
theorem uO {R:Nat}{e:Nat->Nat}:∀{k:Nat},(∀i,i<k->e i<R)->enc R k e<R^k
 | 0,_=>by rw[g7];exact Nat.one_pos
 | k+1,h=>by
  have a:=uO (k:=k) fun i hi=>h i (bJ hi);have b:=ef (R^k) (show e k+1<=R from h k (bO k));show enc R k e+R^k*e k<R^(k+1)
  rw[dH];rw[Nat.mul_succ] at b;omega
theorem vG {R:Nat}{e f:Nat->Nat}:∀{k:Nat},(∀i,i<k->e i<R)->(∀i,i<k->f i<R)->enc R k e=enc R k f->∀i,i<k->e i=f i
 | 0,_,_,_,i,hi=>absurd hi (bI _)
 | k+1,he,hf,h,i,hi=>by
  have a:=uO (k:=k) fun i hi=>he i (bJ hi);have b:=uO (k:=k) fun i hi=>hf i (bJ hi);have p:0<R^k:=jJ;have h':enc R k e+R^k*e k=enc R k f+R^k*f k:=h;have ek:e k=f k:=by
   have:(enc R k e+R^k*e k)/R^k=(enc R k f+R^k*f k)/R^k:=by rw[h']
   rwa [iX _ _ p,iX _ _ p,js a,js b,dU,dU] at this
  rcases Nat.lt_succ_iff_lt_or_eq.mp hi with z | z
  .refine vG (k:=k) (fun i hi=>he i (bJ hi)) (fun i hi=>hf i (bJ hi)) ?_ i z;rw[ek] at h';omega
  .rw[z];exact ek
def dig (b n j:Nat):Nat:=n/b^j%b
theorem zL {b:Nat}(hb:0<b):∀{k n m:Nat},n<b^k->m<b^k->(∀j,j<k->dig b n j=dig b m j)->n=m
 | 0,n,m,hn,hm,_=>by rw[g7] at hn hm;omega
 | k+1,n,m,hn,hm,h=>by
  have h0:=h 0 (g8 k);unfold dig at h0;rw[g7,Nat.div_one,Nat.div_one] at h0;have h1:n/b=m/b:=by
   refine zL hb (k:=k) ?_ ?_ fun j hj=>?_
   .rw[dH,fR] at hn;exact gQ hn
   .rw[dH,fR] at hm;exact gQ hm
   .have:=h (j+1) (jt hj);unfold dig at this ⊢;rw[iQ,iQ,fR b,<-dH];exact this
  rw[<-gJ n b,<-gJ m b,h0,h1]
theorem xJ {F:Int->Int}{B:Nat}:∀{m:Nat},(∀j:Nat,j<m->(F j).natAbs<=B)->(Ld.S m F).natAbs<=m*B
 | 0,_=>by simp[Ld.S]
 | m+1,h=>by
  have a:=xJ (m:=m) fun j hj=>h j (bJ hj);have b:=h m (bO m);show (Ld.S m F+F m).natAbs<=(m+1)*B
  rw[fQ];omega
def uH (k C:Nat):Nat:=(2*((k+1)*C)+1)^k
theorem Mq (k C:Nat)(hC:1<=C)(a:Nat->Int->Int)(ha:∀i j:Nat,i<k->j<k+1->(a i j).natAbs<=C) :
  ∃x:Int->Int,(∃j:Nat,j<k+1/\x j≠0)/\(∀j:Nat,(x j).natAbs<=uH k C)/\∀i,i<k->Ld.S (k+1) (fun j=>a i j*x j)=0:=by
 obtain⟨T,hT⟩:∃T,T=uH k C:=⟨_,Z⟩;have T1:1<=T:=by rw[hT];unfold uH;exact Nat.pow_pos jJ
 obtain⟨S,hS⟩:∃S,S=(k+1)*C*T:=⟨_,Z⟩
 let v:Nat->Int->Int:=fun n j=>(dig (T+1) n j.toNat:Nat)
 let zgT:Nat->Nat->Int:=fun n i=>Ld.S (k+1) fun j=>a i j*v n j
 have vb:∀n (j:Nat),0<=v n j/\(v n j).natAbs<=T:=fun n j=>by
  have:dig (T+1) n (j:Int).toNat<T+1:=gC _ jJ;show 0<=((dig (T+1) n (j:Int).toNat:Nat):Int)/\(((dig (T+1) n (j:Int).toNat:Nat):Int)).natAbs<=T
  omega
 have Lb:∀n i,i<k->(zgT n i).natAbs<=S:=fun n i hi=>by
  rw[hS,gx];refine xJ fun j hj=>?_;rw[aM];exact cL (ha i j hi hj) (vb n j).2
 let e:Nat->Nat->Nat:=fun n i=>(zgT n i+S).toNat
 have eb:∀n i,i<k->e n i<2*S+1:=fun n i hi=>by
  have:=Lb n i hi;show (zgT n i+S).toNat<2*S+1
  omega
 have many:(2*S+1)^k<(T+1)^(k+1):=by
  have h1:2*S+1<=(2*((k+1)*C)+1)*T:=by
   rw[hS];generalize (k+1)*C=D;rw[Nat.add_mul,Nat.one_mul,gx];omega
  have h2:=gV h1 k;rw[Nat.mul_pow] at h2;have h3:(2*((k+1)*C)+1)^k=T:=by rw[hT];rfl
  rw[h3] at h2;have h4:T*T^k=T^(k+1):=by rw[dH,fR]
  rw[h4] at h2;exact b3 h2 (i6 (bO T) jJ)
 obtain⟨p,q,pq,qN,eq⟩:=Pg.wm (fun n=>enc (2*S+1) k (e n)) many fun n _=>uO (eb n);have same:=vG (eb p) (eb q) eq;refine⟨fun j=>v p j-v q j,?_,fun j=>?_,fun i hi=>?_⟩
 .by_cases c:∃j:Nat,j<k+1/\v p j-v q j≠0
  .exact c
  .exfalso;have:p=q:=zL (b:=T+1) (g8 T) (iM pq qN) qN fun j hj=>by
    have z:v p j-v q j=0:=by
     by_cases y:v p j-v q j=0
     .exact y
     .exact absurd ⟨j,hj,y⟩ c
    have z':((dig (T+1) p (j:Int).toNat:Nat):Int)-((dig (T+1) q (j:Int).toNat:Nat):Int)=0:=z;rw[ae] at z';omega
   omega
 .have a1:=vb p j;have a2:=vb q j;rw[<-hT];show (v p j-v q j).natAbs<=T
  omega
 .have s:=same i hi;have l1:=Lb p i hi;have l2:=Lb q i hi;have s':(zgT p i+S).toNat=(zgT q i+S).toNat:=s;have ll:zgT p i=zgT q i:=jJ;have e1:(Ld.S (k+1) fun j=>a i j*(v p j-v q j))=Ld.S (k+1) fun j=>a i j*v p j + -1*(a i j*v q j):=Ld.jT fun j _=>by rw[cT];omega
  rw[e1,Ld.mD,Ld.ku];show zgT p i + -1*zgT q i=0
  omega
end Sg
namespace Mx
variable {p:Int}{k:Nat}{R M:Int->Int->Int}
def CI (p:Int)(k:Nat)(R:Int->Int->Int):Prop:=∀y:Int->Int,(∀i:Nat,i<k->p∣Ld.S k fun t=>R i t*y t)->∀t:Nat,t<k->p∣y t
theorem CI.ind (h:CI p k R):vz p k (fun s t=>R t s):=fun y hy t ht=>h y (fun i hi=>by
 have:=hy i hi;rwa [Ld.jT (G:=fun t=>R i t*y t) fun t _=>aB ..] at this) t ht
theorem vz.ci (h:vz p k M):CI p k (fun s t=>M t s):=fun y hy t ht=>h y (fun i hi=>by
 have:=hy i hi;rwa [Ld.jT (G:=fun t=>y t*M t i) fun t _=>aB ..] at this) t ht
theorem CI.pow {p:Int}(p1:1<=p){k:Nat}{R:Int->Int->Int}(h:CI p k R)(e:Nat){y:Int->Int}(hy:∀i:Nat,i<k->p^e∣Ld.S k fun t=>R i t*y t):∀t:Nat,t<k->p^e∣y t :=
 h.ind.pow p1 e y fun i hi=>by
  have:=hy i hi;rwa [Ld.jT (G:=fun t=>y t*R i t) fun t _=>aB ..] at this
theorem LI.ci {m:Int}{U:Int->Int->Int}(h:LI m k U M)(pm:p∣m):CI p k M:=fun y hy t ht=>by
 have e1:p∣Ld.S k fun i=>U t i*Ld.S k fun j=>M i j*y j:=tZ fun i hi=>ay (hy i hi);have e2:(Ld.S k fun i=>U t i*Ld.S k fun j=>M i j*y j)=Ld.S k fun j=>y j*Ld.S k fun i=>U t i*M i j:=by
  have a:(Ld.S k fun i=>U t i*Ld.S k fun j=>M i j*y j)=Ld.S k fun i=>Ld.S k fun j=>y j*(U t i*M i j):=Ld.jT fun i _=>by
   rw[<-Ld.ku];exact Ld.jT fun j _=>by grind
  rw[a,Ld.mO];exact Ld.jT fun j _=>by rw[Ld.ku]
 rw[e2] at e1;have e3:p∣(Ld.S k fun j=>y j*Ld.S k fun i=>U t i*M i j)-Ld.S k fun j=>y j*if j=(t:Int) then 1 else 0:=Lt.nE fun j hj=>by
  rw[<-cT];refine ay (bF pm ?_);have:=h t j ht hj
  by_cases c:t=j
  .rw[aD c] at this;rw[aD J];exact this
  .rw[ao c] at this;rw[ao J];exact this
 rw[mf ht] at e3;exact(Lt.n4 e3).mp e1
theorem zo {p:Int}(p2:2<=p):∀e:Nat,(e:Int)<p^e
 | 0=>by rw[eL];decide
 | e+1=>by
  have a:=zo p2 e;have b:=aA p2 (show 0<=p^e by lia);rw[bx];lia
theorem CI.inj (p2:2<=p)(h:CI p k R){y:Int->Int}(hy:∀i:Nat,i<k->(Ld.S k fun t=>R i t*y t)=0)(t:Nat)(ht:t<k):y t=0:=by
 have d:=h.pow J (y t).natAbs (fun i hi=>by rw[hy i hi];exact aZ _) t ht;have b:=zo p2 (y t).natAbs
 by_cases z:y t=0
 .exact z
 .have:=aU (show (0:Int)<(y t).natAbs by lia) (ge.mpr d);lia
theorem Ac (hp:Pt.m9 p){C:Nat}(hC:1<=C){goal:Int->Int}(ci:CI p k R)(hR:∀i t:Nat,i<k->t<k->(R i t).natAbs<=C)(hg:∀i:Nat,i<k->(goal i).natAbs<=C) :
  ∃(x:Int->Int)(s:Int),0<s/\¬p∣s/\(∀i:Nat,i<k->(Ld.S k fun t=>R i t*x t)=s*goal i)/\(∀t:Nat,t<k->(x t).natAbs<=Sg.uH k C)/\s<=Sg.uH k C/\∀d:Int,d∣s->(∀t:Nat,t<k->d∣x t)->d∣1:=by
 have p2:=hp.1;obtain⟨z,⟨j,hj,zj⟩,zb,ze⟩:=Sg.Mq k C hC (fun i j=>if j<k then R i j else -goal i) fun i j hi hj=>by
  show (if (j:Int)<k then R i j else -goal i).natAbs<=C
  by_cases c:(j:Int)<k
  .rw[aD c];exact hR i j hi J
  .rw[ao c,gR];exact hg i hi
 have Oi:∀i:Nat,i<k->(Ld.S k fun t=>R i t*z t)=z k*goal i:=fun i hi=>by
  have a:=ze i hi;have b:(Ld.S (k+1) fun j=>(if j<(k:Int) then R i j else -goal i)*z j)=(Ld.S k fun t=>R i t*z t) + -goal i*z k:=by
   show (Ld.S k fun j=>(if j<(k:Int) then R i j else -goal i)*z j)+(if (k:Int)<k then R i k else -goal i)*z k=_
   rw[ao J,Ld.jT (G:=fun t=>R i t*z t) fun t ht=>by rw[aD J]]
  rw[b] at a;have:-goal i*z k=-(z k*goal i):=by grind
  omega
 have zk:z k≠0:=fun q=>by
  have all:=ci.inj p2 (y:=z) fun i hi=>by rw[Oi i hi,q,aY]
  rcases Nat.lt_succ_iff_lt_or_eq.mp hj with y | y
  .exact zj (all j y)
  .rw[y] at zj;exact zj q
 -- the least XV
 obtain⟨s,⟨s0,x,hx⟩,mn⟩:=Pg.least (P:=fun s:Nat=>0<s/\∃x:Int->Int,∀i:Nat,i<k->(Ld.S k fun t=>R i t*x t)=s*goal i) (n:=(z k).natAbs) ⟨J,by
  rcases Int.lt_or_le (z k) 0 with q | q
  .refine⟨fun t=>-1*z t,fun i hi=>?_⟩;have:(Ld.S k fun t=>R i t*(-1*z t))=-1*Ld.S k fun t=>R i t*z t:=by rw[<-Ld.ku];exact Ld.jT fun t _=>by grind
   rw[this,Oi i hi,show ((z k).natAbs:Int)=-z k by lia];grind
  .refine⟨z,fun i hi=>?_⟩;rw[Oi i hi,show ((z k).natAbs:Int)=z k by lia]⟩
 have sle:s<=(z k).natAbs:=by
  rcases Nat.lt_or_ge (z k).natAbs s with q | q
  .refine absurd ?_ (mn _ q);refine⟨J,?_⟩;rcases Int.lt_or_le (z k) 0 with q | q
   .refine⟨fun t=>-1*z t,fun i hi=>?_⟩;have:(Ld.S k fun t=>R i t*(-1*z t))=-1*Ld.S k fun t=>R i t*z t:=by rw[<-Ld.ku];exact Ld.jT fun t _=>by grind
    rw[this,Oi i hi,show ((z k).natAbs:Int)=-z k by lia];grind
   .refine⟨z,fun i hi=>?_⟩;rw[Oi i hi,show ((z k).natAbs:Int)=z k by lia]
  .exact q
 have one:∀d:Int,d∣(s:Int)->(∀t:Nat,t<k->d∣x t)->d∣1:=fun d ds dx=>by
  have d0:d≠0:=fun q=>by rw[q] at ds;have:=gc.mp ds;lia
  obtain⟨c,hc⟩:=ds
  by_cases q:d.natAbs=1
  .exact aX.mp (by rw[q];exact iR 1)
  .exfalso;have e:s=d.natAbs*c.natAbs:=by have:=cQ Int.natAbs hc;rwa [cC,aM] at this
   have c0:0<c.natAbs:=by rcases Nat.eq_zero_or_pos c.natAbs with w | w;(rw[w,Nat.mul_zero] at e;lia);exact w
   have lt:c.natAbs<s:=by
    rw[e];have:2<=d.natAbs:=J;have:=cB c.natAbs this;lia
   refine mn _ lt ⟨c0,fun t=>(if 0<=c then 1 else -1)*(x t/d),fun i hi=>?_⟩;refine aS d0 ?_;have a:d*(Ld.S k fun t=>R i t*((if 0<=c then 1 else -1)*(x t/d)))=(if 0<=c then 1 else -1)*Ld.S k fun t=>R i t*x t:=by
    rw[<-Ld.ku,<-Ld.ku];refine Ld.jT fun t ht=>?_;have:=cZ (dx t ht);generalize x t/d=u at this;rw[<-this];grind
   rw[a,hx i hi,hc]
   by_cases w:0<=c
   .rw[aD w,show (c.natAbs:Int)=c by lia];grind
   .rw[ao w,show (c.natAbs:Int)=-c by lia];grind
 refine⟨x,s,J,fun q=>?_,hx,fun t ht=>?_,?_,one⟩
 .have:p∣1:=one p q fun t ht=>ci x (fun i hi=>by rw[hx i hi];exact aE q) t ht;have:=aU O this;lia
 .-- z k times x is s times z
  have e:=ci.inj p2 (y:=fun t=>z k*x t-s*z t) (fun i hi=>by
   have:(Ld.S k fun t=>R i t*(z k*x t-s*z t))=z k*(Ld.S k fun t=>R i t*x t) + -s*Ld.S k fun t=>R i t*z t:=by
    rw[<-Ld.ku,<-Ld.ku,<-Ld.mD];exact Ld.jT fun t _=>by grind
   rw[this,hx i hi,Oi i hi];grind) t ht
  have e':z k*x t=s*z t:=by
   have:z k*x t-s*z t=0:=e;lia
  have n:=cQ Int.natAbs e';rw[aM,aM,cC] at n;have b:=cB (z t).natAbs sle;rw[<-n] at b;have:=ix b (show 0<(z k).natAbs by lia);exact bL this (zb t)
 .have:=zb k;lia
variable {U:Int->Int->Int}
def RI (m:Int)(k:Nat)(R U:Int->Int->Int):Prop:=∀i j:Nat,i<k->j<k->m∣(Ld.S k fun t=>R i t*U t j)-if i=j then 1 else 0
theorem lift {m:Int}{k:Nat}{R:Int->Int->Int}(h:RI m k R U){left more:Int->Int}(hm:∀t:Nat,t<k->m∣more t-Ld.S k fun j=>U t j*left j)(i:Nat)(hi:i<k):m∣left i-Ld.S k fun t=>R i t*more t:=by
 have e1:m∣(Ld.S k fun t=>R i t*more t)-Ld.S k fun t=>R i t*Ld.S k fun j=>U t j*left j:=Lt.nE fun t ht=>by
  rw[<-cT];exact ay (hm t ht)
 have e2:(Ld.S k fun t=>R i t*Ld.S k fun j=>U t j*left j)=Ld.S k fun j=>left j*Ld.S k fun t=>R i t*U t j:=by
  have a:(Ld.S k fun t=>R i t*Ld.S k fun j=>U t j*left j)=Ld.S k fun t=>Ld.S k fun j=>left j*(R i t*U t j):=Ld.jT fun t _=>by
   rw[<-Ld.ku];exact Ld.jT fun j _=>by grind
  rw[a,Ld.mO];exact Ld.jT fun j _=>by rw[Ld.ku]
 have e3:m∣(Ld.S k fun j=>left j*Ld.S k fun t=>R i t*U t j)-Ld.S k fun j=>left j*if j=(i:Int) then 1 else 0:=Lt.nE fun j hj=>by
  rw[<-cT];refine ay ?_;have:=h i j hi hj
  by_cases c:i=j
  .rw[aD c] at this;rw[aD J];exact this
  .rw[ao c] at this;rw[ao J];exact this
 rw[mf hi] at e3;rw[e2] at e1;have:=dL.mpr (bQ e1 e3);rwa [show ∀a b c:Int,-(a-b+(b-c))=c-a from fun a b c=>by lia] at this
structure zB (k:Nat)(R:Int->Int->Int)(goal:Int->Int)(scale:Int)(r left:Int->Int):Prop where
 eq:∀i:Nat,i<k->(Ld.S k fun t=>R i t*r t)+scale*left i=goal i
 rg:∀t:Nat,t<k->0<=r t/\r t<scale
theorem zB.start (k:Nat)(R:Int->Int->Int)(goal:Int->Int):zB k R goal 1 (fun _=>0) goal:=⟨fun i _=>by
 rw[Ld.jT (G:=fun _=>0) fun t _=>bB _,Ld.mX,dF,cY],fun t _=>⟨dY 0,O⟩⟩
theorem zB.step {m:Int}(hm:1<=m){k:Nat}{R:Int->Int->Int}(ri:RI m k R U){goal:Int->Int}{scale:Int}(hs:1<=scale){r left:Int->Int}(h:zB k R goal scale r left){more oa:Int->Int}(em:∀t:Nat,t<k->more t=(Ld.S k fun j=>U t j*left j)%m)(el:∀i:Nat,i<k->oa i=(left i-Ld.S k fun t=>R i t*more t)/m) :
  zB k R goal (scale*m) (fun t=>r t+scale*more t) oa:=by
 refine⟨fun i hi=>?_,fun t ht=>?_⟩
 .have d:=lift ri (left:=left) (more:=more) (fun t ht=>by rw[em t ht];exact Lt.lG _ _) i hi;have q:=cZ d;rw[<-el i hi] at q;have a:(Ld.S k fun t=>R i t*(r t+scale*more t))=(Ld.S k fun t=>R i t*r t)+scale*Ld.S k fun t=>R i t*more t:=by
   rw[<-Ld.ku,<-Ld.mD];exact Ld.jT fun t _=>by grind
  rw[a,<-h.eq i hi];generalize (Ld.S k fun t=>R i t*more t)=x at *;rw[aK,q];grind
 .have a:=h.rg t ht;have b0:=aC (Ld.S k fun j=>U t j*left j) (show m≠0 by lia);have b1:=az (Ld.S k fun j=>U t j*left j) (show 0<m by lia);rw[<-em t ht] at b0 b1;have c0:=bE (show 0<=scale by lia) b0;have c1:=aA (show more t<=m-1 by lia) (show 0<=scale by lia);rw[cT,bX] at c1;show 0<=r t+scale*more t/\r t+scale*more t<scale*m
  lia
theorem zB.rest {p:Int}(p1:1<=p){k:Nat}{R:Int->Int->Int}(ci:CI p k R){goal:Int->Int}{e:Nat}{r left:Int->Int}(h:zB k R goal (p^e) r left){x:Int->Int}{s:Int}(hx:∀i:Nat,i<k->(Ld.S k fun t=>R i t*x t)=s*goal i)(t:Nat)(ht:t<k):p^e∣s*r t-x t :=
 ci.pow p1 e (y:=fun t=>s*r t-x t) (fun i hi=>by
  have:(Ld.S k fun t=>R i t*(s*r t-x t))=s*(Ld.S k fun t=>R i t*r t) + -1*Ld.S k fun t=>R i t*x t:=by
   rw[<-Ld.ku,<-Ld.ku,<-Ld.mD];exact Ld.jT fun t _=>by grind
  rw[this,hx i hi,<-h.eq i hi];exact⟨-(s*left i),by grind⟩) t ht
theorem sF {p:Int}(hp:Pt.m9 p){a:Int}(h:¬p∣a):∀(e:Nat){y:Int},p^e∣a*y->p^e∣y
 | 0,y,_=>by rw[eL];exact fY y
 | e+1,y,d=>by
  have p2:=hp.1;have py:p∣y:=nW hp (bF ⟨p^e,by rw[bx,aB]⟩ d) h;obtain⟨z,hz⟩:=py;obtain⟨c,hc⟩:=d;have:p^e∣a*z:=⟨c,aS (show p≠0 by lia) (by
   rw[hz,bx] at hc;have e1:p*(a*z)=a*(p*z):=by grind
   have e2:p*(p^e*c)=p^e*p*c:=by grind
   rw[e1,e2];exact hc)⟩
  obtain⟨w,hw⟩:=sF hp h e this;exact⟨w,by rw[hz,hw,bx];grind⟩
theorem V9 {p:Int}(hp:Pt.m9 p){e:Nat}{s b r x:Int}(s0:0<s)(ps:¬p∣s)(b0:0<b)(bs:b∣s)(hr:p^e∣s*r-x){B H:Int}(sB:s<=B)(xB:(x.natAbs:Int)<=B)(hH:4*B<=H)(HH:H*H<=p^e)
 {r0 r1 c0 c1:Int}(st:Eb.St (p^e) (r*b%p^e) r0 r1 c0 c1)(h0:H<=r0)(h1:r1<H):0<(c1.natAbs:Int)/\b*c1.natAbs∣s/\s∣b*c1.natAbs*x:=by
  have p2:=hp.1;have sc:0<p^e:=by have:=zo (p:=p) J e;lia
  obtain⟨S1,hS⟩:=bs;have S0:0<S1:=by
    rcases Int.lt_or_le 0 S1 with z | z
    · exact z
    · have:=aA z (show 0<=b by lia);lia
  obtain⟨G,hG⟩:∃G:Nat,G=Int.gcd S1 x:=⟨_,Z⟩;obtain⟨s',Kk⟩:(G:Int)∣S1:=by rw[hG];exact Int.gcd_dvd_left ..
  obtain⟨x',CY⟩:(G:Int)∣x:=by rw[hG];exact Int.gcd_dvd_right ..
  have G0:0<(G:Int):=by
    rcases Nat.eq_zero_or_pos G with z | z
    · rw[z] at Kk;have:S1=0:=by rw[Kk];exact aY _
      lia
    · lia
  have ZH:0<s':=by
    rcases Int.lt_or_le 0 s' with z | z
    · exact z
    · have:=aA z (show 0<=(G:Int) by lia);lia
  have As:Int.gcd s' x'=1:=by
    rw[Kk,CY,hV,cC] at hG;have:G*1=G*Int.gcd s' x':=by rw[ib];exact hG
    exact(gg (show 0<G by lia) this).symm
  have pG:¬p∣(G:Int):=fun z=>ps (by rw[hS,Kk];exact ay (aE z))
  -- the QT x'/s' XW this rest
  have d1:p^e∣s'*(r*b%p^e)-x':=by
    have a:p^e∣(G:Int)*(s'*(r*b)-x'):=by
      have:(G:Int)*(s'*(r*b)-x')=s*r-x:=by rw[hS,Kk,CY];grind
      rw[this];exact hr
    have b':=sF hp pG e a;have c:=Lt.lG (r*b) (p^e);have c':p^e∣s'*(r*b%p^e-r*b):=ay c;have:=bQ b' c';rwa [show s'*(r*b)-x'+s'*(r*b%p^e-r*b)=s'*(r*b%p^e)-x' by grind] at this
  obtain⟨k,hk⟩:=d1;have s'S:s'<=S1:=by have:=av (show 1<=(G:Int) by lia) (show 0<=s' by lia);lia
  have Ss:S1<=s:=by have:=av (show 1<=b by lia) (show 0<=S1 by lia);lia
  have xx:(x'.natAbs:Int)<=B:=by
    have:x.natAbs=G*x'.natAbs:=by rw[CY,aM,cC]
    have:=cB x'.natAbs (show 1<=G by lia);lia
  have cr:=st.Av J;have B0:0<=B:=J;have small:(x'.natAbs:Int)*c1.natAbs+s'*r1<p^e:=by
    have q1:=bE st.p1 (show (0:Int)<=c0.natAbs by lia);have q2:H*c1.natAbs<=p^e:=by
      have:=av h0 (show (0:Int)<=c1.natAbs by lia);lia
    have q3:4*((x'.natAbs:Int)*c1.natAbs)<=H*c1.natAbs:=by
      have:=av (show 4*(x'.natAbs:Int)<=H by lia) (show (0:Int)<=c1.natAbs by lia);rw[aK] at this;exact this
    have q4:4*(s'*r1)<=H*H:=by
      have a:=cS (show 4*s'<=H by lia) (show r1<=H by lia) st.p1 (show 0<=H by lia);rw[aK] at a;exact a
    lia
  have rc:=st.Qe sc ZH (show s'*(r*b%p^e)=x'+k*p^e by rw[aB k];lia) As small;have ca:(c1.natAbs:Int)=s':=by rcases rc with ⟨a,_⟩ | ⟨a,_⟩<;>lia
  rw[ca];exact⟨ZH,⟨G,by rw[hS,Kk];grind⟩,⟨x',by rw[hS,Kk,CY];grind⟩⟩
theorem GU {k:Nat}{s b:Int}{x:Int->Int}(s0:0<s)(b0:0<b)(bs:b∣s)(all:∀t:Nat,t<k->s∣b*x t)(one:∀d:Int,d∣s->(∀t:Nat,t<k->d∣x t)->d∣1):b=s:=by
 obtain⟨S1,hS⟩:=bs;have d:S1∣1:=one S1 ⟨b,by rw[hS,aB]⟩ fun t ht=>by
  obtain⟨c,hc⟩:=all t ht;refine⟨c,aS (show b≠0 by lia) ?_⟩;rw[hc,hS,aK]
 have S0:0<S1:=by
  rcases Int.lt_or_le 0 S1 with z | z
  .exact z
  .have:=aA z (show 0<=b by lia);lia
 have:=aU O d;have:S1=1:=J;rw[hS,this,bX]
theorem GZ {n m x:Int}(hm:0<m)(h:m∣n-x)(hx:2*(x.natAbs:Int)<m):(if 2*(n%m)<=m then n%m else n%m-m)=x:=by
 have r0:=aC n (show m≠0 by lia);have r1:=az n hm;have d:m∣n%m-x:=by have:=bQ (Lt.lG n m) h;rwa [show n%m-n+(n-x)=n%m-x by lia] at this
 obtain⟨c,hc⟩:=d;have cc:c=0\/c=1:=by
  rcases Int.lt_or_le c 0 with z | z
  .have:=aA (show c<=-1 by lia) (show 0<=m by lia);lia
  .rcases Int.lt_or_le 1 c with y | y
   .have:=aA (show 2<=c by lia) (show 0<=m by lia);lia
   .lia
 rcases cc with z | z
 .rw[z,bB] at hc;rw[aD J];lia
 .rw[z,bX] at hc;rw[ao J];lia
structure Gj (m:Int)(k:Nat)(M:Int->Int->Int)(c:Nat)(A B:Int->Int->Int):Prop where
 rc:∀i j:Nat,i<k->j<k->m∣A i j-Ld.S k fun t=>B i t*M t j
 diag:∀i j:Nat,i<k->j<c->m∣A i j-if i=j then 1 else 0
 sup:∀i t:Nat,i<k->t<k->c<=t->t≠i->m∣B i t
 own:∀i:Nat,i<k->c<=i->m∣B i i-1
theorem Gj.start {m:Int}{k:Nat}{M:Int->Int->Int}:Gj m k M 0 M (fun i t=>if t=i then 1 else 0):=by
 refine⟨fun i j hi hj=>?_,fun i j _ hj=>absurd hj (bI _),fun i t _ _ _ ne=>?_,fun i _ _=>?_⟩
 .have:(Ld.S k fun t=>(if t=(i:Int) then 1 else 0)*M t j)=M i j:=by
   rw[Ld.jT (G:=fun t=>M t j*if t=(i:Int) then 1 else 0) fun t _=>aB ..,mf (F:=fun t=>M t j) hi]
  rw[this,cA];exact aZ _
 .show m∣if (t:Int)=i then 1 else 0
  rw[ao J];exact aZ _
 .show m∣(if (i:Int)=i then 1 else 0)-1
  rw[aD Z];exact aZ _
theorem GI {F:Int->Int}{c:Nat}:∀{k:Nat},c<=k->(∀t:Nat,c<=t->t<k->F t=0)->Ld.S k F=Ld.S c F
 | 0,h,_=>by
  have:c=0:=J;rw[this]
 | k+1,h,z=>by
  rcases Nat.lt_or_ge k c with y | y
  .have:c=k+1:=J;rw[this]
  .show Ld.S k F+F k=_
   rw[z k y (bO k),cW];exact GI y fun t ht hk=>z t ht (bJ hk)
theorem Gj.Qo {p m:Int}(p2:2<=p)(pm:p∣m){k:Nat}{M:Int->Int->Int}{c:Nat}{A B:Int->Int->Int}(h:Gj m k M c A B)(hc:c<k)(ind:vz p (c+1) M):¬p∣A c c:=fun d=>by
 have key:=ind (fun t=>B c t) (fun j hj=>by
  have a:=bF pm (h.rc c j hc J)
  -- only rows up to c are in it
  have b:p∣(Ld.S k fun t=>B c t*M t j)-Ld.S (c+1) fun t=>B c t*M t j:=by
   have e:(Ld.S (c+1) fun t=>B c t*M t j)=Ld.S k fun t=>if t<(c+1:Nat) then B c t*M t j else 0:=by
    rw[GI (c:=c+1) (F:=fun t=>if t<((c+1:Nat):Int) then B c t*M t j else 0) hc fun t h1 h2=>ao J];exact Ld.jT fun t ht=>by rw[aD J]
   rw[e];refine Lt.nE fun t ht=>?_
   by_cases q:(t:Int)<(c+1:Nat)
   .rw[aD q,cA];exact aZ _
   .rw[ao q,dh];exact aE (bF pm (h.sup c t hc ht J J))
  have aj:p∣A c j:=by
   rcases Nat.lt_succ_iff_lt_or_eq.mp hj with q | q
   .have:=bF pm (h.diag c j hc q);rwa [ao J,dh] at this
   .rw[q];exact d
  have s:=dL.mpr (bQ (bf a aj) b);rwa [show ∀x y z:Int,-(x-y-x+(y-z))=z from fun x y z=>by lia] at s) c (bO c)
 have o:=bF pm (h.own c hc (aH c));have:=bf key o;rw[show B c c-(B c c-1)=1 by lia] at this;have:=aU O this;lia
theorem Gj.step {m:Int}{k:Nat}{M:Int->Int->Int}{c:Nat}{A B A' B':Int->Int->Int}(h:Gj m k M c A B)(hc:c<k){v:Int}(hv:m∣A c c*v-1)
  (a1:∀j:Nat,j<k->m∣A' c j-A c j*v)(b1:∀t:Nat,t<k->m∣B' c t-B c t*v)
  (a2:∀i j:Nat,i<k->i≠c->j<k->m∣A' i j-(A i j-A i c*(A c j*v)))(b2:∀i t:Nat,i<k->i≠c->t<k->m∣B' i t-(B i t-A i c*(B c t*v))):Gj m k M (c+1) A' B':=by
 refine⟨fun i j hi hj=>?_,fun i j hi hj=>?_,fun i t hi ht ct ne=>?_,fun i hi ci=>?_⟩
 .by_cases q:i=c
  .subst q;have r:=h.rc i j hi hj;have e1:m∣(Ld.S k fun t=>B' i t*M t j)-Ld.S k fun t=>v*(B i t*M t j):=Lt.nE fun t ht=>by
    have:=aE (c:=M t j) (b1 t ht);rwa [show (B' i t-B i t*v)*M t j=B' i t*M t j-v*(B i t*M t j) by grind] at this
   rw[Ld.ku] at e1;have r':m∣v*(A i j-Ld.S k fun t=>B i t*M t j):=ay r;have:=bf (bQ (a1 j hj) r') e1;generalize (Ld.S k fun t=>B i t*M t j)=x at *;generalize (Ld.S k fun t=>B' i t*M t j)=y at *;rwa [show A' i j-A i j*v+v*(A i j-x)-(y-v*x)=A' i j-y by grind] at this
  .have r1:=h.rc i j hi hj;have r2:=h.rc c j hc hj;have e1:m∣(Ld.S k fun t=>B' i t*M t j)-Ld.S k fun t=>B i t*M t j + -(A i c*v)*(B c t*M t j):=Lt.nE fun t ht=>by
    have:=aE (c:=M t j) (b2 i t hi q ht);rwa [show (B' i t-(B i t-A i c*(B c t*v)))*M t j=B' i t*M t j-(B i t*M t j + -(A i c*v)*(B c t*M t j)) by grind] at this
   rw[Ld.mD,Ld.ku] at e1;have r3:m∣-(A i c*v)*(A c j-Ld.S k fun t=>B c t*M t j):=ay r2;have:=bf (bQ (bQ (a2 i j hi q hj) r1) r3) e1;generalize (Ld.S k fun t=>B i t*M t j)=x at *;generalize (Ld.S k fun t=>B c t*M t j)=z at *;generalize (Ld.S k fun t=>B' i t*M t j)=y at *;rwa [show A' i j-(A i j-A i c*(A c j*v))+(A i j-x) + -(A i c*v)*(A c j-z)-(y-(x + -(A i c*v)*z))=A' i j-y by grind] at this
 .have Sl:j<k:=J
  by_cases q:i=c
  .subst q;rcases Nat.lt_succ_iff_lt_or_eq.mp hj with y | y
   .have d:=h.diag i j hi y;rw[ao J,dh] at d;rw[ao J,dh];have d':m∣A i j*v:=aE d;have:=bQ (a1 j Sl) d';rwa [show A' i j-A i j*v+A i j*v=A' i j by lia] at this
   .subst y;rw[aD Z];have:=bQ (a1 j Sl) hv;rwa [show A' j j-A j j*v+(A j j*v-1)=A' j j-1 by lia] at this
  .rcases Nat.lt_succ_iff_lt_or_eq.mp hj with y | y
   .have d1:=h.diag i j hi y;have d2:=h.diag c j hc y;rw[ao (show ¬c=j by lia),dh] at d2;have d3:m∣A i c*(A c j*v):=ay (aE d2);have:=bf (bQ (a2 i j hi q Sl) d1) d3;generalize (if i=j then (1:Int) else 0)=x at *;rwa [show A' i j-(A i j-A i c*(A c j*v))+(A i j-x)-A i c*(A c j*v)=A' i j-x by lia] at this
   .subst y;rw[ao q,dh];have d3:m∣A i j*(A j j*v-1):=ay hv;have:=bf (a2 i j hi q Sl) d3;rwa [show A' i j-(A i j-A i j*(A j j*v))-A i j*(A j j*v-1)=A' i j by grind] at this
 .have dc:=h.sup c t hc ht J J
  by_cases q:i=c
  .subst q;have d':m∣B i t*v:=aE dc;have:=bQ (b1 t ht) d';rwa [show B' i t-B i t*v+B i t*v=B' i t by lia] at this
  .have di:=h.sup i t hi ht J ne;have d':m∣A i c*(B c t*v):=ay (aE dc);have:=bf (bQ (b2 i t hi q ht) di) d';rwa [show B' i t-(B i t-A i c*(B c t*v))+B i t-A i c*(B c t*v)=B' i t by lia] at this
 .have q:i≠c:=J;have o:=h.own i hi J;have dc:=h.sup c i hc hi J J;have d':m∣A i c*(B c i*v):=ay (aE dc);have:=bf (bQ (b2 i i hi q hi) o) d';rwa [show B' i i-(B i i-A i c*(B c i*v))+(B i i-1)-A i c*(B c i*v)=B' i i-1 by lia] at this
theorem Gj.end {m:Int}{k:Nat}{M A B:Int->Int->Int}(h:Gj m k M k A B):LI m k B M:=fun i j hi hj=>by
 have a:=h.rc i j hi hj;have b:=h.diag i j hi hj;have:=bf b a;rwa [show ∀x y z:Int,x-y-(x-z)=z-y from fun x y z=>by lia] at this
structure En (p:Int)(w:Nat)(stp:Nat->Int->Int)(k:Nat)(num col:Nat->Nat)(row:Nat->Int->Int):Prop where
 colw:∀t,t<k->col t<w
 one:∀t,t<k->p∣row t (col t)-1
 zero:∀s t,s<t->t<k->p∣row t (col s)
 span:∀t,t<k->∃l:Int->Int,∀c:Nat,c<w->p∣row t c-Ld.S k fun s=>l s*stp (num s.toNat) c
 ind:∀c,c<=k->vz p c (fun s t=>stp (num s.toNat) (col t.toNat))
theorem En.start (p:Int)(w:Nat)(stp:Nat->Int->Int)(num col:Nat->Nat)(row:Nat->Int->Int):En p w stp 0 num col row :=
 ⟨fun t h=>absurd h (bI _),fun t h=>absurd h (bI _),fun s t _ h=>absurd h (bI _),fun t h=>absurd h (bI _),fun c h=>(Nat.le_zero.mp h)▸vz.zero _ _⟩
structure IG (p:Int)(w:Nat)(stp:Nat->Int->Int)(k:Nat)(num col:Nat->Nat)(v:Int->Int)(t:Nat)(left:Int->Int):Prop where
 eq:∃x:Int->Int,∀c:Nat,c<w->p∣left c-(v c-Ld.S k fun s=>x s*stp (num s.toNat) c)
 zero:∀s,s<t->p∣left (col s)
theorem IG.start {p:Int}{w:Nat}{stp:Nat->Int->Int}{k:Nat}{num col:Nat->Nat}{v left:Int->Int}(h:∀c:Nat,c<w->p∣left c-v c):IG p w stp k num col v 0 left :=
 ⟨⟨fun _=>0,fun c hc=>by
  have e:(Ld.S k fun s=>(0:Int)*stp (num s.toNat) c)=0:=by
   rw[Ld.jT (G:=fun _=>0) fun s _=>aY (stp (num (s:Int).toNat) c)];exact Ld.mX k
  show p∣left c-(v c-Ld.S k fun s=>(0:Int)*stp (num s.toNat) c)
  rw[e,dh];exact h c hc⟩,fun s h=>absurd h (bI _)⟩
theorem IG.step {p:Int}{w:Nat}{stp:Nat->Int->Int}{k:Nat}{num col:Nat->Nat}{row:Nat->Int->Int}(cr:En p w stp k num col row){v left oa:Int->Int}{t:Nat}(ht:t<k)(h:IG p w stp k num col v t left)(e:∀c:Nat,c<w->p∣oa c-(left c-left (col t)*row t c)):IG p w stp k num col v (t+1) oa:=by
 obtain⟨x,hx⟩:=h.eq;obtain⟨l,hl⟩:=cr.span t ht;refine⟨⟨fun s=>x s+left (col t)*l s,fun c hc=>?_⟩,fun s hs=>?_⟩
 .have a:=hx c hc;have b:p∣left (col t)*(row t c-Ld.S k fun s=>l s*stp (num s.toNat) c):=ay (hl c hc);have d:(Ld.S k fun s=>(x s+left (col t)*l s)*stp (num s.toNat) c)=(Ld.S k fun s=>x s*stp (num s.toNat) c)+left (col t)*Ld.S k fun s=>l s*stp (num s.toNat) c:=by
   rw[<-Ld.ku,<-Ld.mD];exact Ld.jT fun s _=>by grind
  rw[d];have:=bf (bQ (e c hc) a) b;generalize (Ld.S k fun s=>x s*stp (num s.toNat) c)=y at *;generalize (Ld.S k fun s=>l s*stp (num s.toNat) c)=z at *;rwa [show oa c-(left c-left (col t)*row t c)+(left c-(v c-y))-left (col t)*(row t c-z)=oa c-(v c-(y+left (col t)*z)) by grind] at this
 .have ec:=e (col s) (cr.colw s J);rcases Nat.lt_succ_iff_lt_or_eq.mp hs with q | q
  .have z1:=h.zero s q;have z2:p∣left (col t)*row t (col s):=ay (cr.zero s t q ht);have:=bf (bQ ec z1) z2;rwa [show ∀a b c:Int,a-(b-c)+b-c=a from fun a b c=>by lia] at this
  .subst q;have z2:p∣left (col s)*(row s (col s)-1):=ay (cr.one s ht);have:=bf ec z2;rwa [show oa (col s)-(left (col s)-left (col s)*row s (col s))-left (col s)*(row s (col s)-1)=oa (col s) by grind] at this
theorem En.congr {p:Int}{w:Nat}{stp:Nat->Int->Int}{k:Nat}{num col num' col':Nat->Nat}{row row':Nat->Int->Int}(h:En p w stp k num col row)(e1:∀t,t<k->num' t=num t)(e2:∀t,t<k->col' t=col t)(e3:∀t,t<k->row' t=row t):En p w stp k num' col' row':=by
 refine⟨fun t ht=>by rw[e2 t ht];exact h.colw t ht,fun t ht=>by rw[e3 t ht,e2 t ht];exact h.one t ht,fun s t st ht=>by rw[e3 t ht,e2 s J];exact h.zero s t st ht,fun t ht=>?_,fun c hc y hy s hs=>?_⟩
 .obtain⟨l,hl⟩:=h.span t ht;refine⟨l,fun c hc=>?_⟩;rw[e3 t ht,Ld.jT (G:=fun s=>l s*stp (num s.toNat) c) fun s hs=>by rw[ae,e1 s hs]];exact hl c hc
 .refine h.ind c hc y (fun t ht=>?_) s hs;have:=hy t ht;dsimp only at this ⊢;rw[Ld.jT (G:=fun s=>y s*stp (num s.toNat) (col (t:Int).toNat)) fun s hs=>by rw[ae,ae,e1 s J,e2 t J]] at this;exact this
theorem En.snoc {p:Int}(hp:Pt.m9 p){w:Nat}{stp:Nat->Int->Int}{k:Nat}{num col:Nat->Nat}{row:Nat->Int->Int}(h:En p w stp k num col row){left:Int->Int}(cl:IG p w stp k num col (stp (num k)) k left)(cw:col k<w)(nz:¬p∣left (col k)){u:Int}(hu:p∣left (col k)*u-1)(er:∀c:Nat,c<w->p∣row k c-left c*u):En p w stp (k+1) num col row:=by
 obtain⟨x,hx⟩:=cl.eq;refine⟨fun t ht=>?_,fun t ht=>?_,fun s t st ht=>?_,fun t ht=>?_,fun c hc=>?_⟩
 .rcases Nat.lt_succ_iff_lt_or_eq.mp ht with q | q
  .exact h.colw t q
  .rw[q];exact cw
 .rcases Nat.lt_succ_iff_lt_or_eq.mp ht with q | q
  .exact h.one t q
  .rw[q];have:=bQ (er (col k) cw) hu;rwa [show ∀a b:Int,a-b+(b-1)=a-1 from fun a b=>by lia] at this
 .rcases Nat.lt_succ_iff_lt_or_eq.mp ht with q | q
  .exact h.zero s t st q
  .subst q;have z:p∣left (col s)*u:=aE (cl.zero s st);have:=bQ (er (col s) (h.colw s st)) z;rwa [show ∀a b:Int,a-b+b=a from fun a b=>by lia] at this
 .rcases Nat.lt_succ_iff_lt_or_eq.mp ht with q | q
  .obtain⟨l,hl⟩:=h.span t q;refine⟨fun s=>if s=(k:Int) then 0 else l s,fun c hc=>?_⟩;have e:(Ld.S (k+1) fun s=>(if s=(k:Int) then 0 else l s)*stp (num s.toNat) c)=Ld.S k fun s=>l s*stp (num s.toNat) c:=by
    show (Ld.S k fun s=>(if s=(k:Int) then 0 else l s)*stp (num s.toNat) c)+(if (k:Int)=k then 0 else l k)*stp (num (k:Int).toNat) c=_
    rw[aD Z,aY,cW];exact Ld.jT fun s hs=>by rw[ao J]
   rw[e];exact hl c hc
  .subst q;refine⟨fun s=>if s=(t:Int) then u else -(u*x s),fun c hc=>?_⟩;have e:(Ld.S (t+1) fun s=>(if s=(t:Int) then u else -(u*x s))*stp (num s.toNat) c)=u*(stp (num t) c-Ld.S t fun s=>x s*stp (num s.toNat) c):=by
    show (Ld.S t fun s=>(if s=(t:Int) then u else -(u*x s))*stp (num s.toNat) c)+(if (t:Int)=t then u else -(u*x t))*stp (num (t:Int).toNat) c=_
    rw[aD Z,ae];have:(Ld.S t fun s=>(if s=(t:Int) then u else -(u*x s))*stp (num s.toNat) c)=-u*Ld.S t fun s=>x s*stp (num s.toNat) c:=by
     rw[<-Ld.ku];exact Ld.jT fun s hs=>by rw[ao J];grind
    rw[this];grind
   rw[e];have a:p∣u*(left c-(stp (num t) c-Ld.S t fun s=>x s*stp (num s.toNat) c)):=ay (hx c hc);have:=bQ (er c hc) a;generalize (Ld.S t fun s=>x s*stp (num s.toNat) c)=y at *;rwa [show row t c-left c*u+u*(left c-(stp (num t) c-y))=row t c-u*(stp (num t) c-y) by grind] at this
 .rcases Nat.lt_or_ge c (k+1) with q | q
  .exact h.ind c J
  .have ec:c=k+1:=J;subst ec;refine vz.snoc hp (h.ind k (aH k)) (x:=x) (fun t ht=>?_) fun d=>nz ?_
   .have a:=hx (col t) (h.colw t ht);have b:=cl.zero t ht;have:=bf b a;rw[show ∀a b:Int,a-(a-b)=b from fun a b=>by lia] at this;rw[ae,ae];exact this
   .have a:=hx (col k) cw;rw[ae] at d;exact(Lt.n4 a).mpr d
def Hg (w:Nat)(stp:Nat->Int->Int)(k:Nat)(num:Nat->Nat)(v:Int->Int):Prop:=∃(t:Int->Int)(s:Int),s≠0/\∀c:Nat,c<w->s*v c=Ld.S k fun i=>t i*stp (num i.toNat) c
theorem xJ {F:Int->Int}{B:Int}:∀{k:Nat},(∀i:Nat,i<k->((F i).natAbs:Int)<=B)->((Ld.S k F).natAbs:Int)<=k*B
 | 0,_=>by show ((0:Int).natAbs:Int)<=_;simp
 | k+1,h=>by
  have a:=xJ (k:=k) fun i hi=>h i (bJ hi);have b:=h k (bO k);show ((Ld.S k F+F k).natAbs:Int)<=((k+1:Nat):Int)*B
  rw[ju,eI,cY];omega
section
variable {p:Int}{w k:Nat}{stp:Nat->Int->Int}{num col:Nat->Nat}{row:Nat->Int->Int}
theorem Hg.zero:Hg w stp k num fun _=>0:=⟨fun _=>0,1,O,fun c _=>by
 have:(Ld.S k fun i=>(fun _=>(0:Int)) i*stp (num i.toNat) c)=Ld.S k fun _=>0:=Ld.jT fun i _=>aY _;rw[this,Ld.mX];rfl⟩
theorem Hg.add {u v:Int->Int}(h:Hg w stp k num u)(g:Hg w stp k num v)(a b:Int):Hg w stp k num fun c=>a*u c+b*v c:=by
 obtain⟨t,s,s0,ht⟩:=h;obtain⟨t',s',Oj,Sm⟩:=g;refine⟨fun i=>a*s'*t i+b*s*t' i,s*s',fun z=>(gK.mp z).elim s0 Oj,fun c hc=>?_⟩;have e:(Ld.S k fun i=>(a*s'*t i+b*s*t' i)*stp (num i.toNat) c)=a*s'*(Ld.S k fun i=>t i*stp (num i.toNat) c)+b*s*Ld.S k fun i=>t' i*stp (num i.toNat) c:=by
  rw[<-Ld.ku,<-Ld.ku,<-Ld.mD];exact Ld.jT fun i _=>by grind
 rw[e,<-ht c hc,<-Sm c hc];grind
theorem Hg.all (hp:Pt.m9 p)(cr:En p w stp k num col row){v:Int->Int}(h:Hg w stp k num v)(z:∀t:Nat,t<k->v (col t)=0)(c:Nat)(hc:c<w):v c=0:=by
 obtain⟨t,s,s0,ht⟩:=h;have ci:=(cr.ind k (aH k)).ci;have all:=ci.inj hp.1 (y:=t) fun j hj=>by
  have:=ht (col j) (cr.colw j hj);rw[z j hj,bB] at this;show (Ld.S k fun i=>stp (num i.toNat) (col (j:Int).toNat)*t i)=0
  rw[ae,Ld.jT (G:=fun i=>t i*stp (num i.toNat) (col j)) fun i _=>aB ..];exact this.symm
 have e:=ht c hc;rw[Ld.jT (G:=fun _=>0) fun i hi=>by rw[all i hi,aY],Ld.mX] at e;exact(gK.mp e).resolve_left s0
theorem Hg.weigh {v:Int->Int}(h:Hg w stp k num v){W:Int->Int}(z:∀i:Nat,i<k->(Ld.S w fun c=>stp (num i) c*W c)=0):(Ld.S w fun c=>v c*W c)=0:=by
 obtain⟨t,s,s0,ht⟩:=h;have e1:s*(Ld.S w fun c=>v c*W c)=Ld.S k fun i=>t i*Ld.S w fun c=>stp (num i.toNat) c*W c:=by
  rw[<-Ld.ku];have a:(Ld.S w fun c=>s*(v c*W c))=Ld.S w fun c=>Ld.S k fun i=>t i*(stp (num i.toNat) c*W c):=Ld.jT fun c hc=>by
   rw[<-aK,ht c hc,<-Ld.pY];exact Ld.jT fun i _=>aK ..
  rw[a,Ld.mO];exact Ld.jT fun i _=>by rw[Ld.ku]
 have e2:(Ld.S k fun i=>t i*Ld.S w fun c=>stp (num i.toNat) c*W c)=0:=by
  rw[Ld.jT (G:=fun _=>0) fun i hi=>by rw[ae,z i hi,bB],Ld.mX]
 rw[e2] at e1;exact(gK.mp e1).resolve_left s0
end
def La (k:Nat)(R:Int->Int->Int)(v:Int->Int):Prop:=∃x:Int->Int,∀i:Nat,i<k->(Ld.S k fun t=>R i t*x t)=v i
section
variable {k:Nat}{R:Int->Int->Int}
theorem La.Zb {u v:Int->Int}(h:La k R u)(g:La k R v)(a b:Int):La k R fun i=>a*u i+b*v i:=by
 obtain⟨x,hx⟩:=h;obtain⟨y,hy⟩:=g;refine⟨fun t=>a*x t+b*y t,fun i hi=>?_⟩;have:(Ld.S k fun t=>R i t*(a*x t+b*y t))=a*(Ld.S k fun t=>R i t*x t)+b*Ld.S k fun t=>R i t*y t:=by
  rw[<-Ld.ku,<-Ld.ku,<-Ld.mD];exact Ld.jT fun t _=>by grind
 rw[this,hx i hi,hy i hi]
theorem La.congr {u v:Int->Int}(h:La k R u)(e:∀i:Nat,i<k->u i=v i):La k R v:=by
 obtain⟨x,hx⟩:=h;exact⟨x,fun i hi=>by rw[hx i hi,e i hi]⟩
end
def pr (n:Nat->Nat):Nat->Nat
 | 0=>1
 | j+1=>pr n j*n j
def pt (n:Nat->Nat):Nat->Nat->Nat->Nat
 | 0,_,_=>0
 | k+1,N,i=>if i=k then N/pr n k else pt n k (N%pr n k) i
theorem zq {n:Nat->Nat}(h:∀i,1<=n i):∀k,1<=pr n k
 | 0=>aH 1
 | k+1=>by have:=cL (zq h k) (h k);exact this
theorem GX {n:Nat->Nat}(h:∀i,1<=n i):∀{k N:Nat},N<pr n k->∀i,i<k->pt n k N i<n i
 | 0,_,_,i,hi=>absurd hi (bI _)
 | k+1,N,hN,i,hi=>by
  have p:=zq h k;show (if i=k then N/pr n k else pt n k (N%pr n k) i)<n i
  by_cases c:i=k
  .rw[aD c,c];exact gQ hN
  .rw[ao c];exact GX h (gC _ p) i J
theorem Hx {n:Nat->Nat}(h:∀i,1<=n i):∀{k N M:Nat},N<pr n k->M<pr n k->(∀i,i<k->pt n k N i=pt n k M i)->N=M
 | 0,N,M,hN,hM,_=>by have a:N<1:=hN;have b:M<1:=hM;lia
 | k+1,N,M,hN,hM,e=>by
  have p:=zq h k;have ek:=e k (bO k);have XX:N/pr n k=M/pr n k:=by
   have:(if k=k then N/pr n k else pt n k (N%pr n k) k)=if k=k then M/pr n k else pt n k (M%pr n k) k:=ek;rwa [aD Z,aD Z] at this
  have r:=Hx h (k:=k) (gC N p) (gC M p) fun i hi=>by
   have:(if i=k then N/pr n k else pt n k (N%pr n k) i)=if i=k then M/pr n k else pt n k (M%pr n k) i:=e i (bJ hi);rwa [ao J,ao J] at this
  rw[<-gJ N (pr n k),<-gJ M (pr n k),XX,r]
theorem Dw {f g:Nat->Nat}:∀{k:Nat},(∃i,i<k/\f i≠g i)->∃j,j<k/\f j≠g j/\∀i,j<i->i<k->f i=g i
 | 0,⟨i,hi,_⟩=>absurd hi (bI _)
 | k+1,⟨i,hi,ne⟩=>by
  by_cases c:f k=g k
  .have:i≠k:=fun z=>ne (z▸c);obtain⟨j,hj,nj,all⟩:=Dw (k:=k) ⟨i,J,ne⟩;refine⟨j,J,nj,fun i ji ik=>?_⟩;rcases Nat.lt_succ_iff_lt_or_eq.mp ik with q | q
   .exact all i ji q
   .rw[q];exact c
  .exact⟨k,bO k,c,fun i a b=>by lia⟩
theorem Mt {p:Int}(hp:Pt.m9 p){k C:Nat}(hC:1<=C){R:Int->Int->Int}(ci:CI p k R)(hR:∀i t:Nat,i<k->t<k->(R i t).natAbs<=C) :
  ∃D:Nat,1<=D/\D<=(2*(k*C)+1)^k/\∀v:Int->Int,La k R fun i=>D*v i:=by
 have ex:∀j:Nat,∃n:Nat,1<=n/\(j<k->(∃x:Int->Int,∀i:Nat,j<=i->i<k->(Ld.S k fun t=>R i t*x t)=if i=j then (n:Int) else 0)/\∀m:Nat,m<n->¬(0<m/\∃x:Int->Int,∀i:Nat,j<=i->i<k->(Ld.S k fun t=>R i t*x t)=if i=j then (m:Int) else 0)):=fun j=>by
  by_cases hj:j<k
  .obtain⟨x,s,s0,_,hx,_⟩:=Ac hp hC (goal:=fun i=>if i=(j:Int) then 1 else 0) ci hR (fun i hi=>by
    show (if (i:Int)=j then (1:Int) else 0).natAbs<=C
    by_cases c:(i:Int)=j
    .rw[aD c];exact hC
    .rw[ao c];exact dJ _)
   obtain⟨n,⟨n0,hn⟩,mn⟩:=Pg.least (P:=fun m:Nat=>0<m/\∃x:Int->Int,∀i:Nat,j<=i->i<k->(Ld.S k fun t=>R i t*x t)=if i=j then (m:Int) else 0) (n:=s.toNat) ⟨J,x,fun i _ hi=>by
    have:=hx i hi;rw[this];show s*(if (i:Int)=j then (1:Int) else 0)=_
    by_cases c:i=j
    .rw[aD c,aD J];lia
    .rw[ao c,ao J,bB]⟩
   exact⟨n,n0,fun _=>⟨hn,mn⟩⟩
  .exact⟨1,aH 1,fun h=>absurd h hj⟩
 obtain⟨n,hn⟩:=Classical.axiomOfChoice ex;have n1:∀j,1<=n j:=fun j=>(hn j).1;have kill:∀j:Nat,j<=k->∀v:Int->Int,(∀i:Nat,j<=i->i<k->v i=0)->La k R fun i=>(pr n j:Int)*v i:=by
  intro j
  induction j with
  | zero =>
   intro _ v hv;refine⟨fun _=>0,fun i hi=>?_⟩;have:(Ld.S k fun t=>R i t*(fun _=>(0:Int)) t)=Ld.S k fun _=>0:=Ld.jT fun t _=>bB _;rw[this,Ld.mX];show 0=(pr n 0:Int)*v i
   rw[hv i (dJ i) hi,bB]
  | succ j ih =>
   intro hj v hv;obtain⟨⟨x,hx⟩,_⟩:=(hn j).2 J;have a:=ih J (fun i=>n j*v i-v j*Ld.S k fun t=>R i t*x t) fun i ji ik=>by
    show (n j:Int)*v i-v j*(Ld.S k fun t=>R i t*x t)=0
    rw[hx i ji ik]
    by_cases c:i=j
    .rw[aD c,c,aB];lia
    .rw[ao c,hv i J ik,bB,bB];rfl
   have b:La k R fun i=>Ld.S k fun t=>R i t*x t:=⟨x,fun i _=>Z⟩;refine(a.Zb b 1 (pr n j*v j)).congr fun i _=>?_;show 1*((pr n j:Int)*((n j:Int)*v i-v j*Ld.S k fun t=>R i t*x t))+pr n j*v j*(Ld.S k fun t=>R i t*x t)=((pr n j*n j:Nat):Int)*v i
   rw[aP];grind
 have all:∀v:Int->Int,La k R fun i=>(pr n k:Int)*v i:=fun v=>kill k (aH k) v fun i a b=>by lia
 have p1:=zq n1 k;refine⟨pr n k,p1,?_,all⟩;refine fj fun big=>?_
 -- each point has a zdm one in the box
 have box:∀N:Nat,∃u:Int->Int,(∀i:Nat,i<k->(u i).natAbs<=k*C)/\La k R fun i=>(pt n k N i.toNat:Int)-u i:=fun N=>by
  obtain⟨x,hx⟩:=all fun i=>(pt n k N i.toNat:Int);refine⟨fun i=>(pt n k N i.toNat:Int)-Ld.S k fun t=>R i t*(x t/pr n k),fun i hi=>?_,⟨fun t=>x t/pr n k,fun i hi=>by dsimp only;lia⟩⟩;have e:(pr n k:Int)*((pt n k N (i:Int).toNat:Int)-Ld.S k fun t=>R i t*(x t/pr n k))=Ld.S k fun t=>R i t*(x t%pr n k):=by
   have h1:=hx i hi;dsimp only at h1;rw[cT,<-h1,<-Ld.ku];have:(Ld.S k fun t=>R i t*(x t%pr n k))=(Ld.S k fun t=>R i t*x t) + -1*(Ld.S k fun t=>pr n k*(R i t*(x t/pr n k))):=by
    rw[<-Ld.ku,<-Ld.mD];refine Ld.jT fun t _=>?_;rw[iP];grind
   rw[this];lia
  have b:=Sg.xJ (m:=k) (F:=fun t=>R i t*(x t%pr n k)) (B:=C*pr n k) fun t ht=>by
   show (R i t*(x t%pr n k)).natAbs<=_
   rw[aM];refine cL (hR i t hi ht) ?_;have:=aC (x t) (show (pr n k:Int)≠0 by lia);have:=az (x t) (show 0<(pr n k:Int) by lia);lia
  rw[<-e,aM,cC,<-gx,fR] at b;exact Nat.le_of_mul_le_mul_right b p1
 obtain⟨u,hu⟩:=Classical.axiomOfChoice box;have eb:∀N i:Nat,i<k->(u N i+(k*C:Nat)).toNat<2*(k*C)+1:=fun N i hi=>by
  have:=(hu N).1 i hi;lia
 obtain⟨N,M,NM,Mk,e⟩:=Pg.wm (fun N=>Sg.enc (2*(k*C)+1) k fun i=>(u N i+(k*C:Nat)).toNat) big fun N _=>Sg.uO (eb N);have same:=Sg.vG (eb N) (eb M) e;obtain⟨x,hx⟩:La k R fun i=>(pt n k N i.toNat:Int)-pt n k M i.toNat:=((hu N).2.Zb (hu M).2 1 (-1)).congr fun i hi=>by
  have s:=same i hi;have a:=(hu N).1 i hi;have b:=(hu M).1 i hi;lia
 have dif:∃i,i<k/\pt n k N i≠pt n k M i:=by
  refine aT fun no=>?_;have:=Hx n1 (k:=k) (N:=N) (M:=M) J Mk fun i hi=>aT fun z=>no ⟨i,hi,z⟩;lia
 obtain⟨j,jk,nj,later⟩:=Dw dif;have lN:=GX n1 (k:=k) (N:=N) J j jk;have lM:=GX n1 (k:=k) (N:=M) Mk j jk;have mn:=((hn j).2 jk).2;have CY:∀i:Nat,i<k->(Ld.S k fun t=>R i t*x t)=(pt n k N i:Int)-pt n k M i:=fun i hi=>by
  have:=hx i hi;dsimp only at this;rwa [ae] at this
 rcases Nat.lt_or_gt_of_ne nj with lt | gt
 .refine mn (pt n k M j-pt n k N j) J ⟨J,fun t=>-1*x t,fun i ji ik=>?_⟩;have:(Ld.S k fun t=>R i t*(-1*x t))=-1*Ld.S k fun t=>R i t*x t:=by
   rw[<-Ld.ku];exact Ld.jT fun t _=>by grind
  rw[this,CY i ik]
  by_cases c:i=j
  .rw[aD c,c];lia
  .rw[ao c,later i J ik];lia
 .refine mn (pt n k N j-pt n k M j) J ⟨J,x,fun i ji ik=>?_⟩;rw[CY i ik]
  by_cases c:i=j
  .rw[aD c,c];lia
  .rw[ao c,later i J ik];lia
end Mx
namespace Pq
def bl (a:Nat):Nat->Nat
 | 0=>a
 | k+1=>bl a k*bl (a+2^k) k
theorem CH:∀{k a d:Nat},a<=d->d<a+2^k->d∣bl a k
 | 0,a,d,h1,h2=>by
  have:d=a:=by rw[g7] at h2;lia
  rw[this];exact iR _
 | k+1,a,d,h1,h2=>by
  rw[dH] at h2;show d∣bl a k*bl (a+2^k) k
  rcases Nat.lt_or_ge d (a+2^k) with c | c
  .exact Nat.dvd_mul_right_of_dvd (CH h1 c) _
  .exact iE (CH c J) _
def S:List Nat:=[1000000007,1000000009,1000000021,1000000033,1000000087,1000000093,1000000097,1000000103,1000000123,1000000181,1000000207,1000000223,1000000241,1000000271,1000000289,1000000297,1000000321,1000000349,1000000363,1000000403,1000000409,1000000411,1000000427,1000000433,1000000439,1000000447,1000000453,1000000459,1000000483,1000000513,1000000531,1000000579,1000000607,1000000613,1000000637,1000000663,1000000711,1000000753,1000000787,1000000801,1000000829,1000000861,1000000871,1000000891,1000000901,1000000919,1000000931,1000000933,1000000993,1000001011,1000001021,1000001053,1000001087,1000001099,1000001137,1000001161,1000001203,1000001213,1000001237,1000001263,1000001269,1000001273,1000001279,1000001311,1000001329,1000001333,1000001351,1000001371,1000001393,1000001413,1000001447,1000001449,1000001491,1000001501,1000001531,1000001537,1000001539,1000001581,1000001617,1000001621,1000001633,1000001647,1000001663,1000001677,1000001699,1000001759,1000001773,1000001789,1000001791,1000001801,1000001803,1000001819]
def pd:List Nat->Nat
 | []=>1
 | p::l=>p*pd l
theorem FL:∀{l:List Nat}{p:Nat},p∈l->p∣pd l
 | q::l,p,h=>by
  show p∣q*pd l
  rcases List.mem_cons.mp h with e | e
  .rw[e];exact Nat.dvd_mul_right ..
  .exact iE (FL e) _
theorem As:(Nat.gcd (pd S) (bl 2 15) == 1)=true:=by decide +kernel
theorem AI:(S.all fun p=>decide (1000000007<=p/\p<1000002100))=true:=by decide +kernel
theorem Mw:S.Nodup:=by decide +kernel
theorem FW {p:Nat}(h:p∈S):Pt.m9 (p:Int)/\1000000007<=p/\p<1000002100:=by
 have r:=eU (dE.mp AI p h);refine⟨⟨J,fun d d2 dp dd=>?_⟩,r⟩;have g:Nat.gcd (pd S) (bl 2 15)=1:=eq_of_beq As;have no:∀e:Nat,2<=e->e<2+2^15->¬e∣p:=fun e e2 el ep=>by
  have a:=Nat.dvd_gcd (Nat.dvd_trans ep (FL h)) (CH e2 el);rw[g] at a;have:=gu Nat.one_pos a;lia
 obtain⟨e,rfl⟩:=Int.eq_ofNat_of_zero_le (show 0<=d by lia);have ep:e∣p:=Int.natCast_dvd_natCast.mp dd;obtain⟨f,hf⟩:=ep;have f2:2<=f:=by
  rcases Nat.lt_or_ge f 2 with c | c
  .have:f=0\/f=1:=J;rcases this with z | z
   .rw[z] at hf;lia
   .rw[z,ib] at hf;lia
  .exact c
 rcases Nat.lt_or_ge e (2+2^15) with c | c
 .exact no e J c ⟨f,hf⟩
 .rcases Nat.lt_or_ge f (2+2^15) with c' | c'
  .exact no f f2 c' ⟨e,by rw[hf,fR]⟩
  .have:=cL c c';lia
end Pq
namespace Mx
def Hm (q:Int)(w:Nat)(stp:Nat->Int->Int)(k:Nat)(num:Nat->Nat)(v:Int->Int):Prop:=∃x:Int->Int,∀c:Nat,c<w->q∣v c-Ld.S k fun s=>x s*stp (num s.toNat) c
structure Fr (q:Int)(w n:Nat)(stp:Nat->Int->Int)(k:Nat)(num col:Nat->Nat):Prop where
 colw:∀t,t<k->col t<w
 sI:∀t,t<k->num t<n
 ind:vz q k (fun s t=>stp (num s.toNat) (col t.toNat))
 all:∀j,j<n->Hm q w stp k num (stp j)
def Good (q:Int)(w n:Nat)(stp:Nat->Int->Int)(goal:Int->Int):Prop :=
 ∀k num col,Fr q w n stp k num col->(∀j,j<n->Hg w stp k num (stp j))/\(Hm q w stp k num goal->Hg w stp k num goal)
theorem R8 {q:Int}(hq:2<=q){w m k:Nat}(km:k<m){r f:Nat->Int->Int}(h:∀i,i<m->∃x:Int->Int,∀c:Nat,c<w->q∣r i c-Ld.S k fun s=>x s*f s.toNat c) :
  ∃y:Int->Int,(∃i:Nat,i<m/\¬q∣y i)/\∀c:Nat,c<w->q∣Ld.S m fun i=>y i*r i.toNat c:=by
 have h':∀i,∃x:Int->Int,i<m->∀c:Nat,c<w->q∣r i c-Ld.S k fun s=>x s*f s.toNat c:=fun i=>by
  by_cases c:i<m
  .obtain⟨x,hx⟩:=h i c;exact⟨x,fun _=>hx⟩
  .exact⟨fun _=>0,fun z=>absurd z c⟩
 obtain⟨X,hX⟩:=Classical.axiomOfChoice h';obtain⟨Q,hQ⟩:∃Q:Nat,Q=q.toNat:=⟨_,Z⟩;have qQ:q=Q:=J;have Q2:2<=Q:=J;have eb:∀N s:Nat,s<k->((Ld.S m fun i=>(Sg.dig Q N i.toNat:Int)*X i.toNat s)%q).toNat<Q:=fun N s _=>by
  have a:=aC (Ld.S m fun i=>(Sg.dig Q N i.toNat:Int)*X i.toNat s) (show q≠0 by lia);have b:=az (Ld.S m fun i=>(Sg.dig Q N i.toNat:Int)*X i.toNat s) (show 0<q by lia);lia
 obtain⟨N,M,NM,Mm,e⟩:=Pg.wm (fun N=>Sg.enc Q k fun s=>((Ld.S m fun i=>(Sg.dig Q N i.toNat:Int)*X i.toNat s)%q).toNat) (Nat.pow_lt_pow_right Q2 km) fun N _=>Sg.uO (eb N);have same:=Sg.vG (eb N) (eb M) e;refine⟨fun i=>(Sg.dig Q N i.toNat:Int)-Sg.dig Q M i.toNat,?_,fun c hc=>?_⟩
 .refine aT fun no=>?_;have:N=M:=Sg.zL (b:=Q) J J Mm fun j hj=>by
   have d:q∣(Sg.dig Q N j:Int)-Sg.dig Q M j:=aT fun z=>no ⟨j,hj,by dsimp only;rw[Int.toNat_natCast];exact z⟩;have a:Sg.dig Q N j<Q:=gC _ J;have b:Sg.dig Q M j<Q:=gC _ J
   by_cases z:(Sg.dig Q N j:Int)-Sg.dig Q M j=0
   .lia
   .have:=aU (show (0:Int)<((Sg.dig Q N j:Int)-Sg.dig Q M j).natAbs by lia) (ge.mpr d);lia
  lia
 .have e1:q∣(Ld.S m fun i=>((Sg.dig Q N i.toNat:Int)-Sg.dig Q M i.toNat)*r i.toNat c)-Ld.S m fun i=>((Sg.dig Q N i.toNat:Int)-Sg.dig Q M i.toNat)*Ld.S k fun s=>X i.toNat s*f s.toNat c:=Lt.nE fun i hi=>by
   rw[ae,<-cT];exact ay (hX i hi c hc)
  refine(Lt.n4 e1).mpr ?_;have e2:(Ld.S m fun i=>((Sg.dig Q N i.toNat:Int)-Sg.dig Q M i.toNat)*Ld.S k fun s=>X i.toNat s*f s.toNat c)=Ld.S k fun s=>(Ld.S m fun i=>((Sg.dig Q N i.toNat:Int)-Sg.dig Q M i.toNat)*X i.toNat s)*f s.toNat c:=by
   rw[Ld.jT (G:=fun i=>Ld.S k fun s=>((Sg.dig Q N i.toNat:Int)-Sg.dig Q M i.toNat)*X i.toNat s*f s.toNat c) fun i _=>by
    rw[<-Ld.ku];exact Ld.jT fun s _=>by grind]
   rw[Ld.mO];exact Ld.jT fun s _=>by rw[Ld.pY]
  rw[e2];refine tZ fun s hs=>aE ?_;have z:=same s hs;have e3:(Ld.S m fun i=>((Sg.dig Q N i.toNat:Int)-Sg.dig Q M i.toNat)*X i.toNat s)=(Ld.S m fun i=>(Sg.dig Q N i.toNat:Int)*X i.toNat s) + -1*Ld.S m fun i=>(Sg.dig Q M i.toNat:Int)*X i.toNat s:=by
   rw[<-Ld.ku,<-Ld.mD];exact Ld.jT fun i _=>by grind
  rw[e3];have a:=aC (Ld.S m fun i=>(Sg.dig Q N i.toNat:Int)*X i.toNat s) (show q≠0 by lia);have b:=aC (Ld.S m fun i=>(Sg.dig Q M i.toNat:Int)*X i.toNat s) (show q≠0 by lia);generalize (Ld.S m fun i=>(Sg.dig Q N i.toNat:Int)*X i.toNat s)=A at *;generalize (Ld.S m fun i=>(Sg.dig Q M i.toNat:Int)*X i.toNat s)=B at *;have ab:A%q=B%q:=J;rw[show A + -1*B=A-B by lia];exact bS (by rw[eM,ab,cA,d8])
theorem both {p:Int}(hp:Pt.m9 p){k C:Nat}(hC:1<=C){M:Int->Int->Int}(ind:vz p k M)(hM:∀i t:Nat,i<k->t<k->(M i t).natAbs<=C) :
  ∃D:Nat,1<=D/\D<=(2*(k*C)+1)^k/\(∀v:Int->Int,La k (fun s t=>M t s) fun i=>D*v i)/\∀v:Int->Int,La k M fun i=>D*v i:=by
 obtain⟨D,D1,Db,al⟩:=Mt hp hC ind.ci fun i t hi ht=>hM t i ht hi;refine⟨D,D1,Db,al,fun v=>?_⟩
 -- the weights that single one row out
 have ex:∀j:Nat,∃x:Int->Int,∀t:Nat,t<k->(Ld.S k fun i=>M i t*x i)=D*if t=j then 1 else 0:=fun j=>by
  obtain⟨x,hx⟩:=al fun t=>if t=(j:Int) then 1 else 0;refine⟨x,fun t ht=>?_⟩;have:=hx t ht;dsimp only at this;rw[this]
  by_cases c:t=j
  .rw[aD c,aD J]
  .rw[ao c,ao J]
 obtain⟨X,hX⟩:=Classical.axiomOfChoice ex;have key:∀l i:Nat,l<k->i<k->(Ld.S k fun j=>M l j*X j.toNat i)=D*if i=l then 1 else 0:=fun l i hl hi=>by
  have z:=ind.ci.inj hp.1 (y:=fun i=>(Ld.S k fun j=>M l j*X j.toNat i)-D*if i=(l:Int) then 1 else 0) (fun t ht=>by
   show (Ld.S k fun i=>M i t*((Ld.S k fun j=>M l j*X j.toNat i)-D*if i=(l:Int) then 1 else 0))=0
   have a:(Ld.S k fun i=>M i t*((Ld.S k fun j=>M l j*X j.toNat i)-D*if i=(l:Int) then 1 else 0))=(Ld.S k fun i=>Ld.S k fun j=>M l j*(M i t*X j.toNat i)) + -D*Ld.S k fun i=>M i t*if i=(l:Int) then 1 else 0:=by
    rw[<-Ld.ku,<-Ld.mD];refine Ld.jT fun i _=>?_;have:(Ld.S k fun j=>M l j*(M i t*X j.toNat i))=M i t*Ld.S k fun j=>M l j*X j.toNat i:=by rw[<-Ld.ku];exact Ld.jT fun j _=>by grind
    rw[this];grind
   rw[a,mf hl,Ld.mO];have b:(Ld.S k fun j=>Ld.S k fun i=>M l j*(M i t*X j.toNat i))=Ld.S k fun j=>M l j*D*if j=(t:Int) then 1 else 0:=Ld.jT fun j hj=>by
    rw[Ld.ku,ae,hX j t ht]
    by_cases c:t=j
    .rw[aD c,aD J];grind
    .rw[ao c,ao J];grind
   rw[b,mf (F:=fun j=>M l j*D) ht];grind) i hi
  by_cases c:i=l
  .rw[aD c];rw[aD J] at z;lia
  .rw[ao c];rw[ao J] at z;lia
 refine⟨fun j=>Ld.S k fun i=>X j.toNat i*v i,fun l hl=>?_⟩;have a:(Ld.S k fun j=>M l j*Ld.S k fun i=>X j.toNat i*v i)=Ld.S k fun i=>Ld.S k fun j=>M l j*X j.toNat i*v i:=by
  rw[Ld.mO];exact Ld.jT fun j _=>by rw[<-Ld.ku];exact Ld.jT fun i _=>by grind
 rw[a];have b:(Ld.S k fun i=>Ld.S k fun j=>M l j*X j.toNat i*v i)=Ld.S k fun i=>D*v i*if i=(l:Int) then 1 else 0:=Ld.jT fun i hi=>by
  rw[Ld.pY,key l i hl hi]
  by_cases c:i=l
  .rw[aD c,aD J];grind
  .rw[ao c,ao J];grind
 rw[b,mf (F:=fun i=>D*v i) hl]
theorem La.ind {q:Int}(hq:Pt.m9 q){k:Nat}{M:Int->Int->Int}{D:Int}(h:∀v:Int->Int,La k M fun i=>D*v i)(nd:¬q∣D):vz q k M:=fun y hy s hs=>by
 obtain⟨x,hx⟩:=h fun i=>if i=(s:Int) then 1 else 0;have e:(Ld.S k fun t=>x t*Ld.S k fun i=>y i*M i t)=D*y s:=by
  have a:(Ld.S k fun t=>x t*Ld.S k fun i=>y i*M i t)=Ld.S k fun i=>y i*Ld.S k fun t=>M i t*x t:=by
   rw[Ld.jT (G:=fun t=>Ld.S k fun i=>y i*(M i t*x t)) fun t _=>by rw[<-Ld.ku];exact Ld.jT fun i _=>by grind];rw[Ld.mO];exact Ld.jT fun i _=>by rw[Ld.ku]
  rw[a,Ld.jT (G:=fun i=>D*y i*if i=(s:Int) then 1 else 0) fun i hi=>by rw[hx i hi];grind];exact mf (F:=fun i=>D*y i) hs
 have d:q∣D*y s:=by rw[<-e];exact tZ fun t ht=>ay (hy t ht)
 exact nW hq d nd
section
variable {k:Nat}{num col:Nat->Nat}
variable {w n:Nat}{stp:Nat->Int->Int}
theorem Fr.EM {q:Int}(hq:Pt.m9 q)(F:Fr q w n stp k num col):k<=n/\k<=w:=by
 constructor
 .refine fj fun lt=>?_;obtain⟨y,⟨i,hi,ny⟩,hy⟩:=R8 hq.1 (w:=w) lt (r:=fun i=>stp (num i)) (f:=stp) fun i hi=>⟨fun s=>if s=(num i:Int) then 1 else 0,fun c hc=>by
   rw[Ld.jT (G:=fun s=>stp s.toNat c*if s=(num i:Int) then 1 else 0) fun s _=>by grind,mf (F:=fun s=>stp s.toNat c) (F.sI i hi)];rw[ae,cA];exact aZ _⟩
  exact ny (F.ind y (fun t ht=>by dsimp only;rw[Int.toNat_natCast];exact hy (col t) (F.colw t ht)) i hi)
 .refine fj fun lt=>?_;obtain⟨y,⟨i,hi,ny⟩,hy⟩:=R8 hq.1 (w:=w) lt (r:=fun i=>stp (num i)) (f:=fun s c=>if (s:Int)=c then 1 else 0) fun i hi=>⟨fun s=>stp (num i) s,fun c hc=>by
   rw[Ld.jT (G:=fun s=>stp (num i) s*if s=(c:Int) then 1 else 0) fun s _=>by rw[ae],mf (F:=fun s=>stp (num i) s) hc];rw[cA];exact aZ _⟩
  exact ny (F.ind y (fun t ht=>by dsimp only;rw[Int.toNat_natCast];exact hy (col t) (F.colw t ht)) i hi)
theorem Br {q:Int}(hq:Pt.m9 q){k':Nat}{num' col':Nat->Nat}{D:Int}(cw:∀t,t<k->col t<w)(nn:∀t,t<k->num t<n)(h:∀v:Int->Int,La k (fun s t=>stp (num s.toNat) (col t.toNat)) fun i=>D*v i)(nd:¬q∣D)(F:Fr q w n stp k' num' col'):k<=k':=by
 refine fj fun lt=>?_;obtain⟨y,⟨i,hi,ny⟩,hy⟩:=R8 hq.1 (w:=w) lt (r:=fun i=>stp (num i)) (f:=fun s=>stp (num' s)) fun i hi=>F.all (num i) (nn i hi);exact ny (La.ind hq h nd y (fun t ht=>by dsimp only;rw[Int.toNat_natCast];exact hy (col t) (cw t ht)) i hi)
theorem Qi {q:Int}(hq:Pt.m9 q){k':Nat}{num' col':Nat->Nat}{D:Int}(cw:∀t,t<k->col t<w)(nn:∀t,t<k->num t<n)(h:∀v:Int->Int,La k (fun s t=>stp (num s.toNat) (col t.toNat)) fun i=>D*v i)(F:Fr q w n stp k' num' col')(kk:k'<=k)
 {v:Int->Int}(hv:Hm q w stp k' num' v){s:Int}{t:Int->Int}(ht:∀i:Nat,i<k->(Ld.S k fun j=>stp (num j.toNat) (col i)*t j)=s*v (col i)){c:Nat}(hc:c<w):q∣D*(s*v c-Ld.S k fun i=>t i*stp (num i.toNat) c):=by
  refine aT fun nd=>?_;have nD:¬q∣D:=fun z=>nd (aE z);have nG:¬q∣s*v c-Ld.S k fun i=>t i*stp (num i.toNat) c:=fun z=>nd (ay z);have ind:=La.ind hq h nD;obtain⟨y,⟨i,hi,ny⟩,hy⟩:=R8 hq.1 (w:=w) (show k'<k+1 by lia) (r:=fun i=>if i<k then stp (num i) else v) (f:=fun s=>stp (num' s)) fun i hi=>by
    by_cases z:i<k
    · rw[aD z];exact F.all (num i) (nn i z)
    · rw[ao z];exact hv
  have CW:∀c:Nat,c<w->q∣(Ld.S k fun i=>y i*stp (num i.toNat) c)+y k*v c:=fun c hc=>by
    have a:=hy c hc;have e:(Ld.S (k+1) fun i=>y i*(if i.toNat<k then stp (num i.toNat) else v) c)=(Ld.S k fun i=>y i*stp (num i.toNat) c)+y k*v c:=by
      show (Ld.S k fun i=>y i*(if i.toNat<k then stp (num i.toNat) else v) c)+y k*(if (k:Int).toNat<k then stp (num (k:Int).toNat) else v) c=_
      rw[ao J,Ld.jT (G:=fun i=>y i*stp (num i.toNat) c) fun i hi=>by rw[aD J]]
    rwa [e] at a
  have sp:∀c:Nat,(Ld.S k fun i=>(s*y i+y k*t i)*stp (num i.toNat) c)=s*(Ld.S k fun i=>y i*stp (num i.toNat) c)+y k*Ld.S k fun i=>t i*stp (num i.toNat) c:=fun c=>by
    rw[<-Ld.ku,<-Ld.ku,<-Ld.mD];exact Ld.jT fun i _=>by grind
  have near:=ind (fun i=>s*y i+y k*t i) fun j hj=>by
    have a:=ay (a:=q) (b:=s) (CW (col j) (cw j hj));have b:=ht j hj;dsimp only;rw[ae,sp];rw[Ld.jT (G:=fun i=>t i*stp (num i.toNat) (col j)) fun i _=>aB ..] at b;rw[b];rwa [show s*((Ld.S k fun i=>y i*stp (num i.toNat) (col j))+y k*v (col j))=s*(Ld.S k fun i=>y i*stp (num i.toNat) (col j))+y k*(s*v (col j)) by grind] at a
  have yk:q∣y k:=by
    have a:=ay (a:=q) (b:=s) (CW c hc);have b:q∣Ld.S k fun i=>(s*y i+y k*t i)*stp (num i.toNat) c:=tZ fun i hi=>aE (near i hi);rw[sp] at b;have d:=bf a b;generalize (Ld.S k fun i=>y i*stp (num i.toNat) c)=Y at *;generalize (Ld.S k fun i=>t i*stp (num i.toNat) c)=T at *;rw[show s*(Y+y k*v c)-(s*Y+y k*T)=(s*v c-T)*y k by grind] at d;exact nW hq d nG
  have yi:=ind y fun j hj=>by
    have a:=CW (col j) (cw j hj);have b:q∣y k*v (col j):=aE yk;have:=bf a b;rw[show ∀a b:Int,a+b-b=a from fun a b=>by lia] at this;dsimp only;rw[ae];exact this
  rcases Nat.lt_succ_iff_lt_or_eq.mp hi with z | z
  · exact ny (yi i z)
  · rw[z] at ny;exact ny yk
theorem res {p:Int}(hp:Pt.m9 p){C:Nat}(hC:1<=C)(F:Fr p w n stp k num col)(hs:∀(j:Nat)(c:Nat),j<n->c<w->(stp j c).natAbs<=C){v:Int->Int}(hv:∀c:Nat,c<w->(v c).natAbs<=C)(no:¬Hg w stp k num v) :
  ∃(t:Int->Int)(s:Int)(c:Nat),c<w/\(∀i:Nat,i<k->(Ld.S k fun j=>stp (num j.toNat) (col i)*t j)=s*v (col i))/\(s*v c-Ld.S k fun i=>t i*stp (num i.toNat) c)≠0/\((s*v c-Ld.S k fun i=>t i*stp (num i.toNat) c).natAbs:Int)<=(k+1:Nat)*(Sg.uH k C*C):=by
 obtain⟨t,s,s0,ps,ht,tb,sb,_⟩:=Ac hp hC (goal:=fun i=>v (col i.toNat)) F.ind.ci (fun i j hi hj=>by
  show (stp (num (j:Int).toNat) (col (i:Int).toNat)).natAbs<=C
  rw[ae,ae];exact hs _ (col i) (F.sI j hj) (F.colw i hi)) (fun i hi=>by
  show (v (col (i:Int).toNat)).natAbs<=C
  rw[ae];exact hv (col i) (F.colw i hi))
 have Sm:∀i:Nat,i<k->(Ld.S k fun j=>stp (num j.toNat) (col i)*t j)=s*v (col i):=fun i hi=>by
  have:=ht i hi;rwa [ae] at this
 have ex:∃c:Nat,c<w/\(s*v c-Ld.S k fun i=>t i*stp (num i.toNat) c)≠0:=aT fun z=>no ⟨t,s,J,fun c hc=>by
  have:(s*v c-Ld.S k fun i=>t i*stp (num i.toNat) c)=0:=aT fun y=>z ⟨c,hc,y⟩;lia⟩
 obtain⟨c,hc,nz⟩:=ex;refine⟨t,s,c,hc,Sm,nz,?_⟩;have T0:(0:Int)<=Sg.uH k C:=J;have a:((s*v c).natAbs:Int)<=Sg.uH k C*C:=by
  rw[aM,aP];exact cS J (by have:=hv c hc;lia) J T0
 have b:((Ld.S k fun i=>t i*stp (num i.toNat) c).natAbs:Int)<=k*(Sg.uH k C*C):=xJ fun i hi=>by
  rw[aM,aP,ae];exact cS (by have:=tb i hi;lia) (by have:=hs _ c (F.sI i hi) hc;lia) J T0
 rw[ju,eI,cY];lia
theorem KM {α:Type}(f:α->Nat):∀{l:List α},l≠[]->∃a,a∈l/\∀b,b∈l->f b<=f a
 | [],h=>absurd Z h
 | [a],_=>⟨a,aq,fun b hb=>by rw[bw.mp hb];exact aH _⟩
 | a::b::l,_=>by
  obtain⟨x,hx,mx⟩:=KM f (l:=b::l) jH;rcases Nat.lt_or_ge (f a) (f x) with c | c
  .exact⟨x,ar _ hx,fun y hy=>(fD.mp hy).elim (fun e=>by rw[e];lia) (mx y)⟩
  .exact⟨a,aq,fun y hy=>(fD.mp hy).elim (fun e=>by rw[e];lia) fun h=>by have:=mx y h;lia⟩
theorem Hi:∀{l:List Nat}{x:Int},l.Nodup->(∀q,q∈l->Pt.m9 (q:Int)/\(q:Int)∣x)->(Pq.pd l:Int)∣x
 | [],x,_,_=>fY _
 | q::l,x,nd,h=>by
  obtain⟨hq,x',hx⟩:=h q List.mem_cons_self;rw[eR] at nd;have r:=Hi (l:=l) (x:=x') nd.2 fun p hp=>by
   have a:=h p (ar _ hp);refine⟨a.1,?_⟩;rw[hx] at a;refine nW a.1 a.2 fun d=>?_;have:p≠q:=fun e=>nd.1 (e▸hp);have le:=aU (by have:=hq.1;lia) d;exact hq.2 p a.1.1 J d
  show ((q*Pq.pd l:Nat):Int)∣x
  rw[aP,hx];exact Int.mul_dvd_mul (c5 _) r
theorem JJ {S:List Nat}(ne:S≠[])(Io:∀q,q∈S->Pt.m9 (q:Int))(nd:S.Nodup){goal:Int->Int}{C Cg:Nat}(hC:1<=C)(CC:C<=Cg)(hs:∀(j:Nat)(c:Nat),j<n->c<w->(stp j c).natAbs<=C)(hg:∀c:Nat,c<w->(goal c).natAbs<=Cg)
 (big:∀k,k<=n->k<=w->(2*(k*C)+1)^k*((k+1)*(Sg.uH k Cg*Cg))<Pq.pd S):∃q,q∈S/\Good q w n stp goal:=by
  refine aT fun no=>?_;have ex:∀q:Nat,∃F:Nat×(Nat->Nat)×(Nat->Nat),q∈S->Fr q w n stp F.1 F.2.1 F.2.2/\¬((∀j,j<n->Hg w stp F.1 F.2.1 (stp j))/\(Hm q w stp F.1 F.2.1 goal->Hg w stp F.1 F.2.1 goal)):=fun q=>by
    by_cases h:q∈S
    · refine aT fun z=>no ⟨q,h,fun k num col F=>aT fun y=>z ⟨(k,num,col),fun _=>⟨F,y⟩⟩⟩
    · exact⟨(0,id,id),fun z=>absurd z h⟩
  obtain⟨F,hF⟩:=Classical.axiomOfChoice ex;obtain⟨p,pS,mx⟩:=KM (fun q=>(F q).1) ne;have XY:∀(j:Nat)(c:Nat),j<n->c<w->(stp j c).natAbs<=Cg:=fun j c a b=>bL (hs j c a b) CC;have over:∀(k:Nat)(D:Nat)(G:Int),k<=n->k<=w->1<=D->D<=(2*(k*C)+1)^k->G≠0->(G.natAbs:Int)<=(k+1:Nat)*(Sg.uH k Cg*Cg)->¬∀q,q∈S->(q:Int)∣D*G:=fun k D G kn kw D1 Db G0 Gb all=>by
    have d:=Hi nd fun q hq=>⟨Io q hq,all q hq⟩;have d':=aX.mpr d;rw[aM,cC,cC] at d';have G1:0<G.natAbs:=J;have le:=gu (fM D1 G1) d';have b:=big k kn kw;have Gb':G.natAbs<=(k+1)*(Sg.uH k Cg*Cg):=by
      have:(G.natAbs:Int)<=(((k+1)*(Sg.uH k Cg*Cg):Nat):Int):=by rw[aP,aP];exact Gb
      lia
    have:=cL Db Gb';lia
  have dl:∀q:Nat,q∈S->∃D:Nat,1<=D/\D<=(2*((F q).1*C)+1)^(F q).1/\∀v:Int->Int,La (F q).1 (fun s t=>stp ((F q).2.1 s.toNat) ((F q).2.2 t.toNat)) fun i=>D*v i:=fun q hq=>by
    have fr:=(hF q hq).1;obtain⟨D,D1,Db,_,al⟩:=both (Io q hq) hC fr.ind fun i t hi ht=>by
      rw[ae,ae];exact hs _ _ (fr.sI i hi) (fr.colw t ht)
    exact⟨D,D1,Db,al⟩
  -- all steps zdp on as many rows as there are at most
  have steps:∀q:Nat,q∈S->(F q).1=(F p).1->∀j,j<n->Hg w stp (F q).1 (F q).2.1 (stp j):=fun q hq ek j hj=>aT fun z=>by
    have fr:=(hF q hq).1;obtain⟨D,D1,Db,al⟩:=dl q hq;obtain⟨t,s,c,hc,ht,nz,Gb⟩:=res (Io q hq) J fr XY (XY j · hj) z;have le:=fr.EM (Io q hq);exact over _ D _ le.1 le.2 D1 Db nz Gb fun q' Bo=>Qi (Io q' Bo) fr.colw fr.sI al (hF q' Bo).1 (by have:=mx q' Bo;lia) ((hF q' Bo).1.all j hj) ht hc
  have fr:=(hF p pS).1;obtain⟨D,D1,Db,al⟩:=dl p pS;have st:=steps p pS Z;have gl:Hm p w stp (F p).1 (F p).2.1 goal/\¬Hg w stp (F p).1 (F p).2.1 goal:=by
    have b:=(hF p pS).2;refine aT fun z=>b ⟨st,fun h=>aT fun y=>z ⟨h,y⟩⟩
  obtain⟨t,s,c,hc,ht,nz,Gb⟩:=res (Io p pS) J fr XY hg gl.2;have le:=fr.EM (Io p pS);refine over _ D _ le.1 le.2 D1 Db nz Gb fun q hq=>?_;have kk:=mx q hq
  by_cases e:(F q).1=(F p).1
  · have hm:Hm q w stp (F q).1 (F q).2.1 goal:=by
      refine aT fun z=>(hF q hq).2 ⟨steps q hq e,fun h=>absurd h z⟩
    exact Qi (Io q hq) fr.colw fr.sI al (hF q hq).1 kk hm ht hc
  · refine aT fun z=>?_
    have:=Br (Io q hq) fr.colw fr.sI al (fun d=>z (aE d)) (hF q hq).1;lia
end
end Mx
namespace Lt
theorem BG.at {m:Int}{K:Nat}:∀{c:Nat}{ls:List (List Int)},BG m K c ls->∀{i:Nat}{l:List Int},ls[i]?=some l->l.length=K/\(∀j,j<c+i->g l j=0)/\1<=g l (c+i)/\g l (c+i)∣m
 | c,l::ls,h,0,l',e=>by cases e;exact h.1
 | c,l::ls,h,i+1,l',e=>by
  have:=BG.at h.2 (i:=i) (l:=l') e;rw[show c+(i+1)=c+1+i by lia];exact this
theorem Jo.at {m:Int}{k:Nat}:∀{c:Nat}{ls:List (List Int)},Jo m k c ls->∀{i:Nat}{l:List Int},ls[i]?=some l->∀a:Int->Int,(∀(j:Nat)(l':List Int),i<j->ls[j]?=some l'->m∣dt k l' a)->m∣m/g l (c+i)*dt k l a
 | c,l::ls,h,0,l',e,a,kl=>by
  cases e;refine h.1 a fun y hy=>?_;obtain⟨j,hj⟩:=List.getElem?_of_mem hy;exact kl (j+1) y (g8 j) hj
 | c,l::ls,h,i+1,l',e,a,kl=>by
  have:=Jo.at h.2 (i:=i) (l:=l') e a fun j y ij hy=>kl (j+1) y (jt ij) hy;rw[show c+(i+1)=c+1+i by lia];exact this
structure EL (m:Int)(k col:Nat)(ls:List (List Int))(j:Nat)(a:Int->Int):Prop where
 lo:∀i:Nat,i<j->a i=0
 hi:∀i:Nat,col<i->a i=0
 at_:∀l,ls[col]?=some l->a col=m/g l col
 kl:∀(i:Nat)(l:List Int),j<=i->ls[i]?=some l->m∣dt k l a
theorem zd {F:Int->Int}{c:Nat}:∀{k:Nat},c<k->(∀i:Nat,i<k->i≠c->F i=0)->Ld.S k F=F c
 | 0,h,_=>absurd h (bI _)
 | k+1,h,z=>by
  show Ld.S k F+F k=F c
  rcases Nat.lt_succ_iff_lt_or_eq.mp h with y | y
  .rw[zd y fun i hi ne=>z i (bJ hi) ne,z k (bO k) J,cW]
  .have:Ld.S k F=0:=by
    rw[Ld.jT (G:=fun _=>0) fun i hi=>z i (bJ hi) J];exact Ld.mX k
   rw[this,dF,y]
theorem UU {m:Int}{K k col:Nat}{ls:List (List Int)}(t:BG m K 0 ls)(hc:col<k){l:List Int}(el:ls[col]?=some l):EL m k col ls col (fun x=>if x=col then m/g l col else 0):=by
 refine⟨fun i hi=>ao J,fun i hi=>ao J,fun l' e=>?_,fun i l' hi e=>?_⟩
 .rw[el] at e;cases e;exact if_pos Z
 .have ti:=t.at e;rw[dU] at ti;have e1:dt k l' (fun x=>if x=(col:Int) then m/g l col else 0)=g l' col*(m/g l col):=by
   unfold dt;rw[zd (c:=col) hc fun j _ ne=>by
    show g l' (j:Int).toNat*(if (j:Int)=col then m/g l col else 0)=0
    rw[ao J,bB]]
   show g l' (col:Int).toNat*(if (col:Int)=col then m/g l col else 0)=_
   rw[aD Z,ae]
  rw[e1];rcases Nat.lt_or_eq_of_le hi with y | y
  .rw[ti.2.1 col y,aY];exact aZ _
  .subst y;rw[el] at e;cases e;rw[cZ ti.2.2.2];exact c5 m
theorem Gx {k:Nat}{v:List Int}{a b:Int->Int}(h:∀i:Nat,i<k->g v i≠0->a i=b i):dt k v a=dt k v b:=by
 unfold dt;refine Ld.jT fun i hi=>?_;rw[ae]
 by_cases z:g v i=0
 .rw[z,aY,aY]
 .rw[h i hi z]
theorem KY {F:Int->Int}{c:Nat}{x:Int}:∀{k:Nat},c<k->F c=0->(Ld.S k fun i=>if i=c then x else F i)=Ld.S k F+x
 | 0,h,_=>absurd h (bI _)
 | k+1,h,z=>by
  show (Ld.S k fun i=>if i=c then x else F i)+(if (k:Int)=c then x else F k)=Ld.S k F+F k+x
  rcases Nat.lt_succ_iff_lt_or_eq.mp h with y | y
  .rw[KY y z,ao J];lia
  .subst y;rw[aD Z,z,Ld.jT (G:=F) fun i hi=>ao J];lia
theorem Wy {m:Int}(hm:1<=m){K k col p:Nat}{ls:List (List Int)}(t:BG m K 0 ls)(w:Jo m k 0 ls)(hc:col<k)(pc:p<col){a:Int->Int}(b:EL m k col ls (p+1) a){l:List Int}(el:ls[p]?=some l) :
  g l p∣dt k l a/\EL m k col ls p (fun x=>if x=p then (-(dt k l a/g l p))%(m/g l p) else a x):=by
 have tp:=t.at el;have hp:=w.at el a fun j l' pj e=>b.kl j l' pj e;rw[dU] at tp hp;obtain⟨ll,lz,l1,r,hr⟩:=tp;have mr:m/g l p=r:=by rw[hr];exact aG _ J
 have r1:1<=r:=by
  rcases Int.lt_or_le r 1 with z | z
  .have:=aA (show r<=0 by lia) (show 0<=g l p by lia);lia
  .exact z
 have dv:g l p∣dt k l a:=by
  rw[mr] at hp;obtain⟨z,hz⟩:=hp;refine⟨z,aS (show r≠0 by lia) ?_⟩;rw[hz,hr];grind
 refine⟨dv,fun i hi=>?_,fun i hi=>?_,fun l' e=>?_,fun i l' hi e=>?_⟩
 .show (if (i:Int)=p then _ else a i)=0
  rw[ao J];exact b.lo i J
 .show (if (i:Int)=p then _ else a i)=0
  rw[ao J];exact b.hi i hi
 .show (if (col:Int)=p then _ else a col)=_
  rw[ao J];exact b.at_ l' e
 .rcases Nat.lt_or_eq_of_le hi with y | y
  .have ti:=t.at e;rw[dU] at ti;rw[Gx (b:=a) fun j hj nz=>?_]
   .exact b.kl i l' y e
   .by_cases z:(j:Int)=p
    .exact absurd (ti.2.1 j J) nz
    .exact ao z
  .subst y;rw[el] at e;cases e;obtain⟨x,hx⟩:=dv;have xq:dt k l a/g l p=x:=by rw[hx];exact aG _ J
   rw[mr,xq];have e1:dt k l (fun y=>if y=(p:Int) then (-x)%r else a y)=dt k l a+g l p*((-x)%r):=by
    have:(fun y:Int=>g l y.toNat*(if y=(p:Int) then (-x)%r else a y))=fun y=>if y=(p:Int) then g l p*((-x)%r) else g l y.toNat*a y:=funext fun y=>by
     by_cases c:y=(p:Int)
     .rw[aD c,aD c,c,ae]
     .rw[ao c,ao c]
    unfold dt;rw[this,KY (F:=fun y=>g l y.toNat*a y) (c:=p) J (by rw[b.lo p J,bB])]
   rw[e1,hx];obtain⟨z,hz⟩:=lG (-x) r;have:(-x)%r=r*z-x:=J;refine⟨z,?_⟩;rw[this]
   conv=>rhs;rw[hr]
   grind
theorem EL.not {m:Int}(hm:1<=m){K k col:Nat}{ls:List (List Int)}(t:BG m K 0 ls)(hc:col<k){a:Int->Int}(b:EL m k col ls 0 a){l:List Int}(el:ls[col]?=some l){left:List Int}(z:∀i,i<col->g left i=0)(nd:¬g l col∣g left col):¬m∣dt k left a:=fun d=>by
 have tp:=t.at el;rw[dU] at tp;obtain⟨_,_,l1,r,hr⟩:=tp;have mr:m/g l col=r:=by rw[hr];exact aG _ J
 have e1:dt k left a=g left col*r:=by
  unfold dt;rw[zd (c:=col) hc fun j _ ne=>?_,ae,b.at_ l el,mr];rw[ae];rcases Nat.lt_or_gt_of_ne ne with y | y
  .rw[z j y,aY]
  .rw[b.hi j y,bB]
 rw[e1] at d;obtain⟨y,hy⟩:=d;have r0:r≠0:=fun q=>by rw[q,bB] at hr;lia
 refine nd ⟨y,aS r0 ?_⟩;rw[aB r,hy]
 conv=>lhs;rw[hr]
 grind
def Rec (m:Int)(k r:Nat)(row:Nat->Int->Int)(G:Int->Int)(v:List Int):Prop:=∀i:Nat,i<k->m∣g v i-(G i+Ld.S r fun j=>g v (k+j.toNat)*row j.toNat i)
theorem Rec.mix {m:Int}{K k r:Nat}{row:Nat->Int->Int}{G1 G2:Int->Int}{u v:List Int}(lu:u.length=K)(lv:v.length=K)(h1:Rec m k r row G1 u)(h2:Rec m k r row G2 v)(a b:Int):Rec m k r row (fun i=>a*G1 i+b*G2 i) (mix u a v b m):=fun i hi=>by
 obtain⟨x,hx⟩:=h1 i hi;obtain⟨y,hy⟩:=h2 i hi;obtain⟨z,hz⟩:=lG (g u i*a+g v i*b) m;have e1:m∣(Ld.S r fun j=>g (Lt.mix u a v b m) (k+j.toNat)*row j.toNat i)-(Ld.S r fun j=>a*(g u (k+j.toNat)*row j.toNat i)+b*(g v (k+j.toNat)*row j.toNat i)):=nE fun j _=>by
  rw[oT lu lv];obtain⟨q,hq⟩:=lG (g u (k+(j:Int).toNat)*a+g v (k+(j:Int).toNat)*b) m;refine⟨q*row (j:Int).toNat i,?_⟩;have:(g u (k+(j:Int).toNat)*a+g v (k+(j:Int).toNat)*b)%m=m*q+(g u (k+(j:Int).toNat)*a+g v (k+(j:Int).toNat)*b):=J;rw[this];grind
 rw[Ld.mD,Ld.ku,Ld.ku] at e1;obtain⟨q,hq⟩:=e1;rw[oT lu lv];generalize (Ld.S r fun j=>g (Lt.mix u a v b m) (k+j.toNat)*row j.toNat i)=s at *;generalize (Ld.S r fun j=>g u (k+j.toNat)*row j.toNat i)=s1 at *;generalize (Ld.S r fun j=>g v (k+j.toNat)*row j.toNat i)=s2 at *;refine⟨z+a*x+b*y-q,?_⟩;grind
end Lt
namespace Rx
variable {l a b row other:List Int}{i n:Nat}{x m:Int}
open Lt (g)
theorem AN (h:l.length<=i):g l i=0:=by unfold g;rw[List.getD_eq_getElem?_getD,List.getElem?_eq_none h];rfl
theorem lB {v:Int}(h:l[i]?=some v):g l i=v:=by unfold g;rw[List.getD_eq_getElem?_getD,h];rfl
theorem lD (h:i<l.length):l[i]?=some (g l i):=by
 have e:l[i]?=some l[i]:=ax h;rw[e,lB e]
theorem rA {f:Int->Int}(h:i<l.length):g (l.map f) i=f (g l i):=lB (by rw[af,lD h];rfl)
theorem ye {f:Int->Int->Int}(h:i<a.length)(h':i<b.length):g (List.zipWith f a b) i=f (g a i) (g b i):=lB (by rw[bU,lD h,lD h'])
theorem rY (h:i<a.length):g (a++b) i=g a i:=by unfold g;rw[List.getD_eq_getElem?_getD,List.getD_eq_getElem?_getD,List.getElem?_append_left h]
theorem wU (h:a.length=n):g (a++b) (n+i)=g b i:=by unfold g;rw[List.getD_eq_getElem?_getD,List.getD_eq_getElem?_getD,List.getElem?_append_right J];congr 2;lia
theorem B4:g (a.drop n) i=g a (n+i):=by unfold g;rw[List.getD_eq_getElem?_getD,List.getD_eq_getElem?_getD,List.getElem?_drop]
theorem sO (h:x∈l):∃i,i<l.length/\g l i=x:=by
 obtain⟨i,hi,e⟩:=List.getElem_of_mem h;exact⟨i,hi,lB (by rw[ax hi,e])⟩
theorem nH (h:i<l.length):g l i∈l:=ak (lD h)
theorem Bb (h:i<n):g (List.replicate n x) i=x:=lB (by rw[fK,aD h])
theorem PN (l:a.length=b.length)(h:∀i,i<a.length->g a i=g b i):a=b:=by
 refine g6 fun i=>?_;rcases Nat.lt_or_ge i a.length with c | c
 .rw[lD c,lD J,h i c]
 .rw[cH c,cH J]
theorem yx {j:Nat}(h:i<a.length):g (a.set i x) j=if j=i then x else g a j:=by
 unfold g;rw[ah,ah]
 by_cases c:j=i
 .rw[aD c,c,eJ h];rfl
 .rw[ao c,fV J]
def dot (a b:List Int):Int:=(List.zipWith (· * ·) a b).sum
theorem nZ (la:a.length=n)(lb:b.length=n):dot a b=Ld.S n fun i=>g a i.toNat*g b i.toNat:=by
 rw[<-Pl.GD (fun i=>g a i.toNat*g b i.toNat)];unfold dot;congr 1;refine g6 fun i=>?_;rw[bU,af];rcases Nat.lt_or_ge i n with c | c
 .rw[lD J,lD J,dC c];rfl
 .rw[cH J,cH J,cH (l:=List.range n) (by rw[gn];lia)];rfl
def tN (row:List Int)(many:Int)(other:List Int)(m:Int):List Int:=if many=0 then row else List.zipWith (fun x y=>(x-many*y)%m) row other
theorem zZ (l:row.length=other.length)(many m:Int):(tN row many other m).length=row.length:=by
 unfold tN;split
 .rfl
 .rw[dS,<-l,fS]
def In (m:Int)(l:List Int):Prop:=∀x∈l,0<=x/\x<m
theorem In.g {m:Int}{l:List Int}(h:In m l)(m0:0<m)(i:Nat):0<=Lt.g l i/\Lt.g l i<m:=by
 rcases Nat.lt_or_ge i l.length with c | c
 .exact h _ (nH c)
 .rw[AN c];lia
theorem In.mod (m0:0<m)(l:List Int)(f:Int->Int):In m (l.map fun x=>f x%m):=fun x hx=>by
 obtain⟨y,_,rfl⟩:=List.mem_map.mp hx;exact⟨aC _ J,az _ m0⟩
theorem In.zip (m0:0<m)(a b:List Int)(f:Int->Int->Int):In m (List.zipWith (fun x y=>f x y%m) a b):=fun x hx=>by
 obtain⟨i,hi,e⟩:=List.getElem_of_mem hx;rw[List.getElem_zipWith] at e;rw[<-e];exact⟨aC _ J,az _ m0⟩
theorem MW {many:Int}(m0:0<m)(h:In m row):In m (tN row many other m):=by
 unfold tN;split
 .exact h
 .exact In.zip m0 _ _ fun x y=>x-many*y
theorem Py {many:Int}(m0:0<m)(h:In m row)(l:row.length=other.length)(hi:i<row.length):Lt.g (tN row many other m) i=(Lt.g row i-many*Lt.g other i)%m:=by
 unfold tN
 by_cases c:many=0
 .rw[aD c,c,aY,dh,aR (h.g m0 i).1 (h.g m0 i).2]
 .rw[ao c,ye hi J]
def tR (n i:Nat)(x:Int):List Int:=(List.replicate n 0).set i x
theorem oR (n i:Nat)(x:Int):(tR n i x).length=n:=by unfold tR;rw[List.length_set,List.length_replicate]
theorem ph {j:Nat}(h:i<n):Lt.g (tR n i x) j=if j=i then x else 0:=by
 unfold tR;rw[yx (by rw[aV];exact h)]
 by_cases c:j=i
 .rw[aD c,aD c]
 .rw[ao c,ao c];rcases Nat.lt_or_ge j n with d | d
  .exact Bb d
  .exact AN (by rw[aV];exact d)
def xH (k:Nat)(rows:List (List Int)):List (List Int):=(List.range k).map fun c=>rows.map fun row=>g row c
def sW:List Int->List Nat->List Int->List Int
 | l,[],_=>l
 | l,_::_,[]=>l
 | l,p::ps,x::xs=>sW (l.set p x) ps xs
def uT (n:Nat)(ps:List Nat)(xs:List Int):List Int:=sW (List.replicate n 0) ps xs
theorem Cb (n:Nat)(ps:List Nat)(xs:List Int):uT n ps xs=sW (List.replicate n 0) ps xs:=rfl
theorem yd:∀(l:List Int)(ps:List Nat)(xs:List Int)(p:Nat)(x:Int),ps.length=xs.length->sW l (ps++[p]) (xs++[x])=(sW l ps xs).set p x
 | l,[],[],p,x,_=>rfl
 | l,q::ps,y::xs,p,x,h=>yd (l.set q y) ps xs p x (by simpa using h)
 | l,[],_::_,p,x,h=>by simp at h
 | l,_::_,[],p,x,h=>by simp at h
theorem Ar:∀(l:List Int)(ps:List Nat)(xs:List Int),(sW l ps xs).length=l.length
 | l,[],_=>by rw[sW]
 | l,_::_,[]=>rfl
 | l,p::ps,x::xs=>by
  show (sW (l.set p x) ps xs).length=l.length
  rw[Ar,cf]
theorem ow (n:Nat)(ps:List Nat)(xs:List Int):(uT n ps xs).length=n:=by rw[Cb,Ar,aV]
theorem tH {c:Nat}:∀(l:List Int)(ps:List Nat)(xs:List Int),c∉ps->(∀p∈ps,p<l.length)->g (sW l ps xs) c=g l c
 | l,[],_,_,_=>by rw[sW]
 | l,_::_,[],_,_=>rfl
 | l,p::ps,x::xs,h,hl=>by
  rw[fD,not_or] at h;show g (sW (l.set p x) ps xs) c=g l c
  rw[tH (l.set p x) ps xs h.2 (fun q hq=>by rw[cf];exact hl q (ar _ hq)),yx (hl p aq),ao h.1]
theorem DM:∀(l:List Int)(ps:List Nat)(xs:List Int),ps.Nodup->(∀p∈ps,p<l.length)->∀(i p:Nat)(x:Int),ps[i]?=some p->xs[i]?=some x->g (sW l ps xs) p=x
 | l,[],_,_,_,i,p,x,h,_=>by simp at h
 | l,_::_,[],_,_,i,p,x,_,h=>by simp at h
 | l,q::ps,y::xs,nd,hl,i,p,x,hp,hx=>by
  rw[eR] at nd;have hl':∀p∈ps,p<(l.set q y).length:=fun z hz=>by rw[cf];exact hl z (ar _ hz)
  show g (sW (l.set q y) ps xs) p=x
  cases i with
  | zero =>
   rw[List.getElem?_cons_zero] at hp hx;cases hp;cases hx;rw[tH _ ps xs nd.1 hl',yx (hl q aq),aD Z]
  | succ i =>
   rw[dO] at hp hx;exact DM (l.set q y) ps xs nd.2 hl' i p x hp hx
theorem uQ {n c:Nat}{ps:List Nat}{xs:List Int}(h:c∉ps)(hl:∀p∈ps,p<n):g (uT n ps xs) c=0:=by
 rw[Cb,tH _ ps xs h (fun p hp=>by rw[aV];exact hl p hp)];rcases Nat.lt_or_ge c n with d | d
 .exact Bb d
 .exact AN (by rw[aV];exact d)
theorem HY {n:Nat}{ps:List Nat}{xs:List Int}(nd:ps.Nodup)(hl:∀p∈ps,p<n){i p:Nat}{x:Int}(hp:ps[i]?=some p)(hx:xs[i]?=some x):g (uT n ps xs) p=x:=by
 rw[Cb];exact DM _ ps xs nd (fun p hp=>by rw[aV];exact hl p hp) i p x hp hx
theorem KG {n:Nat}{F:Int->Int}:∀{ps:List Nat}{xs:List Int}{k:Nat},ps.length=k->xs.length=k->ps.Nodup->(∀p∈ps,p<n) ->
  (Ld.S n fun c=>F c*g (uT n ps xs) c.toNat)=Ld.S k fun i=>F (ps.getD i.toNat 0)*g xs i.toNat:=by
 intro ps xs k lp lx nd hl
 -- each filled place by its own
 have e1:(Ld.S n fun c=>F c*g (uT n ps xs) c.toNat)=Ld.S n fun c=>Ld.S k fun i=>if c=(ps.getD i.toNat 0:Int) then F c*g xs i.toNat else 0:=Ld.jT fun c hc=>by
  rw[ae]
  by_cases m:c∈ps
  .obtain⟨j,hj,ej⟩:=List.getElem_of_mem m;have pj:ps[j]?=some c:=by rw[ax hj,ej]
   rw[HY nd hl pj (lD J)];have uni:∀i:Nat,i<k->(c:Int)=(ps.getD (i:Int).toNat 0:Int)->i=j:=fun i hi z=>by
    have z':c=ps.getD i 0:=by rw[ae] at z;lia
    rw[ah,ax (show i<ps.length by lia)] at z';have pw:=c7.mp nd;have z2:c=ps[i]'J:=z';rcases Nat.lt_trichotomy i j with q | q | q
    .exact absurd (by rw[<-z2,ej]) (pw i j J hj q)
    .exact q
    .exact absurd (by rw[<-z2,ej]) (pw j i hj J q)
   rw[Lt.zd (c:=j) J fun i hi ne=>ao fun z=>ne (uni i hi z)]
   .have:ps.getD (j:Int).toNat 0=c:=by rw[ae,ah,pj];rfl
    rw[this,aD Z,ae]
  .rw[uQ m hl,bB];have non:∀i:Nat,i<k->¬(c:Int)=(ps.getD (i:Int).toNat 0:Int):=fun i hi z=>m (by
    have z':c=ps.getD i 0:=by rw[ae] at z;lia
    rw[ah,ax (show i<ps.length by lia)] at z';rw[z'];exact b9 _)
   rw[Ld.jT (G:=fun _=>0) fun i hi=>ao (non i hi),Ld.mX]
 rw[e1,Ld.mO];refine Ld.jT fun i hi=>?_;have pi:ps.getD (i:Int).toNat 0<n:=by
  rw[ae,ah,ax (show i<ps.length by lia)];exact hl _ (b9 _)
 rw[Ld.yr (G:=fun c=>F c*g xs (i:Int).toNat) J,aD J]
variable {step:List Int}
open Mx
abbrev Fd:=Nat×Nat×List Int
def st (steps:List (List Int)):Nat->Int->Int:=fun j c=>g (steps.getD j []) c.toNat
def fn (l:List Int):Int->Int:=fun c=>g l c.toNat
def nm (fs:List Fd)(t:Nat):Nat:=(fs.getD t (0,0,[])).1
def cl (fs:List Fd)(t:Nat):Nat:=(fs.getD t (0,0,[])).2.1
def E5 (fs:List Fd)(t:Nat):Int->Int:=fn (fs.getD t (0,0,[])).2.2
def JT (p:Int)(l:List Int)(f:Fd):List Int:=tN l (g l f.2.1) f.2.2 p
def pC (p:Int)(fs:List Fd)(step:List Int):List Int:=fs.foldl (JT p) (step.map fun x=>x%p)
theorem wS (p:Int)(fs:List Fd)(f:Fd)(step:List Int):pC p (fs++[f]) step=JT p (pC p fs step) f:=by unfold pC;rw[List.foldl_append];rfl
theorem DQ (p:Int)(step:List Int):pC p [] step=step.map fun x=>x%p:=rfl
def OR (p:Int)(w:Nat)(fs:List Fd):Prop:=∀f∈fs,f.2.2.length=w/\In p f.2.2/\f.2.1<w
theorem sY {p:Int}(p0:0<p){w:Nat}(l:step.length=w):∀{k:Nat}{fs:List Fd},fs.length=k->OR p w fs->(pC p fs step).length=w/\In p (pC p fs step):=by
 intro k
 induction k with
 | zero =>
  intro fs e _;rw[ic e,DQ];exact⟨by rw[aa,l],In.mod p0 step fun x=>x⟩
 | succ k ih =>
  intro fs e h;have ne:fs≠[]:=fun z=>by rw[z] at e;cases e
  obtain⟨CZ,f,rfl⟩:∃CZ f,fs=CZ++[f]:=⟨fs.dropLast,fs.getLast ne,(List.dropLast_concat_getLast ne).symm⟩;rw[aI] at e;have r:=ih (fs:=CZ) (by simpa using e) fun f hf=>h f (List.mem_append_left _ hf);have hf:=h f (bu _ aq);rw[wS];exact⟨by unfold JT;rw[zZ (by rw[r.1,hf.1]),r.1],MW p0 r.2⟩
theorem Da {p:Int}(p0:0<p){w:Nat}{stp:Nat->Int->Int}{k:Nat}{num col:Nat->Nat}{row:Nat->Int->Int}(cr:En p w stp k num col row){fs:List Fd}(rk:OR p w fs)(lk:fs.length<=k)(ag:∀(t:Nat)(f:Fd),fs[t]?=some f->col t=f.2.1/\row t=fn f.2.2)
 (l:step.length=w):IG p w stp k num col (fn step) fs.length (fn (pC p fs step)):=by
  obtain⟨m,hm⟩:∃m,m=fs.length:=⟨_,Z⟩
  induction m generalizing fs with
  | zero =>
    rw[ic hm.symm,DQ];refine IG.start fun c hc=>?_;unfold fn;rw[ae,rA J];exact Lt.lG _ _
  | succ m ih =>
    have ne:fs≠[]:=fun z=>by rw[z] at hm;cases hm
    obtain⟨CZ,f,rfl⟩:∃CZ f,fs=CZ++[f]:=⟨fs.dropLast,fs.getLast ne,(List.dropLast_concat_getLast ne).symm⟩;have ZI:OR p w CZ:=fun f hf=>rk f (cN _ hf);have l':CZ.length=m:=by rw[aI] at hm;simpa using hm.symm
    have hf:=rk f (bu _ aq);have a:=ih ZI (by rw[aI] at lk;lia) (fun t f h=>ag t f (by rw[cO (by exact(aF.mp h).1)];exact h)) l'.symm;have b:=ag CZ.length f (by rw[cK (aH _),gE];rfl);have ok:=sY p0 l Z ZI;have e:(CZ++[f]).length=CZ.length+1:=by rw[aI];rfl
    rw[e,wS];refine IG.step cr (by rw[e] at lk;lia) a fun c hc=>?_;rw[b.1,b.2];unfold fn JT;rw[ae,ae,Py p0 ok.2 (by rw[ok.1,hf.1]) J];exact Lt.lG _ _
structure qI (p:Int)(w:Nat)(steps:List (List Int))(i:Nat)(fs:List Fd):Prop where
 cor:En p w (st steps) fs.length (nm fs) (cl fs) (E5 fs)
 rok:OR p w fs
 lt:∀f∈fs,f.1<i
 srt:fs.Pairwise fun a b=>a.1<b.1
 all:∀j,j<i->Hm p w (st steps) fs.length (nm fs) (st steps j)
theorem qI.start (p:Int)(w:Nat)(steps:List (List Int)):qI p w steps 0 [] :=
 ⟨En.start ..,fun f h=>(nomatch h),fun f h=>(nomatch h),.nil,fun j h=>absurd h (bI _)⟩
theorem getD_at {fs:List Fd}{t:Nat}{f:Fd}(h:fs[t]?=some f):fs.getD t (0,0,[])=f:=by rw[ah,h];rfl
theorem qI.pC {p:Int}(p0:0<p){w:Nat}{steps:List (List Int)}{i:Nat}{fs:List Fd}(h:qI p w steps i fs){step:List Int}(l:step.length=w):IG p w (st steps) fs.length (nm fs) (cl fs) (fn step) fs.length (fn (pC p fs step)) :=
 Da p0 h.cor h.rok (aH _) (fun t f e=>⟨by unfold cl;rw[getD_at e],by unfold E5;rw[getD_at e]⟩) l
theorem qI.hm {p:Int}(p0:0<p){w:Nat}{steps:List (List Int)}{i:Nat}{fs:List Fd}(h:qI p w steps i fs)(l:step.length=w)(z:∀c,c<w->g (Rx.pC p fs step) c=0):Hm p w (st steps) fs.length (nm fs) (fn step):=by
 obtain⟨x,hx⟩:=(h.pC p0 l).eq;refine⟨x,fun c hc=>?_⟩;have a:=hx c hc;unfold fn at a;rw[ae,z c hc] at a;have:=dL.mpr a;unfold fn;rw[ae];rwa [show ∀x y:Int,-(0-(x-y))=x-y from fun x y=>by lia] at this
theorem KL {steps:List (List Int)}{i:Nat}(e:steps[i]?=some step):st steps i=fn step:=by
 unfold st fn;funext c;rw[ah,e];rfl
theorem qI.none {p:Int}(p0:0<p){w:Nat}{steps:List (List Int)}{i:Nat}{fs:List Fd}(h:qI p w steps i fs)(e:steps[i]?=some step)(l:step.length=w)(z:∀c,c<w->g (Rx.pC p fs step) c=0):qI p w steps (i+1) fs:=by
 refine⟨h.cor,h.rok,fun f hf=>bJ (h.lt f hf),h.srt,fun j hj=>?_⟩;rcases Nat.lt_succ_iff_lt_or_eq.mp hj with q | q
 .exact h.all j q
 .rw[q,KL e];exact h.hm p0 l z
theorem qI.some {p:Int}(hp:Pt.m9 p){w:Nat}{steps:List (List Int)}{i:Nat}{fs:List Fd}(h:qI p w steps i fs){step:List Int}(e:steps[i]?=some step)(l:step.length=w){c:Nat}(hc:c<w)(nz:g (Rx.pC p fs step) c≠0){u:Int}(hu:p∣g (Rx.pC p fs step) c*u-1) :
  qI p w steps (i+1) (fs++[(i,c,(Rx.pC p fs step).map fun x=>x*u%p)]):=by
 have p2:=hp.1;have p0:0<p:=J;have ok:=sY p0 l Z h.rok;obtain⟨f,hf⟩:∃f:Fd,f=(i,c,(Rx.pC p fs step).map fun x=>x*u%p):=⟨_,Z⟩;rw[<-hf];have Ol:∀t,t<fs.length->(fs++[f]).getD t (0,0,[])=fs.getD t (0,0,[]):=fun t ht=>by rw[ah,ah,cO ht]
 have at2:(fs++[f]).getD fs.length (0,0,[])=f:=getD_at (by rw[cK (aH _),gE];rfl);have cr:=h.cor.congr (num':=nm (fs++[f])) (col':=cl (fs++[f])) (row':=E5 (fs++[f])) (fun t ht=>by unfold nm;rw[Ol t ht]) (fun t ht=>by unfold cl;rw[Ol t ht]) (fun t ht=>by unfold E5;rw[Ol t ht]);have en:nm (fs++[f]) fs.length=i:=by unfold nm;rw[at2,hf]
 have ec:cl (fs++[f]) fs.length=c:=by unfold cl;rw[at2,hf]
 have er:E5 (fs++[f]) fs.length=fn ((Rx.pC p fs step).map fun x=>x*u%p):=by unfold E5;rw[at2,hf]
 have Ny:=Da p0 cr h.rok (aH _) (fun t f' e'=>by
  have tl:=(aF.mp e').1;refine⟨by unfold cl;rw[Ol t tl,getD_at e'],by unfold E5;rw[Ol t tl,getD_at e']⟩) l
 have fg:fn (Rx.pC p fs step) c=g (Rx.pC p fs step) c:=by unfold fn;rw[Int.toNat_natCast]
 have lt:=ok.2.g p0 c;have le:(fs++[f]).length=fs.length+1:=by rw[aI];rfl
 have cor:=cr.snoc hp (left:=fn (Rx.pC p fs step)) (by rw[en,KL e];exact Ny) (by rw[ec];exact hc) (by
  rw[ec,fg];exact fun d=>by
   have:=aU (show 0<g (Rx.pC p fs step) c by lia) d;lia) (u:=u) (by rw[ec,fg];exact hu) (fun c' xt=>by
   rw[er];unfold fn;rw[ae,rA J];exact Lt.lG _ _)
 refine⟨by rw[le];exact cor,fun f' XZ=>?_,fun f' XZ=>?_,?_,fun j hj=>?_⟩
 .rcases List.mem_append.mp XZ with q | q
  .exact h.rok f' q
  .rw[bw.mp q,hf];exact⟨by rw[aa,ok.1],In.mod p0 _ fun x=>x*u,hc⟩
 .rcases List.mem_append.mp XZ with q | q
  .exact bJ (h.lt f' q)
  .rw[bw.mp q,hf];exact bO i
 .rw[eZ];refine⟨h.srt,gy ..,fun a ha b hb=>?_⟩;rw[bw.mp hb,hf];exact h.lt a ha
 .rw[le];rcases Nat.lt_succ_iff_lt_or_eq.mp hj with q | q
  .obtain⟨x,hx⟩:=h.all j q;refine⟨fun s=>if s=(fs.length:Int) then 0 else x s,fun c' xt=>?_⟩;have a:=hx c' xt;have b:(Ld.S (fs.length+1) fun s=>(if s=(fs.length:Int) then 0 else x s)*st steps (nm (fs++[f]) s.toNat) c')=Ld.S fs.length fun s=>x s*st steps (nm fs s.toNat) c':=by
    show (Ld.S fs.length fun s=>(if s=(fs.length:Int) then 0 else x s)*st steps (nm (fs++[f]) s.toNat) c')+(if (fs.length:Int)=fs.length then 0 else x fs.length)*st steps (nm (fs++[f]) (fs.length:Int).toNat) c'=_
    rw[aD Z,aY,cW];refine Ld.jT fun s hs=>?_;rw[ao J,ae];have:nm (fs++[f]) s=nm fs s:=by unfold nm;rw[Ol s hs]
    rw[this]
   rw[b];exact a
  .rw[q];refine⟨fun s=>if s=(fs.length:Int) then 1 else 0,fun c' xt=>?_⟩;have b:(Ld.S (fs.length+1) fun s=>(if s=(fs.length:Int) then 1 else 0)*st steps (nm (fs++[f]) s.toNat) c')=st steps i c':=by
    rw[Ld.jT (G:=fun s=>st steps (nm (fs++[f]) s.toNat) c'*if s=(fs.length:Int) then 1 else 0) fun s _=>aB ..,mf (F:=fun s=>st steps (nm (fs++[f]) s.toNat) c') (bO _),ae,en]
   rw[b,cA];exact aZ _
theorem qI.fr {p:Int}{w:Nat}{steps:List (List Int)}{n:Nat}{fs:List Fd}(h:qI p w steps n fs):Fr p w n (st steps) fs.length (nm fs) (cl fs):=by
 refine⟨h.cor.colw,fun t ht=>?_,h.cor.ind _ (aH _),h.all⟩;unfold nm;rw[getD_at (ax ht)];exact h.lt _ (b9 ht)
variable {rows ls:List (List Int)}{i k:Nat}{m:Int}{M:Int->Int->Int}
def mt (rows:List (List Int)):Int->Int->Int:=fun i j=>g (rows.getD i.toNat []) j.toNat
theorem uc {row:List Int}(h:rows[i]?=some row):rows.getD i []=row:=by rw[ah,h];rfl
theorem uS (rows:List (List Int))(i j:Nat):mt rows i j=g (rows.getD i []) j:=by unfold mt;rw[Int.toNat_natCast,Int.toNat_natCast]
theorem lZ (h:i<rows.length):rows[i]?=some (rows.getD i []):=by rw[ah,ax h];rfl
theorem k5 (h:i<rows.length):rows.getD i []∈rows:=ak (lZ h)
theorem DR {row other:List Int}{many:Int}(l:row.length=other.length)(hi:i<row.length):m∣g (tN row many other m) i-(g row i-many*g other i):=by
 unfold tN
 by_cases c:many=0
 .rw[aD c,c,aY,dh,cA];exact aZ _
 .rw[ao c,ye hi J];exact Lt.lG _ _
def aug (k:Nat)(rows:List (List Int)):List (List Int):=rows.mapIdx fun i row=>row++tR k i 1
def wl (k:Nat)(ls:List (List Int)):Int->Int->Int:=fun i j=>g (ls.getD i.toNat []) j.toNat
def wr (k:Nat)(ls:List (List Int)):Int->Int->Int:=fun i t=>g (ls.getD i.toNat []) (k+t.toNat)
def tG (m:Int)(c:Nat)(v:Int)(ls:List (List Int)):List (List Int) :=
 (ls.map fun row=>tN row (g row c) ((ls.getD c []).map fun x=>x*v%m) m).set c ((ls.getD c []).map fun x=>x*v%m)
theorem Mb (lr:rows.length=k)(lw:∀row∈rows,row.length=k):Gj m k (mt rows) 0 (wl k (aug k rows)) (wr k (aug k rows)):=by
 have at_:∀i:Nat,i<k->(aug k rows).getD i []=rows.getD i []++tR k i 1:=fun i hi=>by
  refine uc ?_;unfold aug;rw[List.getElem?_mapIdx,lZ J];rfl
 have len:∀i:Nat,i<k->(rows.getD i []).length=k:=fun i hi=>lw _ (k5 J);have A:∀i j:Nat,i<k->j<k->wl k (aug k rows) i j=mt rows i j:=fun i j hi hj=>by
  unfold wl;rw[Int.toNat_natCast,Int.toNat_natCast,at_ i hi,uS,rY (by rw[len i hi];exact hj)]
 have B:∀i t:Nat,i<k->wr k (aug k rows) i t=if t=i then 1 else 0:=fun i t hi=>by
  unfold wr;rw[Int.toNat_natCast,Int.toNat_natCast,at_ i hi,wU (len i hi),ph hi]
 have s:=Gj.start (m:=m) (k:=k) (M:=mt rows);refine⟨fun i j hi hj=>?_,fun i j _ hj=>absurd hj (bI _),fun i t hi ht _ ne=>?_,fun i hi _=>?_⟩
 .rw[A i j hi hj];have a:=s.rc i j hi hj;have e:(Ld.S k fun t=>wr k (aug k rows) i t*mt rows t j)=Ld.S k fun t=>(fun (i t:Int)=>if t=i then (1:Int) else 0) i t*mt rows t j:=Ld.jT fun t ht=>by
   rw[B i t hi]
   by_cases c:t=i
   .rw[aD c];dsimp only;rw[if_pos J]
   .rw[ao c];dsimp only;rw[if_neg J]
  rw[e];exact a
 .rw[B i t hi,ao ne];exact aZ _
 .rw[B i i hi,aD Z,cA];exact aZ _
theorem IY {c:Nat}(ll:ls.length=k)(lw:∀row∈ls,row.length=k+k)(h:Gj m k M c (wl k ls) (wr k ls))(hc:c<k){v:Int}(hv:m∣g (ls.getD c []) c*v-1) :
  Gj m k M (c+1) (wl k (tG m c v ls)) (wr k (tG m c v ls)):=by
 have len:∀i:Nat,i<k->(ls.getD i []).length=k+k:=fun i hi=>lw _ (k5 J);have own:(tG m c v ls).getD c []=(ls.getD c []).map fun x=>x*v%m:=by
  refine uc ?_;unfold tG;rw[eJ zgU]
 have oth:∀i:Nat,i<k->i≠c->(tG m c v ls).getD i []=tN (ls.getD i []) (g (ls.getD i []) c) ((ls.getD c []).map fun x=>x*v%m) m:=fun i hi ne=>by
  refine uc ?_;unfold tG;rw[fV J,af,lZ J];rfl
 have cg:∀j:Nat,j<k+k->g ((ls.getD c []).map fun x=>x*v%m) j=g (ls.getD c []) j*v%m:=fun j hj=>rA (by rw[len c hc];exact hj);have o1:∀j:Nat,j<k+k->m∣g ((tG m c v ls).getD c []) j-g (ls.getD c []) j*v:=fun j hj=>by rw[own,cg j hj];exact Lt.lG _ _
 have o2:∀i j:Nat,i<k->i≠c->j<k+k->m∣g ((tG m c v ls).getD i []) j-(g (ls.getD i []) j-g (ls.getD i []) c*(g (ls.getD c []) j*v)):=fun i j hi ne hj=>by
  rw[oth i hi ne];have a:=DR (m:=m) (many:=g (ls.getD i []) c) (row:=ls.getD i []) (other:=(ls.getD c []).map fun x=>x*v%m) (by rw[aa,len i hi,len c hc]) (i:=j) (by rw[len i hi];exact hj);rw[cg j hj] at a;have b:m∣g (ls.getD i []) c*(g (ls.getD c []) j*v%m-g (ls.getD c []) j*v):=ay (Lt.lG _ _);have:=bf a b;generalize g (ls.getD c []) j*v%m=y at *;rwa [show ∀a b d e:Int,a-(b-d*y)-d*(y-e)=a-(b-d*e) from fun a b d e=>by grind] at this
 refine h.step hc (v:=v) ?_ (fun j hj=>?_) (fun t ht=>?_) (fun i j hi ne hj=>?_) (fun i t hi ne ht=>?_)
 .unfold wl;rw[Int.toNat_natCast];exact hv
 .unfold wl;rw[Int.toNat_natCast,Int.toNat_natCast];exact o1 j J
 .unfold wr;rw[Int.toNat_natCast,Int.toNat_natCast];exact o1 (k+t) J
 .unfold wl;rw[Int.toNat_natCast,Int.toNat_natCast,Int.toNat_natCast];exact o2 i j hi ne J
 .unfold wr wl;rw[Int.toNat_natCast,Int.toNat_natCast,Int.toNat_natCast];exact o2 i (k+t) hi ne J
theorem HR {c:Nat}{v:Int}(ll:ls.length=k)(hc:c<k)(lw:∀row∈ls,row.length=k+k):(tG m c v ls).length=k/\∀row∈tG m c v ls,row.length=k+k:=by
 have lc:(ls.getD c []).length=k+k:=lw _ (k5 J);refine⟨by unfold tG;rw[List.length_set,List.length_map,ll],fun row hr=>?_⟩;unfold tG at hr;rcases List.mem_or_eq_of_mem_set hr with q | q
 .obtain⟨r,IL,rfl⟩:=List.mem_map.mp q;rw[zZ (by rw[aa,lc,lw r IL]),lw r IL]
 .rw[q,aa,lc]
theorem Je (ll:ls.length=k)(h:Gj m k M k (wl k ls) (wr k ls)):LI m k (mt (ls.map fun row=>row.drop k)) M:=by
 have e:=h.end;intro i j hi hj;have a:=e i j hi hj;have b:(Ld.S k fun t=>mt (ls.map fun row=>row.drop k) i t*M t j)=Ld.S k fun t=>wr k ls i t*M t j:=Ld.jT fun t ht=>by
  rw[uS];unfold wr;rw[ae,ae,uc (row:=(ls.getD i []).drop k) (by rw[af,lZ J];rfl),B4]
 rw[b];exact a
theorem JQ {p:Int}(hp:Pt.m9 p){x:Int}(nx:¬p∣x){E:Nat}{d:Int}(d1:1<=d)(dm:d∣p^E)(dx:d∣x):d=1:=by
 have c:=Pt.JE hp nx;have c2:Nat.Coprime (p.natAbs^E) x.natAbs:=iV E c;have a:d.natAbs∣p.natAbs^E:=by rw[<-jF];exact aX.mpr dm
 have b:d.natAbs∣x.natAbs:=aX.mpr dx;have:=Nat.dvd_gcd a b;rw[c2] at this;have:=gu Nat.one_pos this;lia
end Rx
namespace Mx
variable {R:Int->Int->Int}
theorem yR {p:Int}(p2:2<=p){k:Nat}(ci:CI p k R){goal:Int->Int}{D b:Int}{y x:Int->Int}(b0:0<b)(hy:∀i:Nat,i<k->(Ld.S k fun t=>R i t*y t)=D*goal i)(hx:∀i:Nat,i<k->(Ld.S k fun t=>R i t*x t)=b*goal i)
 (one:∀d:Int,d∣b->(∀t:Nat,t<k->d∣x t)->d∣1):b∣D/\∀t:Nat,t<k->D*x t=b*y t:=by
  have e:∀t:Nat,t<k->D*x t=b*y t:=fun t ht=>by
    have:=ci.inj p2 (y:=fun t=>D*x t-b*y t) (fun i hi=>by
      have:(Ld.S k fun t=>R i t*(D*x t-b*y t))=D*(Ld.S k fun t=>R i t*x t) + -b*Ld.S k fun t=>R i t*y t:=by
        rw[<-Ld.ku,<-Ld.ku,<-Ld.mD];exact Ld.jT fun t _=>by grind
      rw[this,hx i hi,hy i hi];grind) t ht
    have z:D*x t-b*y t=0:=this;lia
  refine⟨?_,e⟩;obtain⟨G,hG⟩:∃G:Nat,G=Int.gcd b D:=⟨_,Z⟩;obtain⟨b',hb⟩:(G:Int)∣b:=by rw[hG];exact Int.gcd_dvd_left ..
  obtain⟨D',hD⟩:(G:Int)∣D:=by rw[hG];exact Int.gcd_dvd_right ..
  have G0:0<G:=by
    rcases Nat.eq_zero_or_pos G with z | z
    · rw[z] at hb;have:b=0:=by rw[hb];exact aY _
      lia
    · exact z
  have As:Int.gcd b' D'=1:=by
    rw[hb,hD,hV,cC] at hG;have:G*1=G*Int.gcd b' D':=by rw[ib];exact hG
    exact(gg G0 this).symm
  have d1:b'∣1:=one b' ⟨G,by rw[hb,aB]⟩ fun t ht=>by
    have h:=e t ht;rw[hb,hD] at h;have h':D'*x t=b'*y t:=aS (show (G:Int)≠0 by lia) (by rw[<-aK,<-aK];exact h);have d:b'∣D'*x t:=⟨y t,h'⟩;have d':=aX.mpr d;rw[aM] at d';exact aX.mp (d9 As d')
  obtain⟨z,hz⟩:=d1;refine⟨z*D',?_⟩;rw[hD,hb];have:(G:Int)*D'=G*(b'*z)*D':=by rw[<-hz,bX]
  rw[this];grind
theorem V5 {p:Int}(hp:Pt.m9 p){k C G:Nat}(hC:1<=C){goal:Int->Int}(ci:CI p k R)(hR:∀i t:Nat,i<k->t<k->(R i t).natAbs<=C)(hg:∀i:Nat,i<k->(goal i).natAbs<=G){D:Nat}(D1:1<=D)(al:∀v:Int->Int,La k R fun i=>D*v i) :
  ∃(x:Int->Int)(s:Int),0<s/\¬p∣s/\(∀i:Nat,i<k->(Ld.S k fun t=>R i t*x t)=s*goal i)/\s∣D/\(∀t:Nat,t<k->(x t).natAbs<=k*(D*(Sg.uH k C*G)))/\∀d:Int,d∣s->(∀t:Nat,t<k->d∣x t)->d∣1:=by
 have p2:=hp.1;obtain⟨x,s,s0,ps,hx,_,_,one⟩:=Ac hp (C:=C+G) J ci (fun i t hi ht=>Nat.le_trans (hR i t hi ht) J) (fun i hi=>Nat.le_trans (hg i hi) J)
 -- what X0 each place in
 have ex:∀j:Nat,∃X:Int->Int,j<k->(∀i:Nat,i<k->(Ld.S k fun t=>R i t*X t)=D*if i=j then 1 else 0)/\∀t:Nat,t<k->(X t).natAbs<=D*Sg.uH k C:=fun j=>by
  by_cases hj:j<k
  .obtain⟨z,s',Oj,_,hz,zb,_,X1⟩:=Ac hp hC (goal:=fun i=>if i=(j:Int) then 1 else 0) ci hR (fun i hi=>by
    show (if (i:Int)=j then (1:Int) else 0).natAbs<=C
    by_cases c:(i:Int)=j
    .rw[aD c];exact hC
    .rw[ao c];exact dJ _)
   obtain⟨X,hX⟩:=al fun i=>if i=(j:Int) then 1 else 0;obtain⟨sd,e⟩:=yR p2 ci (goal:=fun i=>if i=(j:Int) then 1 else 0) Oj hX hz X1;refine⟨X,fun _=>⟨fun i hi=>?_,fun t ht=>?_⟩⟩
   .have:=hX i hi;dsimp only at this;rw[this]
    by_cases c:i=j
    .rw[aD c,aD J]
    .rw[ao c,ao J]
   .have n:=cQ Int.natAbs (e t ht);rw[aM,aM,cC] at n;have a:=ef D (zb t ht);have b:=cB (X t).natAbs (show 1<=s'.natAbs by lia);lia
  .exact⟨fun _=>0,fun h=>absurd h hj⟩
 obtain⟨X,hX⟩:=Classical.axiomOfChoice ex;have hy:∀i:Nat,i<k->(Ld.S k fun t=>R i t*(fun t=>Ld.S k fun j=>X j.toNat t*goal j) t)=D*goal i:=fun i hi=>by
  have a:(Ld.S k fun t=>R i t*Ld.S k fun j=>X j.toNat t*goal j)=Ld.S k fun j=>Ld.S k fun t=>R i t*X j.toNat t*goal j:=by
   rw[Ld.mO];exact Ld.jT fun t _=>by rw[<-Ld.ku];exact Ld.jT fun j _=>by grind
  show (Ld.S k fun t=>R i t*Ld.S k fun j=>X j.toNat t*goal j)=D*goal i
  rw[a];have b:(Ld.S k fun j=>Ld.S k fun t=>R i t*X j.toNat t*goal j)=Ld.S k fun j=>D*goal j*if j=(i:Int) then 1 else 0:=Ld.jT fun j hj=>by
   rw[Ld.pY,ae,(hX j hj).1 i hi]
   by_cases c:i=j
   .rw[aD c,aD J];grind
   .rw[ao c,ao J];grind
  rw[b,mf (F:=fun j=>D*goal j) hi]
 obtain⟨sd,e⟩:=yR p2 ci s0 hy hx one;refine⟨x,s,s0,ps,hx,sd,fun t ht=>?_,one⟩;have n:=cQ Int.natAbs (e t ht);rw[aM,aM,cC] at n;have yb:=Sg.xJ (m:=k) (F:=fun j=>X j.toNat t*goal j) (B:=D*(Sg.uH k C*G)) fun j hj=>by
  show (X (j:Int).toNat t*goal j).natAbs<=_
  rw[aM,ae,<-gx];exact cL ((hX j hj).2 t ht) (hg j hj)
 have sD:s.natAbs<=D:=gu D1 (by have:=aX.mpr sd;rwa [cC] at this);have a:=cL sD yb;rw[<-n] at a;exact ix a D1
end Mx
namespace Rx
open Lt (g)
open Mx
def cn (n m:Int):Int:=if 2*(n%m)<=m then n%m else n%m-m
inductive Am (sc H:Int):List Int->Int->Prop where
 | nil:Am sc H [] 1
 | snoc {l:List Int}{b x r0 r1 c0 c1:Int}:Am sc H l b->Eb.St sc (x*b%sc) r0 r1 c0 c1->H<=r0->r1<H->Am sc H (l++[x]) (b*c1.natAbs)
theorem Am.pos {sc H:Int}(HH:H<=sc){l:List Int}{b:Int}(h:Am sc H l b):0<b:=by
 induction h with
 | nil=>decide
 | @snoc l b x r0 r1 c0 c1 _ s _ lt ih =>
  have ne:=s.KZ J;exact ie ih J
theorem Am.done {p:Int}(hp:Pt.m9 p){E:Nat}{s:Int}(s0:0<s)(ps:¬p∣s){B H:Int}(sB:s<=B)(hH:4*B<=H)(HH:H*H<=p^E){x:Nat->Int}{l:List Int}{b:Int}(h:Am (p^E) H l b) :
  (∀t,t<l.length->p^E∣s*g l t-x t)->(∀t,t<l.length->((x t).natAbs:Int)<=B)->0<b/\b∣s/\∀t,t<l.length->s∣b*x t:=by
 induction h with
 | nil=>exact fun _ _=>⟨O,fY _,fun t ht=>absurd ht (bI _)⟩
 | @snoc l b y r0 r1 c0 c1 _ st h0 h1 ih =>
  intro hr hx;have len:(l++[y]).length=l.length+1:=by rw[aI];rfl
  obtain⟨b0,bs,al⟩:=ih (fun t ht=>by have:=hr t J;rwa [rY ht] at this) (fun t ht=>hx t J);have e:g (l++[y]) l.length=y:=by have:=wU (a:=l) (b:=[y]) (n:=l.length) (i:=0) Z;rw[Nat.add_zero] at this;rw[this];rfl
  have hy:=hr l.length J;rw[e] at hy;obtain⟨Sn,d1,d2⟩:=V9 hp s0 ps b0 bs hy sB (hx l.length J) hH HH st h0 h1;refine⟨ie b0 Sn,d1,fun t ht=>?_⟩;rcases Nat.lt_or_ge t l.length with q | q
  .have:=ay (b:=(c1.natAbs:Int)) (al t q);rwa [show (c1.natAbs:Int)*(b*x t)=b*c1.natAbs*x t by grind] at this
  .have:t=l.length:=J;rw[this];exact d2
theorem sA {p q:Int}(hp:Pt.m9 p)(hq:Pt.m9 q):∀{E:Nat},q∣p^E->q=p
 | 0,h=>by
  rw[eL] at h;have:=aU O h;have:=hq.1;lia
 | E+1,h=>by
  rw[bx] at h
  by_cases c:q∣p^E
  .exact sA hp hq c
  .have d:=nW hq h c;have a:=aU (by have:=hp.1;lia) d;rcases Int.lt_or_le q p with l | l
   .exact absurd d (hp.2 q hq.1 l)
   .lia
theorem Am.red {p:Int}(hp:Pt.m9 p){E:Nat}{H Bt:Int}(HH:2*(H*H)<=p^E)(H0:1<=H)(BH:Bt<H){q:Int}(hq:Pt.m9 q){l:List Int}{b:Int}(h:Am (p^E) H l b) :
  ∀e:Int,1<=e->b*e=Bt->¬q∣e->q∣b->(∀x∈l,q∣cn (x*Bt) (p^E))->(q=p->∀x∈l,p^E∣cn (x*Bt) (p^E)/p-Bt/p*x)->dR:=by
 have So:H<=H*H:=by have:=av H0 (show 0<=H by lia);lia
 induction h with
 | nil =>
  intro e _ _ _ d _ _;have:=aU O d;have:=hq.1;lia
 | @snoc l b x r0 r1 c0 c1 fr s h0 h1 ih =>
  intro e e1 eb qe qb tp ex;have b0:=fr.pos J;have ne:=s.KZ J;have Sn:0<(c1.natAbs:Int):=J;have bc:1<=b*c1.natAbs:=ie b0 Sn;have Sq:=s.p1
  by_cases qc:q∣(c1.natAbs:Int)
  .have X2:q∣c1:=ge.mp qc;have eB:e<=Bt:=by rw[<-eb];have:=av bc (show 0<=e by lia);lia
   obtain⟨m0,m1,_,Od,det⟩:=s.m;obtain⟨τ,Om⟩:∃τ:Int,τ=if 0<=c1 then r1*e else -(r1*e):=⟨_,Z⟩;have small:r1*e<=(H-1)*(H-1):=cS J J J J;have sq:(H-1)*(H-1)=H*H-2*H+1:=by grind
   have re0:0<=r1*e:=bE Sq J;have τa:((τ.natAbs:Nat):Int)=r1*e:=by rw[Om];split<;>omega
   have scp:0<p^E:=J;obtain⟨v,hv⟩:=Lt.lG (x*b) (p^E);have con:p^E∣x*Bt-τ:=by
    rw[<-eb,Om]
    by_cases sg:0<=c1
    .rw[aD sg,show (c1.natAbs:Int)=c1 by lia];refine⟨e*(-(c1*v)-m1),?_⟩;have:x*b=x*b%p^E-p^E*v:=J;have z:x*(b*c1*e)=x*b*c1*e:=by grind
     rw[z,this,Od];grind
    .rw[ao sg,show (c1.natAbs:Int)=-c1 by lia];refine⟨e*(c1*v+m1),?_⟩;have:x*b=x*b%p^E-p^E*v:=J;have z:x*(b * -c1*e)=-(x*b*c1*e):=by grind
     rw[z,this,Od];grind
   have ce:cn (x*Bt) (p^E)=τ:=GZ scp con (by rw[τa];lia);have ZJ:=tp x (bu _ aq);rw[ce] at ZJ;have qr:q∣r1:=by
    have:q∣e*r1:=by
     have a:q∣(τ.natAbs:Int):=ge.mpr ZJ;rw[τa,aB] at a;exact a
    exact nW hq this qe
   have ZK:¬q∣m1:=fun d=>by
    have a:q∣m0*c1-m1*c0:=bf (ay X2) (aE d);have b:q∣1:=by
     rcases det with z | z
     .rwa [z] at a
     .rw[z] at a;exact dL.mp a
    have:=aU O b;have:=hq.1;lia
   have qsc:q∣p^E:=by
    have a:q∣r1-c1*(x*b%p^E):=bf qr (aE X2);rw[show r1-c1*(x*b%p^E)=m1*p^E by lia] at a;exact nW hq a ZK
   have qp:=sA hp hq qsc;subst qp;have q0:q≠0:=by have:=hq.1;lia
   obtain⟨Ap,X3⟩:=X2;obtain⟨Ef,Ip⟩:=qr;have fin:=ex Z x (bu _ aq);rw[ce] at fin;have key:q^E∣e*(Ef-Ap*(x*b)):=by
    by_cases sg:0<=c1
    .rw[aD sg] at Om;have d1:τ/q=Ef*e:=by rw[Om,Ip,aK,aG _ q0]
     have d2:Bt/q=b*Ap*e:=by
      rw[<-eb,show (c1.natAbs:Int)=c1 by lia,X3,show b*(q*Ap)*e=q*(b*Ap*e) by grind,Int.mul_ediv_cancel_left _ q0]
     rw[d1,d2] at fin;rwa [show Ef*e-b*Ap*e*x=e*(Ef-Ap*(x*b)) by grind] at fin
    .rw[ao sg] at Om;have d1:τ/q=-(Ef*e):=by rw[Om,Ip,show -(q*Ef*e)=q * -(Ef*e) by grind,Int.mul_ediv_cancel_left _ q0]
     have d2:Bt/q=-(b*Ap*e):=by
      rw[<-eb,show (c1.natAbs:Int)=-c1 by lia,X3,show b * -(q*Ap)*e=q * -(b*Ap*e) by grind,Int.mul_ediv_cancel_left _ q0]
     rw[d1,d2] at fin;have:=dL.mpr fin;rwa [show -(-(Ef*e) - -(b*Ap*e)*x)=e*(Ef-Ap*(x*b)) by grind] at this
   have k2:=sF hp qe E key;have k3:q^E∣Ef-Ap*(x*b%q^E):=by
    have:=bf k2 (ay (b:=Ap) (Lt.lG (x*b) (q^E)));rwa [show Ef-Ap*(x*b)-Ap*(x*b%q^E-x*b)=Ef-Ap*(x*b%q^E) by grind] at this
   obtain⟨y,hy⟩:=k3;refine ZK ⟨y,Int.eq_of_mul_eq_mul_right (show q^E≠0 by lia) ?_⟩;have a:r1-c1*(x*b%q^E)=m1*q^E:=J;rw[<-a,Ip,X3];have:q*Ef-q*Ap*(x*b%q^E)=q*(Ef-Ap*(x*b%q^E)):=by grind
   rw[this,hy];grind
  .have X4:q∣b:=by
    rw[aB] at qb;exact nW hq qb qc
   refine ih (c1.natAbs*e) (ie Sn J) (by rw[<-aK];exact eb) (fun d=>qe (nW hq d qc)) X4 (fun x hx=>tp x (cN _ hx)) (fun z x hx=>ex z x (cN _ hx))
theorem Am.As {p:Int}(hp:Pt.m9 p){E:Nat}{H:Int}(HH:2*(H*H)<=p^E)(H0:1<=H){k:Nat}{R:Int->Int->Int}(ci:CI p k R){l:List Int}(ll:l.length=k){b:Int}(h:Am (p^E) H l b)(bH:b<H){goal left:Int->Int}
  (lf:∀i:Nat,i<k->(Ld.S k fun t=>R i t*fn l t)+p^E*left i=goal i)(sol:∀i:Nat,i<k->(Ld.S k fun t=>R i t*cn (fn l t*b) (p^E))=b*goal i) :
  ∀d:Int,d∣b->(∀t:Nat,t<k->d∣cn (fn l t*b) (p^E))->d∣1:=fun d db dt=>by
 have So:H<=H*H:=by have:=av H0 (show 0<=H by lia);lia
 have b0:=h.pos J;have d0:d≠0:=fun z=>by rw[z] at db;have:=gc.mp db;lia
 by_cases c:d.natAbs=1
 .exact aX.mp (by rw[c];exact iR 1)
 .exfalso;obtain⟨q,hq,qd'⟩:=Pt.Bf (n:=(d.natAbs:Int)) J;have qd:q∣d:=ge.mp qd';have tops:∀x∈l,∃t:Nat,t<k/\fn l t=x:=fun x hx=>by
   obtain⟨t,ht,e⟩:=sO hx;exact⟨t,J,by unfold fn;rw[Int.toNat_natCast];exact e⟩
  refine h.red hp HH H0 bH hq 1 O (bX b) (fun z=>?_) (bF qd db) (fun x hx=>?_) (fun e=>?_)
  .have:=aU O z;have:=hq.1;lia
  .obtain⟨t,ht,e⟩:=tops x hx;rw[<-e];exact bF qd (dt t ht)
  .subst e;have q0:q≠0:=by have:=hq.1;lia
   obtain⟨b',hb⟩:=Int.dvd_trans qd db;have al:=ci.pow (by have:=hq.1;lia) E (y:=fun t=>cn (fn l t*b) (q^E)/q-b'*fn l t) fun i hi=>by
    have e1:q*(Ld.S k fun t=>R i t*(cn (fn l t*b) (q^E)/q-b'*fn l t))=(Ld.S k fun t=>R i t*cn (fn l t*b) (q^E)) + -b*Ld.S k fun t=>R i t*fn l t:=by
     rw[<-Ld.ku,<-Ld.ku,<-Ld.mD];refine Ld.jT fun t ht=>?_;have z:=cZ (bF qd (dt t ht));generalize cn (fn l t*b) (q^E)/q=y at *;rw[<-z,hb];grind
    rw[sol i hi] at e1;have e2:=lf i hi;refine⟨b'*left i,aS q0 ?_⟩;show q*(Ld.S k fun t=>R i t*(cn (fn l t*b) (q^E)/q-b'*fn l t))=_
    rw[e1,<-e2,hb];grind
   intro x hx;obtain⟨t,ht,e⟩:=tops x hx;have:=al t ht;rw[<-e,show b/q=b' by rw[hb,aG _ q0]];exact this
variable {rows:List (List Int)}
structure Sc (p:Int)(k:Nat)(R:Int->Int->Int)(goal:Int->Int)(D B:Nat):Prop where
 hp:Pt.m9 p
 ci:CI p k R
 ex:∃(x:Int->Int)(s:Int),0<s/\¬p∣s/\(∀i:Nat,i<k->(Ld.S k fun t=>R i t*x t)=s*goal i)/\s<=B/\(∀t:Nat,t<k->((x t).natAbs:Int)<=B)/\∀d:Int,d∣s->(∀t:Nat,t<k->d∣x t)->d∣1
 al:∀v:Int->Int,La k R fun i=>D*v i
theorem M7 {a b:Int}(a0:0<=a)(b0:0<=b)(h:a*a<b*b):a<b:=by
 rcases Int.lt_or_le a b with c | c
 .exact c
 .have:=cS c c b0 a0;lia
section
variable {p:Int}{k D B e:Nat}{R:Int->Int->Int}{goal left:Int->Int}{rests:List Int}{H b:Int}
theorem Sc.great (HH:p^e<8*(H*H))(H0:1<=H)(gr:128*((B:Int)*B)<=p^e):4*(B:Int)<=H:=by
 have:(4*(B:Int))*(4*B)<H*H:=by
  rw[show (4*(B:Int))*(4*B)=16*(B*B) by grind];lia
 have:=M7 J J this;lia
theorem Sc.none (S:Sc p k R goal D B)(lif:zB k R goal (p^e) (fn rests) left)(ll:rests.length=k){l1 l2:List Int}(pre:rests=l1++l2)(fr:Am (p^e) H l1 b)(Hb:H<=b)(H0:1<=H)(HH:2*(H*H)<=p^e)(H8:p^e<8*(H*H)):p^e<128*((B:Int)*B):=by
 refine jv fun gr=>?_;have p2:=S.hp.1;obtain⟨x,s,s0,ps,hx,sB,xB,_⟩:=S.ex;have big:=Sc.great H8 H0 gr;have le:l1.length<=k:=by rw[<-ll,pre,aI];lia
 obtain⟨b0,bs,_⟩:=fr.done S.hp s0 ps sB big (by have:=Int.mul_nonneg (show 0<=H by lia) (show 0<=H by lia);lia) (x:=fun t=>x t) (fun t ht=>by
  have:=lif.rest J S.ci hx t J;unfold fn at this;rw[ae,pre,rY ht] at this;exact this) (fun t ht=>xB t J)
 have:=aU s0 bs;lia
theorem Sc.not (S:Sc p k R goal D B)(lif:zB k R goal (p^e) (fn rests) left)(ll:rests.length=k)(fr:Am (p^e) H rests b)(H0:1<=H)(HH:2*(H*H)<=p^e)(H8:p^e<8*(H*H))(no:¬∀i:Nat,i<k->(Ld.S k fun t=>R i t*cn (fn rests t*b) (p^e))=b*goal i):p^e<128*((B:Int)*B):=by
 refine jv fun gr=>no ?_;have p2:=S.hp.1;obtain⟨x,s,s0,ps,hx,sB,xB,one⟩:=S.ex;have big:=Sc.great H8 H0 gr;have rs:∀t:Nat,t<k->p^e∣s*fn rests t-x t:=fun t ht=>lif.rest J S.ci hx t ht;obtain⟨b0,bs,al⟩:=fr.done S.hp s0 ps sB big (by have:=Int.mul_nonneg (show 0<=H by lia) (show 0<=H by lia);lia) (x:=fun t=>x t) (fun t ht=>by
  have:=rs t J;unfold fn at this;rwa [ae] at this) (fun t ht=>xB t J)
 have eb:=GU s0 b0 bs (fun t ht=>al t J) one;have HB:(B:Int)*B >= B:=by
  have:(1:Int)<=B:=J;have:=av this (show (0:Int)<=B by lia);lia
 intro i hi;rw[eb,<-hx i hi];refine Ld.jT fun t ht=>?_;have c:=GZ (n:=fn rests t*s) (m:=p^e) (x:=x t) J (by rw[aB];exact rs t ht) (by have:=xB t ht;lia);show R i t*cn (fn rests t*s) (p^e)=R i t*x t
 unfold cn;rw[c]
theorem Sc.bot (S:Sc p k R goal D B)(lif:zB k R goal (p^e) (fn rests) left)(ll:rests.length=k)(fr:Am (p^e) H rests b)(bH:b<H)(H0:1<=H)(HH:2*(H*H)<=p^e)(sol:∀i:Nat,i<k->(Ld.S k fun t=>R i t*cn (fn rests t*b) (p^e))=b*goal i):b∣D:=by
 obtain⟨y,hy⟩:=S.al goal;have So:H<=H*H:=by have:=av H0 (show 0<=H by lia);lia
 exact(yR S.hp.1 S.ci (fr.pos J) hy sol (fr.As S.hp HH H0 S.ci ll bH lif.eq sol)).1
end
theorem BN {k i:Nat}{x:List Int}(lr:rows.length=k)(lw:∀row∈rows,row.length=k)(hi:i<k)(lx:x.length=k):dot (rows.getD i []) x=Ld.S k fun t=>mt rows i t*fn x t:=by
 rw[nZ (lw _ (k5 J)) lx];refine Ld.jT fun t _=>?_;unfold mt fn;rw[ae,ae]
theorem J1 {k:Nat}{R:Int->Int->Int}{goal left r:Int->Int}{sc:Int}{C G:Nat}(s1:1<=sc)(lif:zB k R goal sc r left)(hR:∀i t:Nat,i<k->t<k->(R i t).natAbs<=C)(hg:∀i:Nat,i<k->(goal i).natAbs<=G)(i:Nat)(hi:i<k):(left i).natAbs<=G+k*C:=by
 have e:=lif.eq i hi;have b:=Mx.xJ (F:=fun t=>R i t*r t) (B:=C*sc) (k:=k) fun t ht=>by
  have a:=hR i t hi ht;have c:=lif.rg t ht;rw[aM,aP];exact cS J J J J
 have n:sc*(left i).natAbs<=G+k*(C*sc):=by
  have g1:=hg i hi;have:sc*(left i).natAbs=((sc*left i).natAbs:Int):=by rw[aM,aP];congr 1;lia
  rw[this,show sc*left i=goal i-Ld.S k fun t=>R i t*r t by lia];lia
 have q:sc*(left i).natAbs<=sc*(G+k*C:Nat):=by
  have g2:=av s1 (show (0:Int)<=G by lia);rw[ip,aP,e8];have:sc*((k:Int)*C)=k*(C*sc):=by grind
  lia
 have:=Int.le_of_mul_le_mul_left q J;lia
theorem HV {m:Int}(hm:1<=m){k:Nat}{us:List (List Int)}{goal:Int->Int}{sc:Int}(hs:1<=sc){rests left:List Int}(lr:rows.length=k)(lw:∀row∈rows,row.length=k)(lu:us.length=k)(lv:∀row∈us,row.length=k)(l1:rests.length=k)(l2:left.length=k)
 (ri:RI m k (mt rows) (mt us))(h:zB k (mt rows) goal sc (fn rests) (fn left)){more:List Int}(em:more=us.map fun u=>dot u left%m) :
    zB k (mt rows) goal (sc*m) (fn (List.zipWith (fun r y=>r+sc*y) rests more)) (fn (List.zipWith (fun row x=>(x-dot row more)/m) rows left)):=by
  have lm:more.length=k:=by rw[em,aa,lu]
  have mg:∀t:Nat,t<k->fn more t=(Ld.S k fun j=>mt us t j*fn left j)%m:=fun t ht=>by
    rw[<-BN lu lv ht l2];unfold fn;rw[ae];exact lB (by rw[em,af,lZ J];rfl)
  have st:=h.step hm ri hs (more:=fn more) (oa:=fn (List.zipWith (fun row x=>(x-dot row more)/m) rows left)) mg fun i hi=>by
    rw[<-BN lr lw hi lm];unfold fn;rw[ae];exact lB (by rw[bU,lZ J,lD J])
  refine⟨fun i hi=>?_,fun t ht=>?_⟩
  · rw[<-st.eq i hi]
    congr 1;refine Ld.jT fun t ht=>?_;congr 1;unfold fn;rw[ae,ye J J]
  · have a:=st.rg t ht
    unfold fn at a ⊢;rw[ae] at a ⊢;rw[ye J J];exact a
variable {k n:Nat}{M M':Int->Int->Int}{rows:List (List Int)}
def kC (fs:List Fd):List Nat:=fs.map fun f=>f.2.1
def numsOf (fs:List Fd):List Nat:=fs.map fun f=>f.1
def rowsOf (steps:List (List Int))(fs:List Fd):List (List Int):=fs.map fun f=>(kC fs).map fun c=>g (steps.getD f.1 []) c
theorem vz.xh {p:Int}(h:vz p k M)(e:∀s t:Nat,s<k->t<k->M s t=M' s t):vz p k M':=fun y hy=>h y fun t ht=>by
 have:=hy t ht;rwa [Ld.jT (G:=fun s=>y s*M s t) fun s hs=>by rw[e s t hs ht]] at this
theorem La.xh {v:Int->Int}(h:La k M v)(e:∀s t:Nat,s<k->t<k->M s t=M' s t):La k M' v:=by
 obtain⟨x,hx⟩:=h;exact⟨x,fun i hi=>by rw[<-hx i hi];exact Ld.jT fun t ht=>by rw[e i t hi ht]⟩
theorem CI.xh {p:Int}(h:CI p k M)(e:∀s t:Nat,s<k->t<k->M s t=M' s t):CI p k M':=fun y hy=>h y fun i hi=>by
 have:=hy i hi;rwa [Ld.jT (G:=fun t=>M i t*y t) fun t ht=>by rw[e i t hi ht]] at this
theorem mj {steps:List (List Int)}{fs:List Fd}:(rowsOf steps fs).length=fs.length/\∀row∈rowsOf steps fs,row.length=fs.length:=by
 refine⟨by unfold rowsOf;rw[List.length_map],fun row h=>?_⟩;unfold rowsOf at h;obtain⟨f,_,rfl⟩:=List.mem_map.mp h;rw[aa];unfold kC;rw[List.length_map]
theorem ur {steps:List (List Int)}{fs:List Fd}{i j:Nat}(hi:i<fs.length)(hj:j<fs.length):mt (rowsOf steps fs) i j=st steps (nm fs i) (cl fs j):=by
 rw[uS];have e:(rowsOf steps fs)[i]?=some ((kC fs).map fun c=>g (steps.getD (fs.getD i (0,0,[])).1 []) c):=by
  unfold rowsOf;rw[af,ax hi,getD_at (ax hi)];rfl
 rw[uc e];unfold st nm cl;rw[ae];refine lB ?_;unfold kC;rw[af,af,ax hj,getD_at (ax hj)];rfl
theorem zR (lr:rows.length=k):(xH k rows).length=k/\∀row∈xH k rows,row.length=k:=by
 refine⟨by unfold xH;rw[List.length_map,List.length_range],fun row h=>?_⟩;unfold xH at h;obtain⟨c,_,rfl⟩:=List.mem_map.mp h;rw[aa,lr]
theorem uI (lr:rows.length=k){i j:Nat}(hi:i<k)(hj:j<k):mt (xH k rows) i j=mt rows j i:=by
 rw[uS,uS];have e:(xH k rows)[i]?=some (rows.map fun row=>g row i):=by
  unfold xH;rw[af,dC hi];rfl
 rw[uc e];exact lB (by rw[af,lZ J];rfl)
structure xM (p:Int)(w:Nat)(steps:List (List Int))(fs:List Fd)(us:List (List Int))(D C:Nat):Prop where
 hp:Pt.m9 p
 crn:qI p w steps steps.length fs
 ul:us.length=fs.length
 uw:∀u∈us,u.length=fs.length
 li:LI (p^16) fs.length (mt us) (mt (rowsOf steps fs))
 C1:1<=C
 bd:∀(j c:Nat),j<steps.length->c<w->(st steps j c).natAbs<=C
 D1:1<=D
 Db:D<=(2*(fs.length*C)+1)^fs.length
 al1:∀v:Int->Int,La fs.length (mt (xH fs.length (rowsOf steps fs))) fun i=>D*v i
 al2:∀v:Int->Int,La fs.length (mt (rowsOf steps fs)) fun i=>D*v i
theorem qI.ind {p:Int}{w:Nat}{steps:List (List Int)}{n:Nat}{fs:List Fd}(h:qI p w steps n fs)(c:Nat)(hc:c<=fs.length):vz p c (mt (rowsOf steps fs)) :=
 vz.xh (h.cor.ind c hc) fun s t hs ht=>by rw[ur J J,ae,ae]
theorem qI.sI {p:Int}{w:Nat}{steps:List (List Int)}{n:Nat}{fs:List Fd}(h:qI p w steps n fs){t:Nat}(ht:t<fs.length):nm fs t<n:=h.fr.sI t ht
theorem y4 {p:Int}{w:Nat}{steps:List (List Int)}{fs:List Fd}{C:Nat}(h:qI p w steps steps.length fs)(bd:∀(j c:Nat),j<steps.length->c<w->(st steps j c).natAbs<=C)(i t:Nat)(hi:i<fs.length)(ht:t<fs.length):(mt (rowsOf steps fs) i t).natAbs<=C:=by
 rw[ur hi ht];exact bd _ _ (h.sI hi) (h.cor.colw t ht)
theorem xM.mk' {p:Int}(hp:Pt.m9 p){w:Nat}{steps:List (List Int)}{fs:List Fd}{us:List (List Int)}{C:Nat}(crn:qI p w steps steps.length fs)(ul:us.length=fs.length)(uw:∀u∈us,u.length=fs.length)(li:LI (p^16) fs.length (mt us) (mt (rowsOf steps fs)))(C1:1<=C)
 (bd:∀(j c:Nat),j<steps.length->c<w->(st steps j c).natAbs<=C):∃D,xM p w steps fs us D C:=by
  obtain⟨D,D1,Db,a1,a2⟩:=both hp C1 (crn.ind _ (Nat.le_refl _)) (y4 crn bd);exact⟨D,hp,crn,ul,uw,li,C1,bd,D1,Db,fun v=>La.xh (a1 v) fun s t hs ht=>(uI mj.1 hs ht).symm,a2⟩
section
variable {goal:Int->Int}
variable {p:Int}{w:Nat}{steps:List (List Int)}{fs:List Fd}{us:List (List Int)}{D C G B:Nat}
theorem xM.ci1 (F:xM p w steps fs us D C):CI p fs.length (mt (xH fs.length (rowsOf steps fs))):=CI.xh (F.crn.ind _ (aH _)).ci fun s t hs ht=>(uI mj.1 hs ht).symm
theorem Wq (p:Int):p∣p^16:=⟨p^15,by rw[<-Int.pow_succ']⟩
theorem xM.Zd (F:xM p w steps fs us D C):CI p fs.length (mt (rowsOf steps fs)):=F.li.ci (Wq p)
theorem xM.ri1 (F:xM p w steps fs us D C):RI (p^16) fs.length (mt (xH fs.length (rowsOf steps fs))) (mt (xH fs.length us)):=fun i j hi hj=>by
 have a:=F.li j i hj hi;have e:(Ld.S fs.length fun t=>mt (xH fs.length (rowsOf steps fs)) i t*mt (xH fs.length us) t j)=Ld.S fs.length fun t=>mt us j t*mt (rowsOf steps fs) t i:=Ld.jT fun t ht=>by
  rw[uI mj.1 hi ht,uI F.ul ht hj,aB]
 rw[e]
 by_cases c:i=j
 .rw[aD c];rwa [aD c.symm] at a
 .rw[ao c];rwa [ao (fun z=>c z.symm)] at a
theorem xM.ri2 (F:xM p w steps fs us D C):RI (p^16) fs.length (mt (rowsOf steps fs)) (mt us):=F.li.right (by have:=F.hp.1;lia) (F.crn.ind _ (aH _))
theorem K6 {p:Int}(hp:Pt.m9 p){k:Nat}{R:Int->Int->Int}(ci:CI p k R)(C1:1<=C)(hR:∀i t:Nat,i<k->t<k->(R i t).natAbs<=C)(hg:∀i:Nat,i<k->(goal i).natAbs<=G)(D1:1<=D)(al:∀v:Int->Int,La k R fun i=>D*v i)(DB:D<=B)(big:k*(D*(Sg.uH k C*G))<=B):Sc p k R goal D B:=by
 obtain⟨x,s,s0,ps,hx,sd,xb,one⟩:=V5 hp C1 ci hR hg D1 al;refine⟨hp,ci,⟨x,s,s0,ps,hx,?_,fun t ht=>?_,one⟩,al⟩
 .have:=aU J sd;lia
 .have:=xb t ht;lia
theorem xM.sc1 (F:xM p w steps fs us D C)(hg:∀i:Nat,i<fs.length->(goal i).natAbs<=G)(DB:D<=B)(big:fs.length*(D*(Sg.uH fs.length C*G))<=B):Sc p fs.length (mt (xH fs.length (rowsOf steps fs))) goal D B :=
 K6 F.hp F.ci1 F.C1 (fun i t hi ht=>by rw[uI mj.1 hi ht];exact y4 F.crn F.bd t i ht hi) hg F.D1 F.al1 DB big
theorem xM.sc2 (F:xM p w steps fs us D C)(hg:∀i:Nat,i<fs.length->(goal i).natAbs<=G)(DB:D<=B)(big:fs.length*(D*(Sg.uH fs.length C*G))<=B):Sc p fs.length (mt (rowsOf steps fs)) goal D B :=
 K6 F.hp F.Zd F.C1 (y4 F.crn F.bd) hg F.D1 F.al2 DB big
end
theorem qI.Dr {p:Int}(hp:Pt.m9 p){w:Nat}{steps:List (List Int)}{fs:List Fd}(h:qI p w steps n fs):(kC fs).Nodup:=by
 unfold kC;refine c7.mpr fun i j hi hj lt e=>?_;rw[aa] at hi hj;rw[jw,jw] at e;have ci:cl fs i=fs[i].2.1:=by unfold cl;rw[getD_at (List.getElem?_eq_getElem hi)]
 have cj:cl fs j=fs[j].2.1:=by unfold cl;rw[getD_at (List.getElem?_eq_getElem hj)]
 have z:=h.cor.zero i j lt hj;have o:=h.cor.one j hj;rw[ci,e,<-cj] at z;have:=bf z o;rw[show ∀a:Int,a-(a-1)=1 from fun a=>by lia] at this;have:=aU O this;have:=hp.1;lia
theorem qI.D4 {p:Int}{w:Nat}{steps:List (List Int)}{fs:List Fd}(h:qI p w steps n fs):(numsOf fs).Nodup:=by
 unfold numsOf;exact List.Pairwise.map _ (fun a b (e:a.1<b.1)=>cP e) h.srt
theorem Ad {fs:List Fd}{t:Nat}(ht:t<fs.length):(kC fs)[t]?=some (cl fs t):=by
 unfold kC cl;rw[af,ax ht,ah,ax ht];rfl
theorem D0 {fs:List Fd}{t:Nat}(ht:t<fs.length):(numsOf fs)[t]?=some (nm fs t):=by
 unfold numsOf nm;rw[af,ax ht,ah,ax ht];rfl
theorem n8 {p:Int}{w:Nat}{steps:List (List Int)}{fs:List Fd}(h:qI p w steps n fs):∀c∈kC fs,c<w:=fun c hc=>by
 unfold kC at hc;obtain⟨f,hf,rfl⟩:=List.mem_map.mp hc;exact(h.rok f hf).2.2
theorem vL {p:Int}{w:Nat}{steps:List (List Int)}{fs:List Fd}(h:qI p w steps n fs):∀c∈numsOf fs,c<n:=fun c hc=>by
 unfold numsOf at hc;obtain⟨f,hf,rfl⟩:=List.mem_map.mp hc;exact h.lt f hf
variable {row:Nat->Int->Int}
open Lt
def sL (rows:List (List Int)):Nat->Int->Int:=fun j i=>g (rows.getD j []) i.toNat
theorem Rec.xh {m:Int}{k r:Nat}{G G':Int->Int}{v:List Int}(h:Rec m k r row G v)(e:∀i:Nat,i<k->m∣G i-G' i):Rec m k r row G' v:=fun i hi=>by
 have:=bQ (h i hi) (e i hi);rwa [show ∀a b c d:Int,a-(b+c)+(b-d)=a-(d+c) from fun a b c d=>by lia] at this
theorem Ent.rec {m:Int}{K k r:Nat}(hK:k+r<=K):∀{c:Nat}{ls:List (List Int)}{left:List Int}{ls':List (List Int)},Ent m c ls left ls'->(∀l∈ls,l.length=K)->left.length=K->(∀l∈ls,Rec m k r row (fun _=>0) l)->Rec m k r row (fun _=>0) left->∀l∈ls',Rec m k r row (fun _=>0) l:=by
 intro c ls left ls' h
 induction h with
 | nil=>intro _ _ _ _ l hl;cases hl
 | @skip c l left ls ls' z _ ih =>
  intro ll lf rl rf x hx;rcases List.mem_cons.mp hx with e | e
  .rw[e];exact rl l aq
  .exact ih (fun y hy=>ll y (ar _ hy)) lf (fun y hy=>rl y (ar _ hy)) rf x e
 | @mix c l left ls ls' α β G nz G1 d1 d2 e _ ih =>
  intro ll lf rl rf x hx;have l1:=ll l aq;have r1:=rl l aq;rcases List.mem_cons.mp hx with e' | e'
  .rw[e'];exact Rec.xh (Rec.mix l1 lf r1 rf α β) fun i _=>by rw[bB,bB];exact aZ _
  .refine ih (fun y hy=>ll y (ar _ hy)) (ui lf l1 ..) (fun y hy=>rl y (ar _ hy)) ?_ x e';exact Rec.xh (Rec.mix lf l1 rf r1 _ _) fun i _=>by rw[bB,bB];exact aZ _
def Up (m:Int)(l:List Int):Prop:=∀x∈l,0<=x/\x<=m
theorem M3 {m:Int}(m0:0<m)(one:List Int)(a:Int)(other:List Int)(b:Int):In m (mix one a other b m):=In.zip m0 one other fun x y=>x*a+y*b
theorem In.up {m:Int}{l:List Int}(h:In m l):Up m l:=fun x hx=>⟨(h x hx).1,g5 (h x hx).2⟩
theorem Ent.up {m:Int}(m0:0<m):∀{c:Nat}{ls:List (List Int)}{left:List Int}{ls':List (List Int)},Ent m c ls left ls'->(∀l∈ls,Up m l)->∀l∈ls',Up m l:=by
 intro c ls left ls' h
 induction h with
 | nil=>intro _ l hl;cases hl
 | @skip c l left ls ls' z _ ih =>
  intro ll x hx;rcases List.mem_cons.mp hx with e | e
  .rw[e];exact ll l aq
  .exact ih (fun y hy=>ll y (ar _ hy)) x e
 | @mix c l left ls ls' α β G nz G1 d1 d2 e _ ih =>
  intro ll x hx;rcases List.mem_cons.mp hx with e' | e'
  .rw[e'];exact In.up (M3 m0 l α left β)
  .exact ih (fun y hy=>ll y (ar _ hy)) x e'
structure J6 (m:Int)(k r:Nat)(rows:List (List Int))(j:Nat)(ls:List (List Int)):Prop where
 Cp:BG m (k+r) 0 ls
 len:ls.length=k
 how:Jo m k 0 ls
 kill:∀a:Int->Int,E2 m k a ls->∀i,i<j->m∣dt k (rows.getD i []) a
 rc:∀l∈ls,Rec m k r (sL rows) (fun _=>0) l
 up:∀l∈ls,Up m l
def KP (m:Int)(k r:Nat):List (List Int):=(List.range k).map fun c=>tR (k+r) c m
theorem G8 {m:Int}{K:Nat}:∀{c:Nat}{ls:List (List Int)},(∀(i:Nat)(l:List Int),ls[i]?=some l->l.length=K/\(∀j,j<c+i->g l j=0)/\1<=g l (c+i)/\g l (c+i)∣m)->BG m K c ls
 | _,[],_=>trivial
 | c,l::ls,h=>⟨h 0 l Z,G8 (c:=c+1) fun i x e=>by
   have:=h (i+1) x (by rw[dO];exact e);rwa [show c+(i+1)=c+1+i by lia] at this⟩
theorem GE {m:Int}{k:Nat}:∀{c:Nat}{ls:List (List Int)},(∀(i:Nat)(l:List Int),ls[i]?=some l->∀a:Int->Int,m∣m/g l (c+i)*dt k l a)->Jo m k c ls
 | _,[],_=>trivial
 | c,l::ls,h=>⟨fun a _=>h 0 l Z a,GE (c:=c+1) fun i x e=>by
   have:=h (i+1) x (by rw[dO];exact e);rwa [show c+(i+1)=c+1+i by lia] at this⟩
theorem J6.start {m:Int}(m1:1<=m)(k r:Nat)(rows:List (List Int)):J6 m k r rows 0 (KP m k r):=by
 have at_:∀(i:Nat)(l:List Int),(KP m k r)[i]?=some l->i<k/\l=tR (k+r) i m:=fun i l h=>by
  unfold KP at h;rw[af] at h;rcases Nat.lt_or_ge i k with c | c
  .rw[dC c] at h;exact⟨c,(bK h).symm⟩
  .rw[cH (by rw[gn];exact c)] at h;cases h
 have mem:∀l∈KP m k r,∃i,i<k/\l=tR (k+r) i m:=fun l hl=>by
  obtain⟨i,hi⟩:=List.getElem?_of_mem hl;exact⟨i,at_ i l hi⟩
 refine⟨G8 fun i l h=>?_,by unfold KP;rw[List.length_map,List.length_range],GE fun i l h a=>?_,fun _ _ i hi=>absurd hi (Nat.not_lt_zero _),fun l hl i hi=>?_,fun l hl x hx=>?_⟩
 .obtain⟨ik,rfl⟩:=at_ i l h;refine⟨oR ..,fun j hj=>by rw[ph J,ao J],?_,?_⟩
  .rw[ph J,aD J];exact m1
  .rw[ph J,aD J];exact c5 _
 .obtain⟨ik,rfl⟩:=at_ i l h;rw[ph J,aD J,Int.ediv_self J,cY];unfold dt;refine Mx.tZ fun t _=>?_;rw[ae,ph J];split
  .exact cV ..
  .rw[aY];exact aZ _
 .obtain⟨c,hc,rfl⟩:=mem l hl;rw[ph J];have z:(Ld.S r fun j=>g (tR (k+r) c m) (k+j.toNat)*sL rows j.toNat i)=0:=by
   rw[Ld.jT (G:=fun _=>0) fun j _=>by rw[ph J,ao J,aY],Ld.mX]
  rw[z,cW,dh];split
  .exact c5 _
  .exact aZ _
 .obtain⟨c,hc,rfl⟩:=mem l hl;obtain⟨j,hj,rfl⟩:=sO hx;rw[ph J];split<;>lia
theorem J6.enter {m:Int}(m1:1<=m){k r:Nat}{rows:List (List Int)}(lr:rows.length=r)(lw:∀row∈rows,row.length=k){j:Nat}(hj:j<r){ls ls':List (List Int)}(h:J6 m k r rows j ls)(e:Ent m 0 ls ((rows.getD j []++tR r j 1).map fun x=>x%m) ls'):J6 m k r rows (j+1) ls':=by
 have lj:(rows.getD j []).length=k:=lw _ (k5 J);obtain⟨left,hl⟩:∃left:List Int,left=(rows.getD j []++tR r j 1).map fun x=>x%m:=⟨_,Z⟩;rw[<-hl] at e;have ll:left.length=k+r:=by rw[hl,aa,aI,lj,oR]
 have la:(rows.getD j []++tR r j 1).length=k+r:=by rw[aI,lj,oR]
 have gl:∀i,i<k+r->g left i=g (rows.getD j []++tR r j 1) i%m:=fun i hi=>by rw[hl];exact rA (by rw[la];exact hi)
 have lf:Lf m (k+r) 0 left:=⟨ll,fun i hi=>absurd hi (bI _),fun i=>by
  have:In m left:=by rw[hl];exact In.mod J _ fun x=>x
  exact this.g J i⟩
 have t:=e.Cp m1 h.Cp lf;have X5:∀l∈ls,l.length=k+r:=fun l hl=>by
  obtain⟨i,hi⟩:=List.getElem?_of_mem hl;exact(h.Cp.at hi).1
 refine⟨t.1,by rw[t.2,h.len],e.how m1 h.Cp lf (by rw[h.len,dU]) h.how,fun a ka i hi=>?_,Ent.rec (aH _) e X5 ll h.rc ?_,Ent.up J e h.up⟩
 .have kk:=e.kill m1 a h.Cp lf (by rw[h.len,dU]) ka;rcases Nat.lt_succ_iff_lt_or_eq.mp hi with q | q
  .exact h.kill a kk.1 i q
  .rw[q];refine(n4 ?_).mp kk.2;unfold dt;refine nE fun t ht=>?_;rw[ae,gl t J,rY J,<-cU];exact aE (lG _ _)
 .intro i hi;have a:m∣g left i-sL rows j i:=by
   unfold sL;rw[ae,gl i J,rY J];exact lG _ _
  have b:m∣(Ld.S r fun j'=>g left (k+j'.toNat)*sL rows j'.toNat i)-Ld.S r fun j'=>sL rows j'.toNat i*if j'=(j:Int) then 1 else 0:=nE fun t ht=>by
   rw[ae,gl (k+t) J,wU lj,ph hj]
   by_cases c:t=j
   .rw[aD c,aD J];have:=aE (c:=sL rows t i) (lG 1 m);rw[cU,cY] at this;rwa [bX]
   .rw[ao c,ao J,d8,aY,bB];exact aZ _
  rw[Mx.mf (F:=fun j'=>sL rows j'.toNat i) hj,ae] at b;have:=bf a b;rwa [show ∀x y z:Int,x-y-(z-y)=x-(0+z) from fun x y z=>by lia] at this
structure Gl (m:Int)(k r:Nat)(rows:List (List Int))(goal:List Int)(ls:List (List Int))(c:Nat)(left:List Int):Prop where
 len:left.length=k+r
 zero:∀i,i<c->g left i=0
 rc:Rec m k r (sL rows) (fn goal) left
 dd:∀a:Int->Int,E2 m k a ls->m∣dt k left a-dt k goal a
theorem Gl.start {m:Int}{k r:Nat}{rows:List (List Int)}{goal:List Int}(lg:goal.length=k)(ls:List (List Int)):Gl m k r rows goal ls 0 (goal++List.replicate r 0):=by
 refine⟨by rw[aI,lg,aV],fun i hi=>absurd hi (bI _),fun i hi=>?_,fun a _=>?_⟩
 .have z:(Ld.S r fun j=>g (goal++List.replicate r 0) (k+j.toNat)*sL rows j.toNat i)=0:=by
   rw[Ld.jT (G:=fun _=>0) fun j hj=>by rw[ae,wU lg,Bb hj,aY],Ld.mX]
  rw[z];unfold fn;rw[ae,rY J,cW,cA];exact aZ _
 .have:dt k (goal++List.replicate r 0) a=dt k goal a:=Ld.jT fun i hi=>by rw[ae,rY J]
  rw[this,cA];exact aZ _
theorem Gl.step {m:Int}(m1:1<=m){k r:Nat}{rows:List (List Int)}{goal:List Int}{j:Nat}{ls:List (List Int)}(zgT:J6 m k r rows j ls){c:Nat}{left:List Int}(h:Gl m k r rows goal ls c left){l:List Int}(hl:ls[c]?=some l)(dv:g l c∣g left c):Gl m k r rows goal ls (c+1) (tN left (g left c/g l c) l m):=by
 have t:=zgT.Cp.at hl;rw[dU] at t;have ck:c<k:=by rw[<-zgT.len];exact(aF.mp hl).1
 have el:left.length=l.length:=by rw[h.len,t.1]
 have gd:∀i,i<k+r->m∣g (tN left (g left c/g l c) l m) i-(g left i-g left c/g l c*g l i):=fun i hi=>DR el (by rw[h.len];exact hi);have ex:g left c/g l c*g l c=g left c:=ga dv;refine⟨by rw[zZ el,h.len],fun i hi=>?_,fun i hi=>?_,fun a ka=>?_⟩
 .have zz:g left i-g left c/g l c*g l i=0:=by
   rcases Nat.lt_succ_iff_lt_or_eq.mp hi with q | q
   .rw[h.zero i q,t.2.1 i J,bB];rfl
   .rw[q,ex,cA]
  unfold tN
  by_cases z:g left c/g l c=0
  .rw[aD z];rw[z,aY,dh] at zz;exact zz
  .rw[ao z,ye (by rw[h.len];lia) (by rw[t.1];lia),zz,d8]
 .have r1:=h.rc i hi;have r2:=zgT.rc l (ak hl) i hi;obtain⟨q,hq⟩:∃q,q=g left c/g l c:=⟨_,Z⟩;rw[<-hq] at gd ⊢;have s1:m∣(Ld.S r fun j=>g (tN left q l m) (k+j.toNat)*sL rows j.toNat i)-Ld.S r fun j=>(g left (k+j.toNat)-q*g l (k+j.toNat))*sL rows j.toNat i:=nE fun t ht=>by
   rw[ae,<-cU];exact aE (gd (k+t) J)
  have s2:(Ld.S r fun j=>(g left (k+j.toNat)-q*g l (k+j.toNat))*sL rows j.toNat i)=(Ld.S r fun j=>g left (k+j.toNat)*sL rows j.toNat i) + -q*Ld.S r fun j=>g l (k+j.toNat)*sL rows j.toNat i:=by
   rw[<-Ld.ku,<-Ld.mD];exact Ld.jT fun j _=>by grind
  rw[s2] at s1;have a:=gd i J;have b:=ay (b:=q) r2;have:=bf (bf (bQ a r1) b) s1;generalize (Ld.S r fun j=>g (tN left q l m) (k+j.toNat)*sL rows j.toNat i)=X at *;generalize (Ld.S r fun j=>g left (k+j.toNat)*sL rows j.toNat i)=Y at *;generalize (Ld.S r fun j=>g l (k+j.toNat)*sL rows j.toNat i)=zgQ at *;rwa [show g (tN left q l m) i-(g left i-q*g l i)+(g left i-(fn goal i+Y))-q*(g l i-(0+zgQ))-(X-(Y + -q*zgQ))=g (tN left q l m) i-(fn goal i+X) by grind] at this
 .obtain⟨q,hq⟩:∃q,q=g left c/g l c:=⟨_,Z⟩;rw[<-hq] at gd ⊢;have s1:m∣dt k (tN left q l m) a-(dt k left a-q*dt k l a):=by
   have e:dt k left a-q*dt k l a=Ld.S k fun i=>(g left i.toNat-q*g l i.toNat)*a i:=by
    have:(Ld.S k fun i=>(g left i.toNat-q*g l i.toNat)*a i)=dt k left a + -q*dt k l a:=by
     unfold Lt.dt;rw[<-Ld.ku,<-Ld.mD];exact Ld.jT fun i _=>by grind
    rw[this];grind
   rw[e];unfold Lt.dt;refine nE fun i hi=>?_;rw[ae,<-cU];exact aE (gd i J)
  have b:=ay (b:=q) (ka l (ak hl));have:=bf (bQ s1 (h.dd a ka)) b;rwa [show ∀x y z u:Int,x-(y-z)+(y-u)-z=x-u from fun x y z u=>by lia] at this
theorem Gl.end {m:Int}(m1:1<=m){k r:Nat}{rows:List (List Int)}{goal:List Int}{ls:List (List Int)}{left:List Int}(h:Gl m k r rows goal ls k left){tk:Nat->Int}(ht:∀j,j<r->m∣tk j+g left (k+j))(i:Nat)(hi:i<k):m∣g goal i-Ld.S r fun j=>tk j.toNat*sL rows j.toNat i:=by
 have a:=h.rc i hi;rw[h.zero i hi] at a;have b:m∣(Ld.S r fun j=>tk j.toNat*sL rows j.toNat i)-Ld.S r fun j=>-(g left (k+j.toNat))*sL rows j.toNat i:=nE fun j hj=>by
  rw[ae,<-cU,Int.sub_neg];exact aE (ht j hj)
 have c:(Ld.S r fun j=>-(g left (k+j.toNat))*sL rows j.toNat i)=-1*Ld.S r fun j=>g left (k+j.toNat)*sL rows j.toNat i:=by
  rw[<-Ld.ku];exact Ld.jT fun j _=>by grind
 rw[c] at b;have d:=dL.mpr a;have:=bf d b;unfold fn at this;rw[ae] at this;rwa [show ∀x y z:Int,-(0-(x+y))-(z - -1*y)=x-z from fun x y z=>by lia] at this
theorem EL.xh {m:Int}{k col:Nat}{ls:List (List Int)}{j:Nat}{a a':Int->Int}(h:EL m k col ls j a)(e:∀i:Nat,a i=a' i):EL m k col ls j a':=by
 refine⟨fun i hi=>by rw[<-e];exact h.lo i hi,fun i hi=>by rw[<-e];exact h.hi i hi,fun l hl=>by rw[<-e];exact h.at_ l hl,fun i l hi hl=>?_⟩;have:=h.kl i l hi hl;rwa [show dt k l a=dt k l a' from Ld.jT fun t _=>by rw[e]] at this
theorem vP {F:Int->Int}:∀(a b:Nat),Ld.S (a+b) F=Ld.S a F+Ld.S b fun i=>F (a+i)
 | a,0=>by show Ld.S a F=Ld.S a F+0;lia
 | a,b+1=>by
  show Ld.S (a+b) F+F ((a+b:Nat):Int)=Ld.S a F+((Ld.S b fun i=>F (a+i))+F (a+b))
  rw[vP a b,ip];lia
theorem IR {l am:List Int}{k lo hi:Nat}(ll:k<=l.length)(la:am.length=k)(h1:lo<=hi)(h2:hi<=k)(z1:∀i,i<lo->g am i=0)(z2:∀i,hi<=i->g am i=0) :
  dot ((l.take hi).drop lo) ((am.take hi).drop lo)=dt k l (fn am):=by
 have gt:∀(x:List Int)(i:Nat),i<hi-lo->g ((x.take hi).drop lo) i=g x (lo+i):=fun x i hx=>by
  rw[B4];unfold g;rw[ah,ah,iA J]
 rw[nZ (n:=hi-lo) (by rw[cx,cJ];lia) (by rw[cx,cJ];lia)];have e1:dt k l (fn am)=Ld.S hi fun i=>g l i.toNat*fn am i:=by
  unfold dt;exact Mx.GI h2 fun t ht _=>by unfold fn;rw[Int.toNat_natCast,z2 t ht,Int.mul_zero]
 rw[e1,show hi=lo+(hi-lo) by lia,vP lo (hi-lo)];have e2:(Ld.S lo fun i=>g l i.toNat*fn am i)=0:=by
  rw[Ld.jT (G:=fun _=>0) fun i Nx=>by unfold fn;rw[Int.toNat_natCast,z1 i Nx,Int.mul_zero],Ld.mX]
 rw[e2,dF,show lo+(hi-lo)=hi by lia];refine Ld.jT fun i Nx=>?_;unfold fn;rw[ae,gt l i Nx,gt am i Nx,show ((lo:Int)+(i:Int)).toNat=lo+i by lia]
theorem Mr {a b G:Int}(a1:1<=a)(b1:1<=b)(hG:G=(Int.gcd a b:Nat)):1<=G/\G<=a/\1<=a/G*b/\a∣a/G*b/\b∣a/G*b/\∀D:Int,a∣D->b∣D->a/G*b∣D:=by
 have g0:0<Int.gcd a b:=Int.gcd_pos_of_ne_zero_left _ J;have G1:1<=G:=J;obtain⟨a',ha⟩:G∣a:=by rw[hG];exact Int.gcd_dvd_left ..
 obtain⟨b',hb⟩:G∣b:=by rw[hG];exact Int.gcd_dvd_right ..
 have As:Int.gcd a' b'=1:=by
  have h:Int.gcd a b=Int.gcd a b*Int.gcd a' b':=by
   have:=hV G a' b';rw[<-ha,<-hb,hG,cC] at this;exact this
  have:Int.gcd a b*1=Int.gcd a b*Int.gcd a' b':=by rw[ib];exact h
  exact(gg g0 this).symm
 have G0:G≠0:=J;have e:a/G=a':=by rw[ha,aG _ G0]
 have ZL:1<=a':=by
  rcases Int.lt_or_le 0 a' with c | c
  .exact c
  .have:=aA c (show 0<=G by lia);lia
 refine⟨G1,?_,?_,?_,?_,fun D dA dB=>?_⟩
 .have:=aA ZL (show 0<=G by lia);lia
 .rw[e];have:=av ZL (show 0<=b by lia);lia
 .rw[e];exact⟨b',by rw[ha,hb];grind⟩
 .rw[e];exact⟨a',aB ..⟩
 .rw[e];obtain⟨x,hx⟩:=dA;obtain⟨y,hy⟩:=dB;have h1:a'*x=b'*y:=aS G0 (by rw[<-aK,<-aK,<-ha,<-hb,<-hx,<-hy]);have d:b'∣a'*x:=⟨y,h1⟩;have d':=aX.mpr d;rw[aM] at d';have d2:b'∣x:=aX.mp (d9 (by rw[Nat.coprime_comm];exact As) d');obtain⟨z,hz⟩:=d2;exact⟨z,by rw[hx,hz,ha,hb];grind⟩
theorem TF {one other r0 c0 c1:Int}(h:Eb.St one other r0 0 c0 c1)(o1:1<=one):(r0-c0*other)/one*one+c0*other=r0:=by
 obtain⟨m0,m1,e0,e1,d⟩:=h.m;have:r0-c0*other=m0*one:=J;rw[this,gX _ J];lia
variable {k:Nat}{U:Nat->Nat->Int}{M:Int}
theorem DA {p:Int}(hp:Pt.m9 p){w n:Nat}{steps:List (List Int)}{fs:List Fd}(h:qI p w steps n fs){v x:List Int}(lv:v.length=w)(lx:x.length=fs.length):dot v (uT w (kC fs) x)=Ld.S fs.length fun t=>fn v (cl fs t.toNat)*fn x t:=by
 rw[nZ lv (ow ..)];have:=KG (n:=w) (F:=fn v) (ps:=kC fs) (xs:=x) (k:=fs.length) (by unfold kC;rw[List.length_map]) lx (h.Dr hp) (n8 h);unfold fn at this ⊢;rw[this];refine Ld.jT fun t ht=>?_;have e:(kC fs).getD (t:Int).toNat 0=cl fs (t:Int).toNat:=by
  rw[ae,ah,Ad ht];rfl
 rw[e]
theorem My {x am T v:Int->Int}{s:Int}(hs:∀i:Nat,i<k->(Ld.S k fun t=>U i t.toNat*x t)=s*am i)(hT:∀t:Nat,t<k->(Ld.S k fun i=>U i.toNat t*T i)=M*v t) :
  M*(Ld.S k fun t=>v t*x t)=s*Ld.S k fun i=>T i*am i:=by
 rw[<-Ld.ku,<-Ld.ku];have e1:(Ld.S k fun t=>M*(v t*x t))=Ld.S k fun t=>Ld.S k fun i=>U i.toNat t.toNat*T i*x t:=Ld.jT fun t ht=>by
  rw[Ld.pY,ae,hT t ht];grind
 rw[e1,Ld.mO];refine Ld.jT fun i hi=>?_;have:(Ld.S k fun t=>U (i:Int).toNat t.toNat*T i*x t)=T i*Ld.S k fun t=>U i t.toNat*x t:=by
  rw[<-Ld.ku];refine Ld.jT fun t _=>?_;rw[ae];grind
 rw[this,hs i hi];grind
theorem J2 {s A B:Int}(s1:1<=s)(M1:1<=M)(e:M*A=s*B):s∣A↔M∣B:=by
 constructor
 .rintro⟨y,hy⟩;refine⟨y,aS (show s≠0 by lia) ?_⟩;rw[<-e,hy];grind
 .rintro⟨y,hy⟩;refine⟨y,aS (show M≠0 by lia) ?_⟩;rw[e,hy];grind
theorem JG {s:Int}{v W:List Int}{w:Nat}(lv:v.length=w)(lW:W.length=w):s∣dot v (W.map fun x=>x%s)-dot v W:=by
 rw[nZ lv (by rw[aa,lW]),nZ lv lW];refine nE fun i hi=>?_;rw[ae,rA J,<-cT];exact ay (lG _ _)
def wh (tops:List Int)(q:Int):List Int:=tops.map fun x=>x*q
theorem yW (tops:List Int)(q:Int):(wh tops q).length=tops.length:=by unfold wh;rw[List.length_map]
theorem DJ {tops:List Int}{b v:Int}{t:Nat}(lt:tops.length=k)(b1:1<=b)(bM:b∣M)(h:(Ld.S k fun i=>U i.toNat t*fn tops i)=b*v):(Ld.S k fun i=>U i.toNat t*fn (wh tops (M/b)) i)=M*v:=by
 have e:(Ld.S k fun i=>U i.toNat t*fn (wh tops (M/b)) i)=M/b*Ld.S k fun i=>U i.toNat t*fn tops i:=by
  rw[<-Ld.ku];refine Ld.jT fun i hi=>?_;unfold fn wh;rw[ae,rA J];grind
 rw[e,h,<-aK,ga bM]
theorem Nh {r:Nat}{gv:Int}{t:Nat}{goalw:Int->Int}{R:Nat->Int->Int}{sv:Nat->Int}{tk sp:Int->Int}(M1:1<=M)(hg:(Ld.S k fun i=>U i.toNat t*goalw i)=M*gv)(hR:∀j:Nat,j<r->(Ld.S k fun i=>U i.toNat t*R j i)=M*sv j)
 (hsp:∀i:Nat,i<k->M*sp i=goalw i-Ld.S r fun j=>tk j*R j.toNat i):(Ld.S r fun j=>tk j*sv j.toNat)+(Ld.S k fun i=>sp i*U i.toNat t)=gv:=by
  refine aS (show M≠0 by lia) ?_;rw[e8,<-hg,<-Ld.ku,<-Ld.ku];have e1:(Ld.S k fun i=>M*(sp i*U i.toNat t))=(Ld.S k fun i=>U i.toNat t*goalw i) + -1*Ld.S k fun i=>Ld.S r fun j=>tk j*(U i.toNat t*R j.toNat i):=by
    rw[<-Ld.ku,<-Ld.mD];refine Ld.jT fun i hi=>?_;have a:=hsp i hi;have b:(Ld.S r fun j=>tk j*(U (i:Int).toNat t*R j.toNat i))=U (i:Int).toNat t*Ld.S r fun j=>tk j*R j.toNat i:=by
      rw[<-Ld.ku];exact Ld.jT fun j _=>by grind
    rw[b,show M*(sp i*U (i:Int).toNat t)=M*sp i*U (i:Int).toNat t by grind,a];grind
  have e2:(Ld.S k fun i=>Ld.S r fun j=>tk j*(U i.toNat t*R j.toNat i))=Ld.S r fun j=>M*(tk j*sv j.toNat):=by
    rw[Ld.mO];refine Ld.jT fun j hj=>?_;rw[Ld.ku,ae,hR j hj];grind
  rw[e1,e2];lia
theorem OY {n r:Nat}{F:Int->Int}{os cs:List Nat}{tk sp:List Int}(lo:os.length=r)(lc:cs.length=k)(lt:tk.length=r)(ls:sp.length=k)(nd:(os++cs).Nodup)(hl:∀p∈os++cs,p<n) :
  (Ld.S n fun j=>F j*g (uT n (os++cs) (tk++sp)) j.toNat)=(Ld.S r fun j=>F (os.getD j.toNat 0)*g tk j.toNat)+Ld.S k fun i=>F (cs.getD i.toNat 0)*g sp i.toNat:=by
 rw[KG (k:=r+k) (by rw[aI,lo,lc]) (by rw[aI,lt,ls]) nd hl,vP r k];congr 1
 .refine Ld.jT fun j hj=>?_;rw[ae,rY J,ah,ah,cO J]
 .refine Ld.jT fun i hi=>?_;rw[show ((r:Int)+(i:Int)).toNat=r+i by lia,wU lt,ae,ah,ah,cK J,show r+i-os.length=i by lia]
theorem AX:∀(l:List Int)(ps:List Nat)(xs:List Int)(x:Int),x∈sW l ps xs->x∈l\/x∈xs
 | l,[],_,x,h=>by rw[sW] at h;exact .inl h
 | l,_::_,[],x,h=>.inl h
 | l,p::ps,y::xs,x,h=>by
  rcases AX (l.set p y) ps xs x h with c | c
  .rcases List.mem_or_eq_of_mem_set c with d | d
   .exact .inl d
   .exact .inr (d▸aq)
  .exact .inr (ar _ c)
theorem DK {n:Nat}{ps:List Nat}{xs:List Int}{x:Int}(h:x∈uT n ps xs):x=0\/x∈xs:=by
 rcases AX _ _ _ _ h with c | c
 .exact .inl (fH.mp c).2
 .exact .inr c
theorem Mu (n m:Int):m∣cn n m-n:=by
 have a:=lG n m;unfold cn;split
 .exact a
 .have:=bf a (c5 m);rwa [show n%m-n-m=n%m-m-n by lia] at this
theorem P6 {n m:Int}(m0:0<m):(cn n m).natAbs<=m.natAbs:=by
 have a:=aC n (show m≠0 by lia);have b:=az n m0;unfold cn;split<;>lia
theorem sum_cons {r:Nat}{gw:List Int}{rows:List (List Int)}{tk:List Int}(lt:tk.length=r){c:Nat}:(Ld.S (r+1) fun j=>g (1::tk.map fun x=>-x) j.toNat*g ((gw::rows).getD j.toNat []) c)=g gw c-Ld.S r fun j=>fn tk j*sL rows j.toNat c:=by
 rw[Nat.add_comm,vP 1 r];have e0:(Ld.S 1 fun j=>g (1::tk.map fun x=>-x) j.toNat*g ((gw::rows).getD j.toNat []) c)=g gw c:=by
  show 0+g (1::tk.map fun x=>-x) ((0:Nat):Int).toNat*g ((gw::rows).getD ((0:Nat):Int).toNat []) c=_
  rw[ae];show 0+1*g gw c=_
  lia
 rw[e0];have e1:(Ld.S r fun i=>g (1::tk.map fun x=>-x) (((1:Nat):Int)+i).toNat*g ((gw::rows).getD (((1:Nat):Int)+i).toNat []) c)=-1*Ld.S r fun j=>fn tk j*sL rows j.toNat c:=by
  rw[<-Ld.ku];refine Ld.jT fun j hj=>?_;rw[show (((1:Nat):Int)+(j:Int)).toNat=j+1 by lia];have a:g (1::tk.map fun x=>-x) (j+1)=-(g tk j):=by
   refine lB ?_;rw[dO,af,lD J];rfl
  have b:(gw::rows).getD (j+1) []=rows.getD j []:=by rw[ah,dO,<-ah]
  rw[a,b];unfold fn sL;rw[ae,ae];grind
 rw[e1];lia
structure II (steps:List (List Int))(fs:List Fd)(D N:Nat)(v:Int->Int)(tops:List Int)(b:Int):Prop where
 len:tops.length=fs.length
 b1:1<=b
 bD:b∣(D:Int)
 bN:b<2^N
 bd:∀x∈tops,x.natAbs<2^N
 eq:∀i:Nat,i<fs.length->(Ld.S fs.length fun t=>st steps (nm fs t.toNat) (cl fs i)*fn tops t)=b*v (cl fs i)
variable {p:Int}{w:Nat}{steps:List (List Int)}{fs:List Fd}{goal W:List Int}
theorem Fx {l:List Nat}{n:Nat}(nd:l.Nodup)(h:∀x∈l,x<n):l.length<=n:=by
 refine fj fun lt=>?_;obtain⟨i,j,ij,jl,e⟩:=Pg.wm (fun i=>l.getD i 0%(n+1)%(n+1)) (M:=n) (N:=l.length) lt (fun i hi=>by
  rw[ah,ax hi];have:=h _ (b9 hi);show (l[i]%(n+1))%(n+1)<n
  rw[iY,hZ J];exact this)
 have il:i<l.length:=J;have a:=h _ (b9 il);have b:=h _ (b9 jl);rw[ah,ax il,ah,ax jl] at e;have e':l[i]%(n+1)%(n+1)=l[j]%(n+1)%(n+1):=e;rw[iY,iY,hZ J,hZ J] at e';exact c7.mp nd i j il jl ij e'
theorem Hg.sum {w:Nat}{stp:Nat->Int->Int}{k:Nat}{num:Nat->Nat}{a:Nat->Int}{v:Nat->Int->Int}:∀{n:Nat},(∀j,j<n->Hg w stp k num (v j))->Hg w stp k num fun c=>Ld.S n fun j=>a j.toNat*v j.toNat c
 | 0,_=>Hg.zero
 | n+1,h=>by
  have:=Hg.add (Hg.sum (a:=a) (n:=n) fun j hj=>h j (bJ hj)) (h n (bO n)) 1 (a n);have e:(fun c=>Ld.S (n+1) fun j=>a j.toNat*v j.toNat c)=fun c=>1*(Ld.S n fun j=>a j.toNat*v j.toNat c)+a n*v n c:=by
   funext c;show (Ld.S n fun j=>a j.toNat*v j.toNat c)+a (n:Int).toNat*v (n:Int).toNat c=_
   rw[ae,cY]
  rw[e];exact this
def Fi (steps:List (List Int))(goal W:List Int)(s:Int):Prop:=(∀j,j<steps.length->s∣dot (steps.getD j []) W)/\¬s∣dot goal W
def Hj (w:Nat)(steps:List (List Int))(goal cnts:List Int):Prop:=∀c:Nat,c<w->(Ld.S steps.length fun j=>g cnts j.toNat*g (steps.getD j.toNat []) c)=g goal c
theorem EQ (hp:Pt.m9 p)(h:qI p w steps steps.length fs){cnts:List Int}(gd:Good p w steps.length (st steps) (fn goal))(hm:Hm p w (st steps) fs.length (nm fs) (fn goal))
 (eq:∀i:Nat,i<fs.length->(Ld.S steps.length fun j=>st steps j.toNat (cl fs i)*g cnts j.toNat)=g goal (cl fs i)):Hj w steps goal cnts:=by
  obtain⟨g1,g2⟩:=gd _ _ _ h.fr;have hs:=Hg.sum (a:=fun j=>g cnts j) (n:=steps.length) g1;have hd:=Hg.add hs (g2 hm) 1 (-1);have z:=Hg.all hp h.cor hd fun t ht=>by
    have e:=eq t ht;have a:(Ld.S steps.length fun j=>g cnts j.toNat*st steps j.toNat (cl fs t))=Ld.S steps.length fun j=>st steps j.toNat (cl fs t)*g cnts j.toNat:=Ld.jT fun j _=>aB ..;rw[a,e];unfold fn;rw[ae];lia
  intro c hc;have:=z c hc;unfold fn st at this;rw[ae] at this;lia
theorem EZ (h:qI p w steps steps.length fs)(lw:∀y∈steps,y.length=w)(lW:W.length=w)(gd:Good p w steps.length (st steps) (fn goal))(z:∀i,i<fs.length->dot (steps.getD (nm fs i) []) W=0)(j:Nat)(hj:j<steps.length):dot (steps.getD j []) W=0:=by
 obtain⟨g1,_⟩:=gd _ _ _ h.fr;have key:∀i,i<steps.length->dot (steps.getD i []) W=Ld.S w fun c=>st steps i c*fn W c:=fun i hi=>by
  rw[nZ (lw _ (k5 hi)) lW];rfl
 rw[key j hj];exact Hg.weigh (g1 j hj) fun i hi=>by rw[<-key _ (h.sI hi)];exact z i hi
theorem Fu (hp:Pt.m9 p)(h:qI p w steps steps.length fs)(lw:∀y∈steps,y.length=w)(lg:goal.length=w)(lW:W.length=w)(z:∀i,i<fs.length->dot (steps.getD (nm fs i) []) W=0){c:Nat}(hc:c<w)(nz:g (pC p fs goal) c≠0)(own:∀c',c'<w->c'≠c->(∃t,t<fs.length/\cl fs t=c')\/g W c'=0)(pW:¬p∣g W c):dot goal W≠0:=by
 have p2:=hp.1;have Ny:=h.pC J lg;obtain⟨x,hx⟩:=Ny.eq;have ok:=sY (show 0<p by lia) lg Z h.rok;intro e
 -- by p: goal Nz what is left of it Nz
 have d1:p∣(Ld.S w fun c=>fn (pC p fs goal) c*fn W c)-dot goal W:=by
  rw[nZ lg lW];have a:p∣(Ld.S w fun c=>fn (pC p fs goal) c*fn W c)-Ld.S w fun c=>(fn goal c-Ld.S fs.length fun s=>x s*st steps (nm fs s.toNat) c)*fn W c:=nE fun c hc=>by
   rw[<-cU];exact aE (hx c hc)
  have b:(Ld.S w fun c=>(fn goal c-Ld.S fs.length fun s=>x s*st steps (nm fs s.toNat) c)*fn W c)=Ld.S w fun i=>g goal i.toNat*g W i.toNat:=by
   have b1:(Ld.S w fun c=>(fn goal c-Ld.S fs.length fun s=>x s*st steps (nm fs s.toNat) c)*fn W c)=(Ld.S w fun c=>fn goal c*fn W c) + -1*Ld.S w fun c=>Ld.S fs.length fun s=>x s*(st steps (nm fs s.toNat) c*fn W c):=by
    rw[<-Ld.ku,<-Ld.mD];refine Ld.jT fun c _=>?_;have:(Ld.S fs.length fun s=>x s*(st steps (nm fs s.toNat) c*fn W c))=(Ld.S fs.length fun s=>x s*st steps (nm fs s.toNat) c)*fn W c:=by
     rw[<-Ld.pY];exact Ld.jT fun s _=>by grind
    rw[this];grind
   have b2:(Ld.S w fun c=>Ld.S fs.length fun s=>x s*(st steps (nm fs s.toNat) c*fn W c))=0:=by
    rw[Ld.mO,Ld.jT (G:=fun _=>0) fun s hs=>?_,Ld.mX];rw[Ld.ku,ae];have:=z s hs;rw[nZ (lw _ (k5 (h.sI hs))) lW] at this;have e2:(Ld.S w fun c=>st steps (nm fs s) c*fn W c)=0:=this;rw[e2,bB]
   rw[b1,b2];unfold fn;lia
  rwa [b] at a
 rw[e,dh] at d1;have d2:p∣g (pC p fs goal) c*g W c:=by
  have a:p∣(Ld.S w fun c'=>fn (pC p fs goal) c'*fn W c')-Ld.S w fun c'=>fn (pC p fs goal) c'*fn W c'*if c'=(c:Int) then 1 else 0:=nE fun c' xt=>by
   by_cases q:c'=c
   .rw[aD J,bX,cA];exact aZ _
   .rw[ao J,bB,dh];rcases own c' xt q with ⟨t,ht,et⟩ | y
    .have:=Ny.zero t ht;rw[et] at this;exact aE this
    .unfold fn;rw[ae,y,bB];exact aZ _
  rw[mf (F:=fun c'=>fn (pC p fs goal) c'*fn W c') hc] at a;have:=(n4 a).mp d1;unfold fn at this;rwa [ae] at this
 have r:=ok.2.g (show 0<p by lia) c;exact pW (nW hp d2 fun d3=>by
  have:=aU (show 0<g (pC p fs goal) c by lia) d3;lia)
theorem Bj {p:Int}(hp:Pt.m9 p):∀(n:Nat){b:Int},1<=b->b.toNat<=n->∃(j:Nat)(b':Int),b=p^j*b'/\¬p∣b'
 | 0,b,h,l=>by lia
 | n+1,b,h,l=>by
  by_cases c:p∣b
  .obtain⟨b1,hb⟩:=c;have p2:=hp.1;have b10:1<=b1:=by
    rcases Int.lt_or_le 0 b1 with q | q
    .exact q
    .have:=aA q (show 0<=p by lia);lia
   have:2*b1<=p*b1:=av J J;obtain⟨j,b',e,nb⟩:=Bj hp n (b:=b1) b10 J;exact⟨j+1,b',by rw[hb,e,bx];grind,nb⟩
  .exact⟨0,b,by rw[eL,cY],c⟩
theorem Es (hp:Pt.m9 p)(h:qI p w steps steps.length fs)(ci:CI p fs.length (mt (rowsOf steps fs)))(lw:∀y∈steps,y.length=w){tops:List Int}{am:Int->Int}{b:Int}(lg:goal.length=w)(lW:W.length=w)(z:∀i,i<fs.length->dot (steps.getD (nm fs i) []) W=0){c:Nat}(hc:c<w)(nz:g (pC p fs goal) c≠0)
 (b1:1<=b)(Wc:g W c=b)(Wt:∀t,t<fs.length->cl fs t≠c->g W (cl fs t)=-(g tops t))(own:∀c',c'<w->c'≠c->(∃t,t<fs.length/\cl fs t=c')\/g W c'=0)(sol:∀i:Nat,i<fs.length->(Ld.S fs.length fun t=>st steps (nm fs i) (cl fs t.toNat)*fn tops t)=b*am i):dot goal W≠0:=by
  have p2:=hp.1;obtain⟨j,b',eb,nb⟩:=Bj hp b.toNat b1 (Nat.le_refl _);have pj:0<p^j:=fO J;have NA:=ci.pow J j (y:=fn tops) fun i hi=>by
    have e:(Ld.S fs.length fun t=>mt (rowsOf steps fs) i t*fn tops t)=b*am i:=by
      rw[<-sol i hi];exact Ld.jT fun t ht=>by rw[ur hi ht,ae]
    rw[e,eb,aK];exact cV ..
  have div:∀c',c'<w->p^j∣g W c':=fun c' xt=>by
    by_cases q:c'=c
    · rw[q,Wc,eb];exact cV ..
    · rcases own c' xt q with ⟨t,ht,et⟩ | y
      · rw[<-et,Wt t ht (by rw[et];exact q)]
        have:=NA t ht;unfold fn at this;rw[ae] at this;exact dL.mpr this
      · rw[y];exact aZ _
  obtain⟨W',ZM⟩:∃W':List Int,W'=W.map fun x=>x/p^j:=⟨_,Z⟩;have ZN:W'.length=w:=by rw[ZM,aa,lW]
  have gW:∀c',c'<w->g W c'=p^j*g W' c':=fun c' xt=>by
    rw[ZM,rA J,cZ (div c' xt)]
  have QU:∀v:List Int,v.length=w->dot v W=p^j*dot v W':=fun v lv=>by
    rw[nZ lv lW,nZ lv ZN,<-Ld.ku];refine Ld.jT fun i hi=>?_;rw[ae,gW i hi];grind
  have cancel:∀x:Int,p^j*x=0->x=0:=fun x e=>(gK.mp e).resolve_left J;have r:=Fu hp h lw lg ZN (fun i hi=>cancel _ (by rw[<-QU _ (lw _ (k5 (h.sI hi)))];exact z i hi)) hc nz (fun c' xt q=>(own c' xt q).imp id fun y=>cancel _ (by rw[<-gW c' xt];exact y)) (fun d=>nb (by
    have e:b'=g W' c:=aS (show p^j≠0 by lia) (by rw[<-eb,<-gW c hc,Wc]);rw[e];exact d))
  rw[QU goal lg];exact fun e=>r (cancel _ e)
variable {steps:List (List Int)}
theorem Kb {v W0:List Int}{w c:Nat}{b:Int}(lv:v.length=w)(lW:W0.length=w)(hc:c<w)(z:g W0 c=0):dot v ((W0.map fun x=>-x).set c b)=b*g v c-dot v W0:=by
 rw[nZ lv (by rw[cf,aa,lW]),nZ lv lW];have e:(Ld.S w fun i=>g v i.toNat*g ((W0.map fun x=>-x).set c b) i.toNat)=(Ld.S w fun i=>b*g v i.toNat*if i=(c:Int) then 1 else 0) + -1*Ld.S w fun i=>g v i.toNat*g W0 i.toNat:=by
  rw[<-Ld.ku,<-Ld.mD];refine Ld.jT fun i hi=>?_;rw[ae,yx zgU]
  by_cases q:i=c
  .rw[aD q,aD J,q,z];grind
  .rw[ao q,ao J,rA J];grind
 rw[e,mf (F:=fun i=>b*g v i.toNat) hc,ae];lia
theorem qI.Jd {p:Int}(hp:Pt.m9 p){w:Nat}{fs:List Fd}(h:qI p w steps steps.length fs){goal:List Int}(lg:goal.length=w){c:Nat}(nz:g (Rx.pC p fs goal) c≠0):c∉kC fs:=fun hm=>by
 have p2:=hp.1;unfold kC at hm;obtain⟨f,hf,e⟩:=List.mem_map.mp hm;obtain⟨t,ht,et⟩:=List.getElem_of_mem hf;have cz:=(h.pC J lg).zero t ht;have ec:cl fs t=c:=by unfold cl;rw[getD_at (List.getElem?_eq_getElem ht),et,e]
 rw[ec] at cz;unfold fn at cz;rw[ae] at cz;have r:=(sY (show 0<p by lia) lg Z h.rok).2.g (show 0<p by lia) c;have:=aU (show 0<g (Rx.pC p fs goal) c by lia) cz;lia
theorem Go {p:Int}(hp:Pt.m9 p){w:Nat}{fs:List Fd}(h:qI p w steps steps.length fs)(ci:CI p fs.length (mt (rowsOf steps fs)))(lw:∀y∈steps,y.length=w){goal tops am:List Int}{b:Int}(lg:goal.length=w)(lt:tops.length=fs.length){c:Nat}(hc:c<w)(nz:g (Rx.pC p fs goal) c≠0)(b1:1<=b)
 (Sr:∀i,i<fs.length->g am i=g (steps.getD (nm fs i) []) c)(sol:∀i:Nat,i<fs.length->(Ld.S fs.length fun t=>st steps (nm fs i) (cl fs t.toNat)*fn tops t)=b*g am i)(gd:Good p w steps.length (st steps) (fn goal)) :
    Fi steps goal (((uT w (kC fs) tops).map fun x=>-x).set c b) 0:=by
  have nc:=h.Jd hp lg nz;have ZO:=ow w (kC fs) tops;have z0:g (uT w (kC fs) tops) c=0:=uQ nc (n8 h);obtain⟨W,hW⟩:∃W:List Int,W=((uT w (kC fs) tops).map fun x=>-x).set c b:=⟨_,Z⟩;rw[<-hW];have lW:W.length=w:=by rw[hW,cf,aa,ZO]
  have zero:∀i,i<fs.length->dot (steps.getD (nm fs i) []) W=0:=fun i hi=>by
    have lv:=lw _ (k5 (rows:=steps) (h.sI hi));rw[hW,Kb lv ZO hc z0,DA hp h lv lt,<-Sr i hi];have:=sol i hi;have e:(Ld.S fs.length fun t=>fn (steps.getD (nm fs i) []) (cl fs t.toNat)*fn tops t)=b*g am i:=this;rw[e];lia
  have gW:∀c',c'<w->g W c'=if c'=c then b else -(g (uT w (kC fs) tops) c'):=fun c' xt=>by
    rw[hW,yx zgU]
    by_cases q:c'=c
    · rw[aD q,aD q]
    · rw[ao q,ao q,rA J]
  refine⟨fun j hj=>?_,fun d=>?_⟩
  · rw[EZ h lw lW gd zero j hj];exact c5 _
  · refine Es hp h ci lw lg lW zero hc nz b1 (by rw[gW c hc,aD Z]) (tops:=tops) (am:=fun i=>g am i.toNat) (fun t ht q=>?_) (fun c' xt q=>?_) (fun i hi=>by rw[ae];exact sol i hi) (gc.mp d)
    · rw[gW _ (h.cor.colw t ht),ao q,HY (h.Dr hp) (n8 h) (Ad ht) (lD J)]
    · by_cases m:c'∈kC fs
      · unfold kC at m
        obtain⟨f,hf,e⟩:=List.mem_map.mp m;obtain⟨t,ht,et⟩:=List.getElem_of_mem hf;exact .inl ⟨t,ht,by unfold cl;rw[getD_at (List.getElem?_eq_getElem ht),et,e]⟩
      · right
        rw[gW c' xt,ao q,uQ m (n8 h)];rfl
variable {ps:List (Int×Int)}
theorem E7 {n:Int}(h:Pt.Parts n ps)(hp:Pt.m9 n):ps=[(n,n)]:=by
 have p2:=hp.1;have all:∀x∈ps,x.1=n:=fun x hx=>by
  have a:=(Pt.oB h x).mp hx;rcases Int.lt_or_le x.1 n with c | c
  .exact absurd a.2.1 (hp.2 x.1 a.1.1 c)
  .have:=aU J a.2.1;lia
 cases ps with
 | nil =>
  have e:=h.prd;have e':(1:Int)=n:=e;lia
 | cons x l =>
  cases l with
  | nil =>
   have e:=h.prd;have e':x.2*1=n:=e;have a:=all x aq;have b:x.2=n:=J;have:x=(n,n):=Prod.ext a b;rw[this]
  | cons y l =>
   exfalso;have s:=h.srt;rw[fG] at s;have lt:=s.1 y aq;have a:=all x aq;have b:=all y (ar _ aq);lia
theorem ET {n:Int}(h:Pt.Parts n ps)(e:ps=[(n,n)]):Pt.m9 n:=by
 have:=h.row (n,n) (by rw[e];exact aq);exact this.pr
def gD (k C:Nat):Nat:=(2*(k*C)+1)^k
def gG (k C Cg:Nat):Nat:=gD k C+C+Cg
def gB (k C Cg:Nat):Nat:=k*(gD k C*(Sg.uH k C*gG k C Cg))+gD k C+1
def Sa (k C Cg:Nat):Bool:=Nat.ble (128*(gB k C Cg*gB k C Cg)*(128*(gB k C Cg*gB k C Cg))*2^480) (2^9000) && Nat.blt (gG k C Cg) (2^9000) && Nat.blt (gD k C*((k+1)*(Sg.uH k Cg*Cg))) (Pq.pd Pq.S)
theorem OP {w:Nat}{steps:List (List Int)}{goal cnts W:List Int}{s:Int}(lw:∀y∈steps,y.length=w)(lg:goal.length=w)(lW:W.length=w)(hw:Hj w steps goal cnts)(hb:Fi steps goal W s):dR:=by
 refine hb.2 ?_;have e:(Ld.S w fun i=>g goal i.toNat*g W i.toNat)=Ld.S steps.length fun j=>g cnts j.toNat*Ld.S w fun c=>g (steps.getD j.toNat []) c.toNat*g W c.toNat:=by
  have e1:(Ld.S w fun i=>g goal i.toNat*g W i.toNat)=Ld.S w fun c=>Ld.S steps.length fun j=>g cnts j.toNat*(g (steps.getD j.toNat []) c.toNat*g W c.toNat):=Ld.jT fun c hc=>by
   rw[ae,<-hw c hc,<-Ld.pY];exact Ld.jT fun j _=>aK ..
  rw[e1,Ld.mO];exact Ld.jT fun j _=>Ld.ku ..
 rw[nZ lg lW,e];exact tZ fun j hj=>by
  rw[ae,<-nZ (lw _ (k5 hj)) lW];exact ay (hb.1 j hj)
end Rx
namespace Rg
variable {n st:Nat}
def rv (n:Int)(t:Int×Int×Int)(x:Int):Int:=if (x-t.2.1)%(n/t.1)=0 then t.2.2 else 0
def xI (n:Int)(rows:List (Int×Int×Int))(x:Int):Int:=(rows.map fun t=>rv n t x).sum
theorem AY (n:Int)(rows:List (Int×Int×Int))(t:Int×Int×Int)(x:Int):xI n (rows++[t]) x=xI n rows x+rv n t x:=by
 unfold xI;rw[List.map_append,List.sum_append];simp
theorem lay0 (hn:0<n)(uv:0<st)(hole many:Int)(a:List Int):∀x:Int,Ld.at' a x=Ld.at' a x+(if (x-hole)%st=0/\(x%n)/st<((0:Nat):Int) then many else 0):=fun x=>by
 rw[ao,cW];rintro⟨_,z⟩;have:=cR (aC x (show (n:Int)≠0 by lia)) (show (0:Int)<=st by lia);lia
theorem UV {p i:Nat}(uv:0<st)(C2:n=p*st)(hi:i<p){hole many:Int}{a b:List Int}(hb:b.length=n)
 (h:∀x:Int,Ld.at' b x=Ld.at' a x+(if (x-hole)%st=0/\(x%n)/st<(i:Int) then many else 0)) :
    0<=hole%st+i*st/\hole%st+i*st<(n:Int)/\∀x:Int,Ld.at' (b.set (hole%st+i*st).toNat (Ld.at' b (hole%st+i*st)+many)) x=Ld.at' a x+(if (x-hole)%st=0/\(x%n)/st<((i+1:Nat):Int) then many else 0):=by
  have l0:=aC hole (show (st:Int)≠0 by lia);have l1:=az hole (show (0:Int)<st by lia);have hn:0<n:=by rw[C2];exact fM J uv
  have ZP:(0:Int)<=(i:Int)*st:=bE J J;have X6:((i:Int)+1)*st<=n:=by
    rw[C2,aP];exact av J J
  rw[eI,cY] at X6;have y0:0<=hole%st+i*st:=J;have y1:hole%st+i*st<(n:Int):=J;have ym:(hole%st+i*st)%n=hole%st+i*st:=aR y0 y1;have sn:(st:Int)∣n:=⟨p,by rw[C2,aP,aB]⟩;have ys:(hole%st+i*st)/st=i:=by rw[iS _ _ J,gF l0 l1,dF]
  refine⟨y0,y1,fun x=>?_⟩;have e:=Ld.vW hb hn (hole%st+i*st) (Ld.at' b (hole%st+i*st)+many) x;rw[ym] at e;rw[e]
  by_cases c:x%n=hole%st+i*st
  · have c1:(x-hole)%st=0:=by
      have:x%st=hole%st:=by
        rw[<-aW x sn,c,eV,aW _ (c5 _)]
      rw[eM,this];simp
    rw[aD c,aD ⟨c1,by rw[c,ys];lia⟩];have ex:Ld.at' b (hole%st+i*st)=Ld.at' b x:=Ld.om hb _ _ (by rw[ym,c]);rw[ex,h,ao]
    · lia
    · rintro⟨_,z⟩
      rw[c,ys] at z;lia
  · rw[ao c,h]
    by_cases d:(x-hole)%st=0/\(x%n)/st<(i:Int)
    · rw[aD d,aD ⟨d.1,by have:=d.2;lia⟩]
    · rw[ao d,ao]
      rintro⟨z1,z2⟩;have zi:(x%n)/st=i:=by
        rcases Int.lt_or_le ((x%n)/st) i with w | w
        · exact absurd ⟨z1,w⟩ d
        · lia
      have zm:(x%n)%st=hole%st:=by
        rw[aW x sn];have:=aL.mpr z1;exact this
      have:=bP (x%n) st;rw[zi,zm,aB] at this;exact c this.symm
theorem We {p:Nat}(uv:0<st)(hp:0<p)(C2:n=p*st){hole many:Int}{a b:List Int}
 (h:∀x:Int,Ld.at' b x=Ld.at' a x+(if (x-hole)%st=0/\(x%n)/st<(p:Int) then many else 0)):∀x:Int,Ld.at' b x=Ld.at' a x+(if (x-hole)%st=0 then many else 0):=fun x=>by
  rw[h];have hn:0<n:=by rw[C2];exact fM hp uv
  have lt:(x%n)/st<(p:Int):=by
    refine gO J ?_;have:=az x (show (0:Int)<n by lia);rw[C2,aP] at this ⊢;exact this
  by_cases c:(x-hole)%st=0
  · rw[aD ⟨c,lt⟩,aD c]
  · rw[ao (fun z=>c z.1),ao c]
theorem GL {p:Nat}(uv:0<st)(hp:0<p)(C2:n=p*st)(hole:Int):hole%st<(n:Int)/\(((n:Int)-hole%st-1)/st+1).toNat=p:=by
 have l0:=aC hole (show (st:Int)≠0 by lia);have l1:=az hole (show (0:Int)<st by lia);have e:(n:Int)=p*st:=by rw[C2,aP]
 have s1:(st:Int)<=n:=by rw[e];have:=av (show (1:Int)<=p by lia) (show (0:Int)<=st by lia);lia
 refine⟨J,?_⟩;have q:((n:Int)-hole%st-1)/st=p-1:=by
  have r:(n:Int)-hole%st-1=(st-1-hole%st)+(p-1)*st:=by rw[cU,cY,e];lia
  rw[r,iS _ _ J,gF J J,dF]
 rw[q];lia
theorem yS {p:Int}(hn:1<=n)(hp:2<=p)(d:p∣n):∃st:Nat,(n:Int)/p=st/\0<st/\n=p.toNat*st/\p.toNat<=n:=by
 obtain⟨e,he⟩:=d;have e1:1<=e:=by
  rcases Int.lt_or_le e 1 with z | z
  .have:=aA (show e<=0 by lia) (show 0<=p by lia);lia
  .exact z
 have q:(n:Int)/p=e:=by rw[he];exact aG _ J
 have f:n=p.toNat*e.toNat:=by
  have:((p.toNat*e.toNat:Nat):Int)=p*e:=by rw[aP,cq J,cq J]
  lia
 exact⟨e.toNat,by rw[q,cq J],J,f,by rw[f];exact Nat.le_mul_of_pos_right _ J⟩
theorem Uo {n st:Nat}(hn:0<n)(uv:0<st)(hole many:Int)(a:List Int):∀x:Int,Ld.at' a x=Ld.at' a x+(if (x-hole)%st=0/\((x-hole)%n)/st<((0:Nat):Int) then many else 0):=fun x=>by
 rw[ao,cW];rintro⟨_,z⟩;have:=cR (aC (x-hole) (show (n:Int)≠0 by lia)) (show (0:Int)<=st by lia);lia
theorem WN {n st p i:Nat}(uv:0<st)(C2:n=p*st)(hi:i<p){hole many:Int}{a b:List Int}(hb:b.length=n)
  (h:∀x:Int,Ld.at' b x=Ld.at' a x+(if (x-hole)%st=0/\((x-hole)%n)/st<(i:Int) then many else 0)) :
  ∀x:Int,Ld.at' (b.set ((hole+i*st)%n).toNat (Ld.at' b (hole+i*st)+many)) x=Ld.at' a x+(if (x-hole)%st=0/\((x-hole)%n)/st<((i+1:Nat):Int) then many else 0):=fun x=>by
 have hn:0<n:=by rw[C2];exact fM J uv
 have ZP:(0:Int)<=(i:Int)*st:=bE J J;have X6:((i:Int)+1)*st<=n:=by
  rw[C2,aP];exact av J J
 rw[eI,cY] at X6;have ism:((i:Int)*st)%n=i*st:=aR ZP J;have sn:(st:Int)∣n:=⟨p,by rw[C2,aP,aB]⟩;rw[Ld.vW hb hn]
 by_cases c:x%n=(hole+i*st)%n
 .have d:(x-hole)%n=i*st:=by rw[eM,c,<-eM,show hole+(i:Int)*st-hole=i*st by lia,ism]
  have d1:(x-hole)%st=0:=by rw[<-aW _ sn,d,Int.mul_emod_left]
  have d2:((x-hole)%n)/st=i:=by rw[d,gX _ J]
  rw[aD c,aD ⟨d1,by rw[d2];lia⟩,<-Ld.om hb x _ c,h,ao]
  .lia
  .rintro⟨_,z⟩;rw[d2] at z;lia
 .rw[ao c,h]
  by_cases d:(x-hole)%st=0/\((x-hole)%n)/st<(i:Int)
  .rw[aD d,aD ⟨d.1,by have:=d.2;lia⟩]
  .rw[ao d,ao];rintro⟨z1,z2⟩;have zi:((x-hole)%n)/st=i:=by
    rcases Int.lt_or_le (((x-hole)%n)/st) i with w | w
    .exact absurd ⟨z1,w⟩ d
    .lia
   have zm:((x-hole)%n)%st=0:=by rw[aW _ sn];exact z1
   have e:=bP ((x-hole)%n) st;rw[zi,zm,dF,aB] at e;refine c ?_;have:((x-hole)%n+hole)%n=(i*st+hole)%n:=by rw[e]
   rw[jg,show x-hole+hole=x by lia,Int.add_comm ((i:Int)*st)] at this;exact this
theorem Ww {n st p:Nat}(uv:0<st)(hp:0<p)(C2:n=p*st){hole many:Int}{a b:List Int}
  (h:∀x:Int,Ld.at' b x=Ld.at' a x+(if (x-hole)%st=0/\((x-hole)%n)/st<(p:Int) then many else 0)):∀x:Int,Ld.at' b x=Ld.at' a x+(if (x-hole)%st=0 then many else 0):=fun x=>by
 rw[h];have hn:0<n:=by rw[C2];exact fM hp uv
 have lt:((x-hole)%n)/st<(p:Int):=by
  refine gO J ?_;have:=az (x-hole) (show (0:Int)<n by lia);rw[C2,aP] at this ⊢;exact this
 by_cases c:(x-hole)%st=0
 .rw[aD ⟨c,lt⟩,aD c]
 .rw[ao (fun z=>c z.1),ao c]
end Rg
namespace Rt
variable {x:Int×Int}
open Pt (Parts)
structure Pc (n:Nat)(p q u:Int):Prop where
 n1:1<=n
 p2:2<=p
 q2:1<=q
 pq:p∣q
 qn:q∣(n:Int)
 le:((n:Int)/q*u-1)%q=0
theorem Pc.mk' {n:Nat}{ps:List (Int×Int)}(hn:1<=n)(hp:Parts n ps)(hx:x∈ps){u:Int}(hu:((n:Int)/x.2*u-1)%x.2=0):Pc n x.1 x.2 u:=by
 obtain⟨m,e,e',_,q2,d,_⟩:=Rs.mM hp hx;exact⟨hn,(hp.row x hx).pr.1,J,d,⟨m,e⟩,hu⟩
section
variable {f:Int->Int}
variable {n:Nat}{p q u:Int}
def top (p q u k:Int):Int:=(k*u%q)/(q/p)
theorem Pc.m (h:Pc n p q u):∃m,q=p*m/\q/p=m/\1<=m:=by
 obtain⟨m,e⟩:=h.pq;have hp:=h.p2;have hq:=h.q2;refine⟨m,e,by rw[e];exact aG _ J,?_⟩;rcases Int.lt_or_le m 1 with z | z
 .have:=aA (show m<=0 by lia) (show 0<=p by lia);lia
 .exact z
theorem Pc.Ze (h:Pc n p q u):∃c,(n:Int)=q*c/\(n:Int)/q=c/\(n:Int)/p=c*(q/p):=by
 obtain⟨c,e⟩:=h.qn;obtain⟨m,em,Ff,m1⟩:=h.m;have hp:=h.p2;have hq:=h.q2;refine⟨c,e,by rw[e];exact aG _ J,?_⟩;rw[Ff,e,em,aK,aG _ J,aB]
theorem Pc.step (h:Pc n p q u)(k t:Int):((k+t*((n:Int)/p))*u)%q=(k*u+t*(q/p))%q:=by
 obtain⟨c,e,e1,e2⟩:=h.Ze;have d:q∣c*u-1:=by have:=bS h.le;rwa [e1] at this
 refine aL.mpr (bT ?_);rw[e2];have:(k+t*(c*(q/p)))*u-(k*u+t*(q/p))=t*(q/p)*(c*u-1):=by
  rw[eI,cT,bX];have:t*(c*(q/p))*u=t*(q/p)*(c*u):=by
   rw[aK,aK t (q/p),aB c (q/p),aK]
  lia
 rw[this];exact ay d
theorem Pc.top_lt (h:Pc n p q u)(k:Int):0<=top p q u k/\top p q u k<p:=by
 obtain⟨m,em,Ff,m1⟩:=h.m;have hq:=h.q2;unfold top;rw[Ff];have a:=aC (k*u) (show q≠0 by lia);have b:=az (k*u) (show 0<q by lia);refine⟨cR a J,gO J ?_⟩;rw[<-em];exact b
theorem Pc.ww (h:Pc n p q u)(k t:Int):top p q u (k+t*((n:Int)/p))=(top p q u k+t)%p:=by
 obtain⟨m,em,Ff,m1⟩:=h.m;have hq:=h.q2;have hp:=h.p2;unfold top;rw[h.step,Ff];have r0:=aC (k*u) (show q≠0 by lia);have e1:(k*u+t*m)%q=(k*u%q+t*m)%q:=by rw[jg]
 rw[e1];generalize k*u%q=r;have rd:=bP r m;have s0:=aC r (show m≠0 by lia);have s1:=az r (show 0<m by lia);generalize hs:r%m=s at rd s0 s1;generalize hT:r/m=T at rd;have er:r+t*m=s+m*(T+t):=by rw[<-rd,e8,aB t m];lia
 rw[er];have td:=bP (T+t) p;have v0:=aC (T+t) (show p≠0 by lia);have v1:=az (T+t) (show 0<p by lia);generalize (T+t)%p=v at td v0 v1;generalize (T+t)/p=w at td;have e2:s+m*(T+t)=(s+m*v)+q*w:=by
  rw[<-td,e8,em,<-aK m p w,aB m p];lia
 rw[e2,dr];have mv0:0<=m*v:=bE J v0;have mv1:m*v+m<=q:=by
  have:=aA (show v+1<=p by lia) (show 0<=m by lia);rw[e8,bX,aB m p,<-em] at this;exact this
 rw[aR J J,iT _ _ J,gF s0 s1,dF]
def dl (n:Nat)(p q u k:Int):Int:=k+(p-1-top p q u k)*((n:Int)/p)
theorem Pc.zU (h:Pc n p q u)(k:Int):top p q u (dl n p q u k)=p-1:=by
 have t:=h.top_lt k;unfold dl;rw[h.ww,show top p q u k+(p-1-top p q u k)=p-1 by lia,aR J J]
theorem BM {k:Int}(h:top p q u k=p-1):dl n p q u k=k:=by
 unfold dl;rw[h];simp
theorem Pc.DD (h:Pc n p q u)(k t:Int):(dl n p q u (k+t*((n:Int)/p)))%n=(dl n p q u k)%n:=by
 unfold dl;rw[h.ww];have hp:=h.p2;have td:=bP (top p q u k+t) p;generalize (top p q u k+t)%p=v at td;generalize (top p q u k+t)/p=w at td;have np:p*((n:Int)/p)=n:=cZ (bF h.pq h.qn);have e:k+t*((n:Int)/p)+(p-1-v)*((n:Int)/p)=k+(p-1-top p q u k)*((n:Int)/p)+n*w:=by
  have f:t+(p-1-v)=(p-1-top p q u k)+p*w:=J;rw[iD,<-eI,f,eI,aB p w,aK,np,aB w];lia
 rw[e,dr]
def E (n:Nat)(p q u:Int)(f:Int->Int):Int->Int:=fun k=>f k-f (dl n p q u k)
theorem Pc.K3 (h:Pc n p q u)(hf:Ld.tK n f):Ld.tK n (E n p q u f):=fun x y e=>by
 unfold E;rw[hf x y e];congr 1;refine hf _ _ ?_;have et:top p q u x=top p q u y:=by
  unfold top;have:(x*u)%q=(y*u)%q:=by
   have d:q∣x*u-y*u:=by
    rw[<-cU];exact aE (bF h.qn (bS (aL.mp e)))
   exact aL.mpr (bT d)
  rw[this]
 unfold dl;rw[et];exact Ld.vn _ e
theorem O6 (f g:Int->Int)(k:Int):E n p q u (fun x=>f x+g x) k=E n p q u f k+E n p q u g k:=by unfold E;dsimp only;lia
theorem LW (h:∀k,f k=0)(k:Int):E n p q u f k=0:=by unfold E;rw[h,h];rfl
theorem Pc.LL (h:Pc n p q u)(f:Int->Int){k:Int}(t:top p q u k=p-1):E n p q u f k=0:=by unfold E;rw[BM t];lia
def Inv (n:Nat)(p:Int)(f:Int->Int):Prop:=∀k t:Int,f (k+t*((n:Int)/p))=f k
theorem Pc.P4 (h:Pc n p q u)(hf:Inv n p f)(k:Int):E n p q u f k=0:=by
 unfold E dl;rw[hf];lia
end
section
variable {n:Nat}{p q u p' q' u':Int}
theorem oU (d:q∣(n:Int)/p')(k t:Int):top p q u (k+t*((n:Int)/p'))=top p q u k:=by
 unfold top;congr 1;refine aL.mpr (bT ?_);rw[eI,show k*u+t*((n:Int)/p')*u-k*u=t*((n:Int)/p')*u by lia];exact aE (ay d)
theorem AZ (d:q∣(n:Int)/p'){f:Int->Int}(hf:Inv n p' f):Inv n p' (E n p q u f):=fun k t=>by
 unfold E dl;rw[oU d,hf];congr 1;have:k+t*((n:Int)/p')+(p-1-top p q u k)*((n:Int)/p)=k+(p-1-top p q u k)*((n:Int)/p)+t*((n:Int)/p'):=J;rw[this,hf]
theorem zP (d:q'∣(n:Int)/p){f:Int->Int}(hf:∀k,top p' q' u' k=p'-1->f k=0)(k:Int)(t:top p' q' u' k=p'-1):E n p q u f k=0:=by
 unfold E dl;rw[hf k t,hf _ (by rw[oU d];exact t)];rfl
end
def R (n:Nat):List ((Int×Int)×Int)->(Int->Int)->Int->Int
 | [],f=>f
 | z::l,f=>R n l (E n z.1.1 z.1.2 z.2 f)
structure oA (n:Nat)(ps:List (Int×Int))(l:List ((Int×Int)×Int)):Prop where
 n1:1<=n
 hp:Parts n ps
 map:l.map Prod.fst=ps
 le:∀z∈l,((n:Int)/z.1.2*z.2-1)%z.1.2=0
theorem oA.pc {n:Nat}{ps:List (Int×Int)}{l:List ((Int×Int)×Int)}(h:oA n ps l){z:(Int×Int)×Int}(hz:z∈l):Pc n z.1.1 z.1.2 z.2 :=
 Pc.mk' h.n1 h.hp (by rw[<-h.map];exact dI.mpr ⟨z,hz,Z⟩) (h.le z hz)
theorem BZ {n:Nat}{ps:List (Int×Int)}(hp:Parts n ps){y:Int×Int}(hx:x∈ps)(hy:y∈ps)(ne:x.1≠y.1):x.2∣(n:Int)/y.1:=by
 have c:=Rs.Av hp hx hy ne;obtain⟨m,e,e',_,q2,⟨t,d⟩,_⟩:=Rs.mM hp hy;have p2:=(hp.row y hy).pr.1;have:(n:Int)/y.1=(n:Int)/y.2*t:=by
  rw[e',e,d,aK,aG _ J,aB]
 rw[this];exact aE c
theorem sP (n:Nat):∀(l:List ((Int×Int)×Int))(f g:Int->Int)(k:Int),R n l (fun x=>f x+g x) k=R n l f k+R n l g k
 | [],f,g,k=>rfl
 | z::l,f,g,k=>by
  simp only[R];have:E n z.1.1 z.1.2 z.2 (fun x=>f x+g x)=fun x=>E n z.1.1 z.1.2 z.2 f x+E n z.1.1 z.1.2 z.2 g x:=funext fun x=>O6 f g x;rw[this,sP n l]
theorem xr (n:Nat):∀(l:List ((Int×Int)×Int)){f:Int->Int},(∀k,f k=0)->∀k,R n l f k=0
 | [],f,h,k=>h k
 | z::l,f,h,k=>xr n l (fun k=>LW h k) k
theorem KH {n:Nat}{ps:List (Int×Int)}:∀{l:List ((Int×Int)×Int)}{x:Int×Int},(∀z∈l,Pc n z.1.1 z.1.2 z.2)->(∀z∈l,z.1=x\/z.1.2∣(n:Int)/x.1)->(∃z∈l,z.1=x)->∀{f:Int->Int},Inv n x.1 f->∀k,R n l f k=0
 | [],x,_,_,⟨z,hz,_⟩,f,hf,k=>by cases hz
 | z::l,x,hpc,hc,hex,f,hf,k=>by
  simp only[R]
  by_cases e:z.1=x
  .refine xr n l (fun k=>(hpc z aq).P4 ?_ k) k;rw[e];exact hf
  .have d:z.1.2∣(n:Int)/x.1:=(hc z aq).resolve_left e;refine KH (ps:=ps) (fun y hy=>hpc y (ar _ hy)) (fun y hy=>hc y (ar _ hy)) ?_ (AZ d hf) k;obtain⟨y,hy,ey⟩:=hex;rcases List.mem_cons.mp hy with w | w
   .exact absurd (w▸ey) e
   .exact⟨y,w,ey⟩
theorem oA.kill {n:Nat}{ps:List (Int×Int)}{l:List ((Int×Int)×Int)}(h:oA n ps l)(hx:x∈ps){f:Int->Int}(hf:Inv n x.1 f)(k:Int):R n l f k=0:=by
 have mem:∀z∈l,z.1∈ps:=fun z hz=>by rw[<-h.map];exact dI.mpr ⟨z,hz,Z⟩
 refine KH (ps:=ps) (x:=x) (fun z hz=>h.pc hz) (fun z hz=>?_) ?_ hf k
 .by_cases e:z.1=x
  .exact .inl e
  .refine .inr (BZ h.hp (mem z hz) hx fun w=>e ?_)
   -- two parts of one prime are the same
   rcases List.mem_iff_getElem.mp (mem z hz) with ⟨i,hi,ei⟩;rcases List.mem_iff_getElem.mp hx with ⟨j,hj,ej⟩;have pw:=c7.mp h.hp.srt;rcases Nat.lt_trichotomy i j with g | g | g
   .have:=pw i j hi hj g;rw[ei,ej] at this;lia
   .subst g;rw[<-ei,ej]
   .have:=pw j i hj hi g;rw[ei,ej] at this;lia
 .rw[<-h.map] at hx;obtain⟨z,hz,e⟩:=List.mem_map.mp hx;exact⟨z,hz,e⟩
theorem Ms (n:Nat)(t:Int×Int×Int)(hp:t.1∣(n:Int)):Inv n t.1 (Rg.rv n t):=fun k s=>by
 unfold Rg.rv;have:(k+s*((n:Int)/t.1)-t.2.1)%((n:Int)/t.1)=(k-t.2.1)%((n:Int)/t.1):=by
  rw[show k+s*((n:Int)/t.1)-t.2.1=k-t.2.1+s*((n:Int)/t.1) by lia,eV]
 rw[this]
theorem oA.sG {n:Nat}{ps:List (Int×Int)}{l:List ((Int×Int)×Int)}(h:oA n ps l):∀{rows:List (Int×Int×Int)},(∀t∈rows,t.1∈ps.map Prod.fst)->∀k,R n l (Rg.xI n rows) k=0
 | [],_,k=>xr n l (fun _=>Z) k
 | t::r,hm,k=>by
  have e:Rg.xI n (t::r)=fun x=>Rg.rv n t x+Rg.xI n r x:=funext fun x=>by unfold Rg.xI;rw[List.map_cons,List.sum_cons]
  rw[e,sP,h.sG (rows:=r) fun y hy=>hm y (ar _ hy)];obtain⟨x,hx,ex⟩:=List.mem_map.mp (hm t List.mem_cons_self);have dv:t.1∣(n:Int):=by rw[<-ex];exact((Pt.oB h.hp x).mp hx).2.1
  rw[h.kill hx (by rw[ex];exact Ms n t dv)];rfl
variable {Q:Int->Int->Prop}
theorem Ea:∀(l:List (Int×Int)),(∀x∈l,Pt.Row x)->(2:Int)^l.length<=Pt.rC l
 | [],_=>by simp[Pt.rC]
 | x::r,h=>by
  have a:=Ea r fun y hy=>h y (ar _ hy);have b:=Pt.sT (h x aq);have c:=Pt.qO r fun y hy=>h y (ar _ hy);simp only[Pt.rC,List.length_cons];rw[bx,aB];exact cS J a (Int.pow_nonneg J) J
theorem yG {n:Nat}{ps:List (Int×Int)}(hp:Parts n ps)(hn:n<=420):ps.length<=8:=by
 rcases Nat.lt_or_ge 8 ps.length with z | z
 .have a:=Ea ps hp.row;rw[hp.prd] at a;have b:(2:Int)^9<=2^ps.length:=Pt.AV (p:=2) O z;have c:(2:Int)^9=512:=O;lia
 .exact z
section
variable {k:Int}
variable {n:Nat}{p q u:Int}
theorem Pc.y6 (h:Pc n p q u)(k:Int):(k*u%q >= q-q/p)↔top p q u k=p-1:=by
 obtain⟨m,em,Ff,m1⟩:=h.m;have hq:=h.q2;have hp:=h.p2;have t:=h.top_lt k;unfold top at t ⊢;rw[Ff] at t ⊢;have r1:=az (k*u) (show 0<q by lia);have rd:=bP (k*u%q) m;have s0:=aC (k*u%q) (show m≠0 by lia);have s1:=az (k*u%q) (show 0<m by lia);generalize k*u%q=r at *;generalize r/m=T at *;constructor
 .intro g;rcases Int.lt_or_le T (p-1) with z | z
  .have:=aA (show T+1<=p-1 by lia) (show 0<=m by lia);rw[e8,bX,cT,bX,aB m p,<-em] at this;lia
  .lia
 .intro g;rw[g,cT,bX,aB m p,<-em] at rd;lia
theorem Pc.DW (h:Pc n p q u){x y:Int}(e:x%n=y%n):top p q u x=top p q u y:=by
 unfold top;have:(x*u)%q=(y*u)%q:=by
  have d:q∣x*u-y*u:=by
   rw[<-cU];exact aE (bF h.qn (bS (aL.mp e)))
  exact aL.mpr (bT d)
 rw[this]
def xf (p q u:Int):Nat->List Int
 | 0=>[]
 | i+1=>xf p q u i++(if top p q u i=p-1 then [(i:Int)] else [])
theorem qL {p q u:Int}:∀{i:Nat}{k:Int},k∈xf p q u i↔0<=k/\k<i/\top p q u k=p-1
 | 0,k=>⟨fun h=>(nomatch h),fun h=>by lia⟩
 | i+1,k=>by
  unfold xf;rw[gH,qL];constructor
  .rintro (⟨a,b,c⟩ | h)
   .exact⟨a,J,c⟩
   .split at h
    .rename_i e;rw[bw.mp h];exact⟨J,J,e⟩
    .cases h
  .rintro⟨a,b,c⟩
   by_cases z:k=i
   .subst z;exact .inr (by rw[aD c];simp)
   .exact .inl ⟨a,J,c⟩
theorem vT {p q u:Int}:∀i:Nat,(xf p q u i).Pairwise (· < ·)
 | 0=>List.Pairwise.nil
 | i+1=>by
  unfold xf;rw[eZ];refine⟨vT i,by split<;>simp,fun x hx y hy=>?_⟩;have:=(qL.mp hx).2.1;split at hy
  .rw[bw] at hy;lia
  .cases hy
theorem zK {p q u:Int}:∀i:Nat,(xf p q u i).length<=i
 | 0=>aH _
 | i+1=>by
  unfold xf;rw[aI];have:=zK (p:=p) (q:=q) (u:=u) i;split<;>simp<;>lia
def D (n:Nat)(p q u k:Int):Int:=dl n p q u k%n
theorem Pc.OX (h:Pc n p q u)(k:Int):D n p q u k∈xf p q u n:=by
 have n1:=h.n1;refine qL.mpr ⟨aC _ J,az _ J,?_⟩;unfold D;rw[h.DW (aW _ (c5 _)),h.zU]
theorem Pc.Lc (h:Pc n p q u){x:Int}(hk:k∈xf p q u n):(x-k)%((n:Int)/p)=0↔D n p q u x=k:=by
 obtain⟨k0,k1,kt⟩:=qL.mp hk;have np:p*((n:Int)/p)=n:=cZ (bF h.pq h.qn);have dn:((n:Int)/p)∣n:=⟨p,by rw[aB];exact np.symm⟩;constructor
 .intro e;obtain⟨t,ht⟩:=Int.dvd_of_emod_eq_zero e;have ex:x=k+t*((n:Int)/p):=by rw[aB];lia
  unfold D;rw[ex,h.DD,BM kt,aR k0 k1]
 .intro e;unfold D at e;have e2:(dl n p q u x)%((n:Int)/p)=k%((n:Int)/p):=by rw[<-e,aW _ dn]
  unfold dl at e2;rw[eV] at e2;exact aL.mp e2
theorem LY (n p h m x:Int):Rg.rv n (p,h,-m) x=- Rg.rv n (p,h,m) x:=by
 unfold Rg.rv;dsimp only;split<;>simp
structure PI (n:Nat)(p q u:Int)(f:Int->Int)(j:Nat)(b:List Int):Prop where
 len:b.length=n
 at_:∀x,Ld.at' b x=f x-(if D n p q u x∈(xf p q u n).take j then f (dl n p q u x) else 0)
theorem pi0 {f:Int->Int}{b:List Int}(hb:b.length=n)(h:∀x,Ld.at' b x=f x):PI n p q u f 0 b:=⟨hb,fun x=>by rw[jG,ao jH,Int.sub_zero];exact h x⟩
theorem xc {l:List Int}(h:l.Pairwise (· < ·)){j:Nat}(e:l[j]?=some k):¬k∈l.take j:=fun m=>by
 obtain⟨i,hi,ei⟩:=List.mem_iff_getElem.mp m;obtain⟨hj,ej⟩:=List.getElem?_eq_some_iff.mp e;rw[cJ] at hi;have pw:=c7.mp h i j J hj J;rw[gq] at ei;rw[ei,ej] at pw;lia
theorem Pc.Md (h:Pc n p q u){f:Int->Int}{b:List Int}{j:Nat}(pi:PI n p q u f j b)(e:(xf p q u n)[j]?=some k):Ld.at' b k=f k:=by
 have hk:=ak e;obtain⟨k0,k1,kt⟩:=qL.mp hk;have dk:D n p q u k=k:=by unfold D;rw[BM kt,Int.emod_eq_of_lt k0 k1]
 rw[pi.at_,dk,ao (xc (vT n) e),dh]
theorem rP {l:List Int}{j:Nat}{x:Int}(e:l[j]?=some k):x∈l.take (j+1)↔x∈l.take j\/x=k:=by
 rw[Pt.take_snoc e,gH,bw]
theorem Pc.Y9 (h:Pc n p q u){f:Int->Int}(hf:Ld.tK n f){b b':List Int}{j:Nat}(pi:PI n p q u f j b)(e:(xf p q u n)[j]?=some k)(lb:b'.length=n)
 (hb:∀x,Ld.at' b' x=Ld.at' b x+Rg.rv n (p,k,-(f k)) x):PI n p q u f (j+1) b':=⟨lb,fun x=>by
  have hk:=ak e;obtain⟨k0,k1,kt⟩:=qL.mp hk;rw[hb,pi.at_];unfold Rg.rv;dsimp only
  by_cases c:D n p q u x=k
  · rw[aD ((h.Lc hk).mpr c),ao (by rw[c];exact xc (vT n) e),aD (by rw[rP e];exact .inr c)]
    have:f (dl n p q u x)=f k:=hf _ _ (by show D n p q u x=_;rw[c,aR k0 k1]);rw[this];lia
  · rw[ao fun z=>c ((h.Lc hk).mp z)]
    by_cases d:D n p q u x∈(xf p q u n).take j
    · rw[aD d,aD (by rw[rP e];exact .inl d)];lia
    · rw[ao d,ao (by rw[rP e];exact fun z=>z.elim d c)];lia⟩
theorem Pc.Wj (h:Pc n p q u){f:Int->Int}(hf:Ld.tK n f){b:List Int}{j:Nat}(pi:PI n p q u f j b)(e:(xf p q u n)[j]?=some k)(z:f k=0):PI n p q u f (j+1) b:=by
 refine h.Y9 hf pi e pi.len fun x=>?_;unfold Rg.rv;rw[z];split<;>simp
theorem Pc.MS (h:Pc n p q u){f:Int->Int}{b:List Int}(pi:PI n p q u f (xf p q u n).length b)(x:Int):Ld.at' b x=E n p q u f x:=by
 rw[pi.at_,bV,aD (h.OX x)];rfl
end
theorem BX (n:Nat):∀(l:List ((Int×Int)×Int))(z:(Int×Int)×Int)(f:Int->Int),R n (l++[z]) f=E n z.1.1 z.1.2 z.2 (R n l f)
 | [],z,f=>rfl
 | y::l,z,f=>by simp only[List.cons_append,R];exact BX n l z _
theorem HG {n:Nat}:∀{l:List ((Int×Int)×Int)},(∀z∈l,Pc n z.1.1 z.1.2 z.2)->∀{f:Int->Int},Ld.tK n f->Ld.tK n (R n l f)
 | [],_,f,hf=>hf
 | z::l,h,f,hf=>HG (l:=l) (fun y hy=>h y (ar _ hy)) ((h z aq).K3 hf)
structure p7 (n:Nat)(P:Int->Int->Prop)(a b:List Int)(rows:List (Int×Int×Int)):Prop where
 ok:∀t∈rows,P t.1 t.2.1/\0<=t.2.1/\t.2.1<n/\¬t.2.2=0
 nd:(rows.map fun t=>(t.1,t.2.1)).Nodup
 eq:∀x,Ld.at' a x=Ld.at' b x+Rg.xI n rows x
theorem p7.weak {n:Nat}{P:Int->Int->Prop}{a b:List Int}{rows:List (Int×Int×Int)}(h:p7 n P a b rows)(w:∀x y,P x y->Q x y):p7 n Q a b rows :=
 ⟨fun t ht=>let ⟨a,b⟩:=h.ok t ht;⟨w _ _ a,b⟩,h.nd,h.eq⟩
theorem rows0 {n:Nat}{P:Int->Int->Prop}(a:List Int):p7 n P a a []:=⟨fun t h=>(nomatch h),List.nodup_nil,fun x=>by unfold Rg.xI;simp⟩
theorem p7.snoc {n:Nat}{P:Int->Int->Prop}{a b b':List Int}{rows:List (Int×Int×Int)}{p k m:Int}(h:p7 n P a b rows)(w:∀x y,P x y->Q x y)(q:Q p k)(no:∀x y,P x y->¬(x=p/\y=k))(k0:0<=k)(k1:k<n)(mz:¬m=0)
 (hb:∀x,Ld.at' b' x=Ld.at' b x+Rg.rv n (p,k,-m) x):p7 n Q a b' (rows++[(p,k,m)]):=by
  refine⟨fun t ht=>?_,?_,fun x=>?_⟩
  · rcases List.mem_append.mp ht with z | z
    · obtain⟨a,b⟩:=h.ok t z;exact⟨w _ _ a,b⟩
    · rw[bw.mp z];exact⟨q,k0,k1,mz⟩
  · rw[aO,g9]
    refine⟨h.nd,jH,fun x hx y hy e=>?_⟩;obtain⟨t,ht,et⟩:=List.mem_map.mp hx;have ey:y=(p,k):=by simpa using hy
    refine no _ _ (h.ok t ht).1 ?_;rw[e,ey] at et;exact⟨cQ Prod.fst et,cQ Prod.snd et⟩
  · rw[Rg.AY,hb,h.eq,LY];lia
variable {ps:List (Int×Int)}{l:List ((Int×Int)×Int)}
theorem tS {n:Nat}{p' q' u':Int}:∀{l:List ((Int×Int)×Int)},(∀z∈l,q'∣(n:Int)/z.1.1)->∀{f:Int->Int},(∀k,top p' q' u' k=p'-1->f k=0)->∀k,top p' q' u' k=p'-1->R n l f k=0
 | [],_,f,hf,k,t=>hf k t
 | z::l,h,f,hf,k,t=>tS (l:=l) (fun y hy=>h y (ar _ hy)) (fun k t=>zP (h z aq) hf k t) k t
theorem HP {n:Nat}{ps:List (Int×Int)}(hp:Parts n ps):∀{l:List ((Int×Int)×Int)},(∀z∈l,Pc n z.1.1 z.1.2 z.2)->(∀z∈l,z.1∈ps)->l.Pairwise (fun y z=>y.1.1≠z.1.1)->∀{z:(Int×Int)×Int},z∈l->∀(f:Int->Int)(k:Int),top z.1.1 z.1.2 z.2 k=z.1.1-1->R n l f k=0
 | [],_,_,_,z,hz,f,k,t=>by cases hz
 | y::l,hpc,hm,nd,z,hz,f,k,t=>by
  have ⟨n1,n2⟩:=fG.mp nd;simp only[R];rcases List.mem_cons.mp hz with w | w
  .subst w;refine tS (fun x hx=>?_) (fun k t=>(hpc z aq).LL f t) k t;exact BZ hp (hm z aq) (hm x (ar _ hx)) (n1 x hx)
  .exact HP hp (l:=l) (fun x hx=>hpc x (ar _ hx)) (fun x hx=>hm x (ar _ hx)) n2 w _ k t
theorem oA.nd {n:Nat}(h:oA n ps l):l.Pairwise (fun y z=>y.1.1≠z.1.1):=by
 have s:=h.hp.srt;rw[<-h.map,List.pairwise_map] at s;exact s.imp fun w=>by lia
theorem oA.drop {n:Nat}(h:oA n ps l){z:(Int×Int)×Int}(hz:z∈l)(f:Int->Int)(k:Int)(t:top z.1.1 z.1.2 z.2 k=z.1.1-1):R n l f k=0 :=
 HP h.hp (fun z hz=>h.pc hz) (fun z hz=>by rw[<-h.map];exact dI.mpr ⟨z,hz,Z⟩) h.nd hz f k t
theorem GO {n N:Nat}{l':List ((Int×Int)×Int)}{P:Int->Prop} (Φ:(Int->Int)->Int->Int)(add:∀f g,Φ (fun x=>f x+g x)=fun x=>Φ f x+Φ g x)(zero:∀x,Φ (fun _=>0) x=0)(kill:∀(f:Int->Int)(p:Int),Ld.tK n f->P p->Inv n p f->∀k,R N l' (Φ f) k=0) :
  ∀{l:List ((Int×Int)×Int)},(∀z∈l,Pc n z.1.1 z.1.2 z.2)->(∀z∈l,P z.1.1)->∀{f:Int->Int},Ld.tK n f->∀k,R N l' (Φ fun x=>f x-R n l f x) k=0
 | [],_,_,f,_,k=>by
  have:(fun x=>f x-R n [] f x)=fun _=>0:=funext fun x=>by simp[R]
  rw[this];exact xr N l' zero k
 | z::l,h,hP,f,hf,k=>by
  have pc:=h z aq;have e:(fun x=>f x-R n (z::l) f x)=fun x=>f (dl n z.1.1 z.1.2 z.2 x)+(E n z.1.1 z.1.2 z.2 f x-R n l (E n z.1.1 z.1.2 z.2 f) x):=funext fun x=>by
   simp only[R];show f x-_=f (dl n z.1.1 z.1.2 z.2 x)+((f x-f (dl n z.1.1 z.1.2 z.2 x))-_)
   lia
  rw[e,add,sP,GO Φ add zero kill (l:=l) (fun y hy=>h y (ar _ hy)) (fun y hy=>hP y (ar _ hy)) (pc.K3 hf) k];have Bu:Ld.tK n fun x=>f (dl n z.1.1 z.1.2 z.2 x):=fun x y w=>by
   refine hf _ _ ?_;unfold dl;rw[pc.DW w];exact Ld.vn _ w
  rw[kill _ z.1.1 Bu (hP z aq) fun k t=>hf _ _ (pc.DD k t)];rfl
variable {n:Nat}{ps:List (Int×Int)}{l:List ((Int×Int)×Int)}
theorem Ho (hp:Parts n ps){x:Int×Int}(hx:x∈ps){u u':Int}(hu:((n:Int)/x.2*u-1)%x.2=0)(XR:((n:Int)/x.2*u'-1)%x.2=0)(k:Int):top x.1 x.2 u k=top x.1 x.2 u' k:=by
 obtain⟨_,_,_,_,q2,_⟩:=Rs.mM hp hx;have a:=Rs.wQ (n:=(n:Int)) (q:=x.2) (hole:=k) (u:=u) J hu;have b:=Rs.wQ (n:=(n:Int)) (q:=x.2) (hole:=k) (u:=u') J XR;unfold top;rw[Rs.zT (Rs.tW hp hx) a b zgY]
theorem Hn {n:Nat}{ps:List (Int×Int)}(hp:Parts n ps):∀{l l':List ((Int×Int)×Int)},l.map Prod.fst=l'.map Prod.fst->(∀z∈l,z.1∈ps)->(∀z∈l,((n:Int)/z.1.2*z.2-1)%z.1.2=0)->(∀z∈l',((n:Int)/z.1.2*z.2-1)%z.1.2=0)->∀f,R n l f=R n l' f
 | [],[],_,_,_,_,f=>rfl
 | [],_::_,e,_,_,_,f=>by simp at e
 | _::_,[],e,_,_,_,f=>by simp at e
 | z::l,z'::l',e,hm,h,h',f=>by
  rw[df,df,List.cons.injEq] at e;obtain⟨e1,e2⟩:=e;simp only[R];have ee:E n z.1.1 z.1.2 z.2 f=E n z'.1.1 z'.1.2 z'.2 f:=funext fun k=>by
   have a:=h z aq;have b:=h' z' aq;rw[<-e1] at b ⊢;unfold E dl;rw[Ho hp (hm z aq) a b]
  rw[ee];exact Hn hp e2 (fun y hy=>hm y (ar _ hy)) (fun y hy=>h y (ar _ hy)) (fun y hy=>h' y (ar _ hy)) _
theorem oA.one {QV:List (Int×Int)}{l':List ((Int×Int)×Int)}(h:oA n ps l)(h':oA n QV l')(f:Int->Int):R n l f=R n l' f:=by
 have e:=Pt.nJ h'.hp h.hp;subst e;exact Hn h.hp (h.map.trans h'.map.symm) (fun z hz=>by rw[<-h.map];exact dI.mpr ⟨z,hz,Z⟩) h.le h'.le f
theorem oA.Tu (h:oA n ps l) (Φ:(Int->Int)->Int->Int)(add:∀f g,Φ (fun x=>f x+g x)=fun x=>Φ f x+Φ g x)(zero:∀x,Φ (fun _=>0) x=0)(inv:∀(f:Int->Int)(p:Int),p∣(n:Int)->Ld.tK n f->Inv n p f->Inv n p (Φ f)){f:Int->Int}(hf:Ld.tK n f) :
  R n l (Φ f)=R n l (Φ (R n l f)):=funext fun k=>by
 have gone:=GO (n:=n) (N:=n) (l':=l) (P:=fun p=>p∈ps.map Prod.fst) Φ add zero (fun g p hg hP hi k=>by
  obtain⟨x,hx,ex⟩:=List.mem_map.mp hP;have pd:p∣(n:Int):=by rw[<-ex];exact((Pt.oB h.hp x).mp hx).2.1
  refine h.kill hx ?_ k;rw[ex];exact inv g p pd hg hi) (l:=l) (fun z hz=>h.pc hz) (fun z hz=>by rw[<-h.map];exact dI.mpr ⟨z.1,dI.mpr ⟨z,hz,Z⟩,Z⟩) hf k
 have e:Φ f=fun x=>Φ (fun y=>f y-R n l f y) x+Φ (R n l f) x:=by
  rw[<-add];congr 1;funext y;lia
 rw[e,sP,gone,dF]
theorem oA.turn (h:oA n ps l){f:Int->Int}(hf:Ld.tK n f)(yL:Int):R n l (fun x=>f (x-yL))=R n l (fun x=>R n l f (x-yL)) :=
 h.Tu (fun g x=>g (x-yL)) (fun _ _=>Z) (fun _=>Z) (fun g p _ _ hi k t=>by
  show g (k+t*((n:Int)/p)-yL)=g (k-yL)
  rw[show k+t*((n:Int)/p)-yL=k-yL+t*((n:Int)/p) by lia,hi]) hf
def cv (n:Nat)(f g:Int->Int)(x:Int):Int:=Ld.S n fun j=>f j*g (x-j)
theorem PX {n:Nat}:∀{l:List ((Int×Int)×Int)}{B:Nat}{f:Int->Int},(∀k,(f k).natAbs<=B)->∀k,(R n l f k).natAbs<=2^l.length*B
 | [],B,f,h,k=>by simp only[R,List.length_nil,Nat.pow_zero,Nat.one_mul];exact h k
 | z::l,B,f,h,k=>by
  simp only[R,List.length_cons];have:=PX (n:=n) (l:=l) (B:=2*B) (f:=E n z.1.1 z.1.2 z.2 f) (fun k=>by
   unfold E;have a:=h k;have b:=h (dl n z.1.1 z.1.2 z.2 k);omega) k
  rw[dH,gx];exact this
theorem JP {n:Nat}{ps:List (Int×Int)}(hp:Parts n ps){x:Int×Int}(hx:x∈ps):∃v:Int,1<=v/\v<x.2/\v*((n:Int)/x.2)%x.2=1:=by
 obtain⟨_,_,_,_,q2,_⟩:=Rs.mM hp hx;have g:=Rs.zf hp hx;have eq:((x.2.toNat:Nat):Int)=x.2:=cq J;obtain⟨v,hv⟩:=Ld.Nd (st:=(n:Int)/x.2) (n:=x.2.toNat) J (by rw[eq];exact g);rw[eq] at hv;have one:(1:Int)%x.2=1:=aR O J;rw[one] at hv;have h0:=aC v (show x.2≠0 by lia);have h1:=az v (show 0<x.2 by lia);have e:(v%x.2)*((n:Int)/x.2)%x.2=1:=by
  rw[<-hv,aB ((n:Int)/x.2) v,gA,aW _ (c5 _),<-gA]
 refine⟨v%x.2,?_,h1,e⟩;rcases Int.lt_or_le (v%x.2) 1 with z | z
 .have:v%x.2=0:=J;rw[this,aY,d8] at e;lia
 .exact z
theorem Jt {n q u:Int}(hq:2<=q)(h:u*(n/q)%q=1):(n/q*u-1)%q=0:=by
 have one:(1:Int)%q=1:=aR O J;exact aL.mp (by rw[aB,h,one])
variable {ps:List (Int×Int)}{l:List ((Int×Int)×Int)}{f:Int->Int}
def low (p q u k:Int):Int:=(k*u%q)%(q/p)
def fw (p q u j k:Int):Int:=if low p q u j=low p q u k then (if top p q u k=top p q u j then 1 else if top p q u k=p-1 then -1 else 0) else 0
def V:List ((Int×Int)×Int)->Int->Int->Int
 | [],_,_=>1
 | z::l,j,k=>fw z.1.1 z.1.2 z.2 j k*V l j k
theorem wH:∀(l:List ((Int×Int)×Int))(z:(Int×Int)×Int)(j k:Int),V (l++[z]) j k=V l j k*fw z.1.1 z.1.2 z.2 j k
 | [],z,j,k=>by simp[V]
 | y::l,z,j,k=>by
  show fw y.1.1 y.1.2 y.2 j k*V (l++[z]) j k=fw y.1.1 y.1.2 y.2 j k*V l j k*fw z.1.1 z.1.2 z.2 j k
  rw[wH l z,aK]
theorem Hs (p q u j k:Int):fw p q u j k=0\/fw p q u j k=1\/fw p q u j k=-1:=by
 unfold fw;split
 .split
  .exact .inr (.inl Z)
  .split
   .exact .inr (.inr Z)
   .exact .inl Z
 .exact .inl Z
theorem tU:∀(l:List ((Int×Int)×Int))(j k:Int),V l j k=0\/V l j k=1\/V l j k=-1
 | [],_,_=>.inr (.inl Z)
 | z::l,j,k=>by
  have a:=Hs z.1.1 z.1.2 z.2 j k;have b:=tU l j k;show fw z.1.1 z.1.2 z.2 j k*V l j k=0\/fw z.1.1 z.1.2 z.2 j k*V l j k=1\/fw z.1.1 z.1.2 z.2 j k*V l j k=-1
  rcases a with a | a | a<;>rcases b with b | b | b<;>rw[a,b]<;>decide
section
variable {n:Nat}{p q u:Int}
theorem Pc.sr (h:Pc n p q u)(k:Int):k*u%q=low p q u k+(q/p)*top p q u k:=by
 unfold low top;exact(Int.emod_add_mul_ediv _ _).symm
theorem Pc.A4 (h:Pc n p q u)(k t:Int):low p q u (k+t*((n:Int)/p))=low p q u k:=by
 obtain⟨m,em,Ff,m1⟩:=h.m;unfold low;rw[h.step,Ff];have d:m∣q:=⟨p,by rw[em,aB]⟩;rw[aW _ d,aW _ d,eV]
theorem Pc.GR (h:Pc n p q u)(k:Int):low p q u (dl n p q u k)=low p q u k:=h.A4 k _
theorem Pc.Dq (h:Pc n p q u)(j k:Int):(j*u%q=k*u%q)↔(low p q u j=low p q u k/\top p q u j=top p q u k):=by
 constructor
 .intro e;unfold low top;rw[e];exact⟨rfl,rfl⟩
 .rintro⟨a,b⟩;rw[h.sr,h.sr,a,b]
theorem Pc.zv (h:Pc n p q u)(j k:Int):(j*u%q=k*u%q)↔q∣k-j:=by
 obtain⟨c,e,e1,e2⟩:=h.Ze;have d:q∣c*u-1:=by have:=bS h.le;rwa [e1] at this
 constructor
 .intro z;have z1:q∣k*u-j*u:=bS (aL.mp z.symm);have z2:q∣(k-j)*(c*u):=by
   rw[show (k-j)*(c*u)=(k*u-j*u)*c by rw[<-cU,aK,aB c u]];exact aE z1
  have z3:q∣(k-j)*(c*u-1):=ay d;have:k-j=(k-j)*(c*u)-(k-j)*(c*u-1):=by rw[cT,bX];lia
  rw[this];exact bf z2 z3
 .intro z;refine(aL.mpr (bT ?_)).symm;rw[<-cU];exact aE z
theorem Pc.KU (h:Pc n p q u){j:Int}(t:¬top p q u j=p-1)(k:Int):fw p q u j k=(if q∣k-j then 1 else 0)-(if q∣k-dl n p q u j then 1 else 0):=by
 have a:(q∣k-j)↔(low p q u j=low p q u k/\top p q u j=top p q u k):=(h.zv j k).symm.trans (h.Dq j k);have b:(q∣k-dl n p q u j)↔(low p q u j=low p q u k/\p-1=top p q u k):=by
  have:=(h.zv (dl n p q u j) k).symm.trans (h.Dq (dl n p q u j) k);rwa [h.GR,h.zU] at this
 unfold fw
 by_cases l:low p q u j=low p q u k
 .rw[aD l]
  by_cases e:top p q u k=top p q u j
  .rw[aD e,aD (a.mpr ⟨l,e.symm⟩),ao (fun z=>t (by rw[<-e];exact(b.mp z).2.symm))];rfl
  .rw[ao e,ao (fun z=>e (a.mp z).2.symm)]
   by_cases g:top p q u k=p-1
   .rw[aD g,aD (b.mpr ⟨l,g.symm⟩)];rfl
   .rw[ao g,ao (fun z=>g (b.mp z).2.symm)];rfl
 .rw[ao l,ao (fun z=>l (a.mp z).1),ao (fun z=>l (b.mp z).1)];rfl
theorem HJ {p':Int}(d:q∣(n:Int)/p')(k t:Int):(k+t*((n:Int)/p'))*u%q=k*u%q:=by
 obtain⟨c,e⟩:=d;rw[e,eI,show t*(q*c)*u=q*(t*c*u) by rw[<-aK t q c,aB t q,aK,aK,aK],dr]
theorem yI {p':Int}(d:q∣(n:Int)/p')(k t:Int):low p q u (k+t*((n:Int)/p'))=low p q u k:=by unfold low;rw[HJ d]
theorem FY {p':Int}(d:q∣(n:Int)/p')(j t k:Int):fw p q u (j+t*((n:Int)/p')) k=fw p q u j k:=by unfold fw;rw[yI d,oU d]
end
theorem yY {n:Nat}{p':Int}:∀{l:List ((Int×Int)×Int)},(∀z∈l,z.1.2∣(n:Int)/p')->∀j t k:Int,V l (j+t*((n:Int)/p')) k=V l j k
 | [],_,_,_,_=>rfl
 | z::l,h,j,t,k=>by
  show fw z.1.1 z.1.2 z.2 (j+t*((n:Int)/p')) k*V l (j+t*((n:Int)/p')) k=fw z.1.1 z.1.2 z.2 j k*V l j k
  rw[FY (h z aq),yY (fun y hy=>h y (ar _ hy))]
def X:List ((Int×Int)×Int)->Int->Int->Int
 | [],_,_=>1
 | z::l,j,k=>(if z.1.2∣k-j then 1 else 0)*X l j k
theorem K5:∀(l:List ((Int×Int)×Int))(j k:Int),X l j k=if (∀z∈l,z.1.2∣k-j) then 1 else 0
 | [],j,k=>by simp[X]
 | z::l,j,k=>by
  show (if z.1.2∣k-j then 1 else 0)*X l j k=_
  rw[K5 l]
  by_cases a:z.1.2∣k-j
  .by_cases b:∀z∈l,z.1.2∣k-j
   .rw[aD a,aD b,aD (fun y hy=>by rcases List.mem_cons.mp hy with e | e;rw[e];exact a;exact b y e)];rfl
   .rw[aD a,ao b,ao (fun y=>b fun x hx=>y x (ar _ hx))];rfl
  .rw[ao a,aY,ao (show ¬∀y∈z::l,y.1.2∣k-j from fun y=>a (y z aq))]
theorem Di {n:Nat}{p':Int}:∀{l:List ((Int×Int)×Int)},(∀z∈l,z.1.2∣(n:Int)/p')->∀j t k:Int,X l (j+t*((n:Int)/p')) k=X l j k
 | [],_,_,_,_=>rfl
 | z::l,h,j,t,k=>by
  show (if z.1.2∣k-(j+t*((n:Int)/p')) then 1 else 0)*X l (j+t*((n:Int)/p')) k=(if z.1.2∣k-j then 1 else 0)*X l j k
  rw[Di (fun y hy=>h y (ar _ hy))];congr 1;have d:z.1.2∣t*((n:Int)/p'):=ay (h z aq)
  by_cases c:z.1.2∣k-j
  .rw[aD c,aD (by rw[show k-(j+t*((n:Int)/p'))=(k-j)-t*((n:Int)/p') by lia];exact bf c d)]
  .rw[ao c,ao (fun z=>c (by rw[show k-j=(k-(j+t*((n:Int)/p')))+t*((n:Int)/p') by lia];exact bQ z d))]
theorem oA.dv {n:Nat}(h:oA n ps l){j k:Int}(d:∀z∈l,z.1.2∣k-j):(n:Int)∣k-j:=by
 have:=Rs.Dl (t:=k-j) h.hp.row h.hp.srt (fun x hx=>by
  rw[<-h.map] at hx;obtain⟨z,hz,e⟩:=List.mem_map.mp hx;rw[<-e];exact d z hz)
 rwa [h.hp.prd] at this
theorem oA.Xn {n:Nat}(h:oA n ps l)(j k:Int):X l j k=if (n:Int)∣k-j then 1 else 0:=by
 rw[K5]
 by_cases c:(n:Int)∣k-j
 .rw[aD c,aD (fun z hz=>bF (h.pc hz).qn c)]
 .rw[ao c,ao (fun d=>c (h.dv d))]
theorem U7 {n:Nat}(hn:1<=n)(hf:Ld.tK n f)(j:Int):Ld.S n (fun k=>f k*(if (n:Int)∣k-j then 1 else 0))=f j:=by
 have j0:=aC j (show (n:Int)≠0 by lia);have j1:=az j (show 0<(n:Int) by lia);have e:Ld.S n (fun k=>f k*(if (n:Int)∣k-j then 1 else 0))=Ld.S n (fun k=>if k=j%n then f k else 0):=Ld.jT fun k hk=>by
  by_cases c:((k:Nat):Int)=j%n
  .rw[aD c,aD (by rw[c];exact bS (by rw[eM,aW _ (c5 _),cA];rfl)),bX]
  .rw[ao c,ao,bB];intro z;refine c ?_;have:=aL.mpr (bT z);rwa [aR J J] at this
 rw[e,Ld.yr j0,aD j1,hf.md]
theorem oA.J3 {n:Nat}(h:oA n ps l){i j:Nat}{y z:(Int×Int)×Int}(ne:i≠j)(ei:l[i]?=some y)(ej:l[j]?=some z):y.1.2∣(n:Int)/z.1.1:=by
 have pw:=c7.mp h.nd;obtain⟨hi,ZQ⟩:=List.getElem?_eq_some_iff.mp ei;obtain⟨hj,ZR⟩:=List.getElem?_eq_some_iff.mp ej;have my:y.1∈ps:=by rw[<-h.map];exact dI.mpr ⟨y,ak ei,Z⟩
 have mz:z.1∈ps:=by rw[<-h.map];exact dI.mpr ⟨z,ak ej,Z⟩
 refine BZ h.hp my mz ?_;rcases Nat.lt_or_ge i j with g | g
 .have:=pw i j hi hj g;rwa [ZQ,ZR] at this
 .have:=pw j i hj hi J;rw[ZQ,ZR] at this;exact fun e=>this e.symm
theorem oA.PU {n:Nat}(h:oA n ps l)(hf:Ld.tK n f):∀i:Nat,i<=l.length->∀j:Int,(∀z∈l.take i,¬top z.1.1 z.1.2 z.2 j=z.1.1-1)->R n (l.take i) f j=Ld.S n (fun k=>f k*(V (l.take i) j k*X (l.drop i) j k)):=by
 intro i
 induction i with
 | zero =>
  intro _ j _;rw[jG,List.drop_zero];show f j=_
  rw[<-U7 h.n1 hf j];refine Ld.jT fun k _=>?_;show _=f k*(1*X l j k)
  rw[h.Xn,cY]
 | succ i ih =>
  intro il j hj;have ei:l[i]?=some l[i]:=ax J;have et:l.take (i+1)=l.take i++[l[i]]:=Pt.take_snoc ei;have ed:l.drop i=l[i]::l.drop (i+1):=gh J;have pc:=h.pc (b9 (by lia:i<l.length));have tz:¬top l[i].1.1 l[i].1.2 l[i].2 j=l[i].1.1-1:=hj _ (by rw[et];exact bu _ jH);have ca:∀y∈l.take i,y.1.2∣(n:Int)/l[i].1.1:=fun y hy=>by
   obtain⟨a,ha,ea⟩:=List.mem_iff_getElem.mp hy;rw[cJ] at ha;rw[gq] at ea;exact h.J3 (i:=a) (j:=i) J (by rw[<-ea];exact ax J) ei
  have cb:∀y∈l.drop (i+1),y.1.2∣(n:Int)/l[i].1.1:=fun y hy=>by
   obtain⟨a,ha,ea⟩:=List.mem_iff_getElem.mp hy;rw[cx] at ha;rw[jh] at ea;exact h.J3 (i:=i+1+a) (j:=i) J (by rw[<-ea];exact ax J) ei
  have Su:∀z∈l.take i,¬top z.1.1 z.1.2 z.2 j=z.1.1-1:=fun z hz=>hj z (by rw[et];exact cN _ hz);generalize l[i]=z at *;have e1:=ih J j Su;have e2:=ih J (dl n z.1.1 z.1.2 z.2 j) fun y hy=>by unfold dl;rw[oU (ca y hy)];exact Su y hy
  rw[et,BX];show R n (l.take i) f j-R n (l.take i) f (dl n z.1.1 z.1.2 z.2 j)=_
  rw[e1,e2,ed];have key:∀k:Int,f k*(V (l.take i) j k*X (z::l.drop (i+1)) j k)=f k*(V (l.take i++[z]) j k*X (l.drop (i+1)) j k)+f k*(V (l.take i) (dl n z.1.1 z.1.2 z.2 j) k*X (z::l.drop (i+1)) (dl n z.1.1 z.1.2 z.2 j) k):=fun k=>by
   rw[wH,pc.KU tz];show f k*(V (l.take i) j k*((if z.1.2∣k-j then 1 else 0)*X (l.drop (i+1)) j k))=_+f k*(V (l.take i) (dl n z.1.1 z.1.2 z.2 j) k*((if z.1.2∣k-dl n z.1.1 z.1.2 z.2 j then 1 else 0)*X (l.drop (i+1)) (dl n z.1.1 z.1.2 z.2 j) k))
   have x1:X (l.drop (i+1)) (dl n z.1.1 z.1.2 z.2 j) k=X (l.drop (i+1)) j k:=by unfold dl;exact Di cb _ _ _
   have x2:V (l.take i) (dl n z.1.1 z.1.2 z.2 j) k=V (l.take i) j k:=by unfold dl;exact yY ca _ _ _
   rw[x1,x2,<-e8];congr 1;rw[aK,<-e8,<-eI];congr 2;lia
  have s:=Ld.jT (n:=n) (F:=fun k=>f k*(V (l.take i) j k*X (z::l.drop (i+1)) j k)) (G:=fun k=>f k*(V (l.take i++[z]) j k*X (l.drop (i+1)) j k)+f k*(V (l.take i) (dl n z.1.1 z.1.2 z.2 j) k*X (z::l.drop (i+1)) (dl n z.1.1 z.1.2 z.2 j) k)) (fun k _=>key k);rw[Ld.mD] at s;lia
theorem oA.wsum {n:Nat}(h:oA n ps l)(hf:Ld.tK n f){j:Int}(hj:∀z∈l,¬top z.1.1 z.1.2 z.2 j=z.1.1-1):R n l f j=Ld.S n (fun k=>f k*V l j k):=by
 have:=h.PU hf l.length (aH _) j (by rw[bV];exact hj);rw[bV,jx] at this;rw[this];exact Ld.jT fun k _=>by show f k*(V l j k*1)=_;rw[bX]
theorem oA.seen {n:Nat}(h:oA n ps l)(a:Int):∃j:Int,(∀z∈l,¬top z.1.1 z.1.2 z.2 j=z.1.1-1)/\¬V l j a=0:=by
 have key:∀i:Nat,i<=l.length->∃j:Int,(∀z∈l.take i,¬top z.1.1 z.1.2 z.2 j=z.1.1-1)/\¬V (l.take i) j a=0/\∀z∈l.drop i,low z.1.1 z.1.2 z.2 j=low z.1.1 z.1.2 z.2 a/\top z.1.1 z.1.2 z.2 j=top z.1.1 z.1.2 z.2 a:=by
  intro i
  induction i with
  | zero=>intro _;exact⟨a,jH,by simp[V],fun z _=>⟨Z,Z⟩⟩
  | succ i ih =>
   intro il;obtain⟨j,j1,j2,j3⟩:=ih J;have ei:l[i]?=some l[i]:=ax J;have et:l.take (i+1)=l.take i++[l[i]]:=Pt.take_snoc ei;have ed:l.drop i=l[i]::l.drop (i+1):=gh J;have pc:=h.pc (b9 (by lia:i<l.length));have ca:∀y∈l.take i,y.1.2∣(n:Int)/l[i].1.1:=fun y hy=>by
    obtain⟨b,ha,ea⟩:=List.mem_iff_getElem.mp hy;rw[cJ] at ha;rw[gq] at ea;exact h.J3 (i:=b) (j:=i) J (by rw[<-ea];exact ax J) ei
   have cb:∀y∈l.drop (i+1),y.1.2∣(n:Int)/l[i].1.1:=fun y hy=>by
    obtain⟨b,ha,ea⟩:=List.mem_iff_getElem.mp hy;rw[cx] at ha;rw[jh] at ea;exact h.J3 (i:=i+1+b) (j:=i) J (by rw[<-ea];exact ax J) ei
   rw[ed] at j3;have jz:=j3 _ aq;have ZS:∀z∈l.drop (i+1),low z.1.1 z.1.2 z.2 j=low z.1.1 z.1.2 z.2 a/\top z.1.1 z.1.2 z.2 j=top z.1.1 z.1.2 z.2 a:=fun z hz=>j3 z (ar _ hz);rw[et];generalize l[i]=z at *;have p2:=pc.p2
   by_cases c:top z.1.1 z.1.2 z.2 a=z.1.1-1
   .have t1:=pc.ww j 1;rw[jz.2,c,show z.1.1-1+1=z.1.1 by lia,Int.emod_self] at t1;refine⟨j+1*((n:Int)/z.1.1),fun y hy=>?_,?_,fun y hy=>?_⟩
    .rcases List.mem_append.mp hy with w | w
     .rw[oU (ca y w)];exact j1 y w
     .rw[bw.mp w,t1];lia
    .rw[wH,yY ca];have:fw z.1.1 z.1.2 z.2 (j+1*((n:Int)/z.1.1)) a=-1:=by
      unfold fw;rw[pc.A4,t1,jz.1,aD Z,c,ao J,aD Z]
     rw[this];lia
    .rw[yI (cb y hy),oU (cb y hy)];exact ZS y hy
   .refine⟨j,fun y hy=>?_,?_,ZS⟩
    .rcases List.mem_append.mp hy with w | w
     .exact j1 y w
     .rw[bw.mp w,jz.2];exact c
    .rw[wH];have:fw z.1.1 z.1.2 z.2 j a=1:=by unfold fw;rw[jz.1,jz.2,if_pos Z,if_pos Z]
     rw[this,bX];exact j2
 obtain⟨j,a1,a2,_⟩:=key l.length (Nat.le_refl _);rw[bV] at a1 a2;exact⟨j,a1,a2⟩
variable {ps:List (Int×Int)}
section
variable {n:Nat}{p q u:Int}
theorem Pc.O5 (h:Pc n p q u)(k:Int):0<=k*u%q/\k*u%q<q:=⟨aC _ (by have:=h.q2;lia),az _ (by have:=h.q2;lia)⟩
theorem Pc.Jy (h:Pc n p q u)(j:Int):q-q/p+(j*u%q)%(q/p)=dl n p q u j*u%q:=by
 obtain⟨m,em,Ff,m1⟩:=h.m;rw[h.sr (dl n p q u j),h.GR,h.zU];show q-q/p+low p q u j=low p q u j+q/p*(p-1)
 rw[Ff,cT,bX];have:m*p=q:=by rw[em,aB]
 lia
theorem Pc.MF (h:Pc n p q u){j:Int}(t:¬top p q u j=p-1)(k:Int):(if k*u%q=q-q/p+(j*u%q)%(q/p) then (-1:Int) else if k*u%q=j*u%q then 1 else 0)=fw p q u j k:=by
 rw[h.Jy,h.KU t];have a:=h.zv j k;have b:=h.zv (dl n p q u j) k;have ab:¬(q∣k-j/\q∣k-dl n p q u j):=fun z=>t (by
  have e1:=((h.Dq j k).mp (a.mpr z.1)).2;have e2:=((h.Dq (dl n p q u j) k).mp (b.mpr z.2)).2;rw[h.zU] at e2;rw[e1,e2])
 by_cases c:q∣k-dl n p q u j
 .rw[aD (b.mpr c).symm,aD c,ao (fun z=>ab ⟨z,c⟩)];rfl
 .rw[ao (fun z=>c (b.mp z.symm)),ao c]
  by_cases d:q∣k-j
  .rw[aD (a.mpr d).symm,aD d];rfl
  .rw[ao (fun z=>d (a.mp z.symm)),ao d];rfl
end
theorem oA.ex {n:Nat}(hn:1<=n)(hp:Parts n ps):∃l,oA n ps l:=by
 have key:∀qs:List (Int×Int),(∀x∈qs,x∈ps)->∃l:List ((Int×Int)×Int),l.map Prod.fst=qs/\∀z∈l,((n:Int)/z.1.2*z.2-1)%z.1.2=0:=by
  intro qs
  induction qs with
  | nil=>intro _;exact⟨[],Z,jH⟩
  | cons x r ih =>
   intro h;obtain⟨l,e,hl⟩:=ih fun y hy=>h y (List.mem_cons_of_mem _ hy);have hx:=h x aq;obtain⟨v,v1,v2,hv⟩:=JP hp hx;obtain⟨_,_,_,_,q2,_⟩:=Rs.mM hp hx;refine⟨(x,v)::l,by rw[df,e],fun z hz=>?_⟩;rcases List.mem_cons.mp hz with w | w
   .rw[w];exact Jt q2 hv
   .exact hl z w
 obtain⟨l,e,hl⟩:=key ps fun _ h=>h;exact⟨l,hn,hp,e,hl⟩
def Kp (l:List ((Int×Int)×Int))(k:Int):Prop:=∀z∈l,¬top z.1.1 z.1.2 z.2 k=z.1.1-1
instance (l:List ((Int×Int)×Int))(k:Int):Decidable (Kp l k):=by unfold Kp;infer_instance
def hs (n:Nat):List Int:=(List.range n).map fun (i:Nat)=>(i:Int)
theorem Mh (n:Nat):(hs n).length=n:=by simp[hs]
theorem LX {n:Nat}{k:Int}:k∈hs n↔0<=k/\k<n:=by
 unfold hs;constructor
 .intro h;obtain⟨i,hi,e⟩:=List.mem_map.mp h;have:=dZ.mp hi;lia
 .intro h;exact dI.mpr ⟨k.toNat,dZ.mpr J,J⟩
def nK (n:Nat)(l:List ((Int×Int)×Int)):List Int:=(hs n).filter fun k=>decide (Kp l k)
theorem ud {n:Nat}{l:List ((Int×Int)×Int)}{k:Int}:k∈nK n l↔(0<=k/\k<n)/\Kp l k:=by
 unfold nK;rw[ig,LX,fI]
theorem ue (n:Nat)(l:List ((Int×Int)×Int)):(nK n l).length<=n:=bL (List.length_filter_le _ _) (iG (Mh n))
theorem Jb {n:Nat}(hp:Parts n ps){x:Int×Int}(hx:x∈ps){u v:Int}(hu:((n:Int)/x.2*u-1)%x.2=0)(hv:((n:Int)/x.2*v-1)%x.2=0)(k:Int):k*u%x.2=k*v%x.2:=by
 obtain⟨_,_,_,_,q2,_⟩:=Rs.mM hp hx;exact Rs.zT (Rs.tW hp hx) (Rs.wQ J hu) (Rs.wQ J hv) zgY
theorem Le (F:Int->Int)(a:Nat):∀b:Nat,Ld.S (a+b) F=Ld.S a F+Ld.S b (fun i=>F (a+i))
 | 0=>by show Ld.S a F=Ld.S a F+0;lia
 | b+1=>by
  show Ld.S (a+b) F+F ((a+b:Nat):Int)=Ld.S a F+(Ld.S b (fun i=>F (a+i))+F (a+b))
  rw[Le F a b,ip];lia
theorem GV {st:Nat}(uv:0<st){s:Int}(s0:0<=s)(s1:s<st)(G:Int->Int):∀p:Nat,Ld.S (p*st) (fun k=>if (k-s)%st=0 then G k else 0)=Ld.S p (fun t=>G (s+t*st))
 | 0=>by rw[Nat.zero_mul];rfl
 | p+1=>by
  rw[fQ,Le,GV uv s0 s1 G p];show _=Ld.S p (fun t=>G (s+t*st))+G (s+p*st)
  congr 1;have e:Ld.S st (fun i=>if (((p*st:Nat):Int)+i-s)%st=0 then G (((p*st:Nat):Int)+i) else 0)=Ld.S st (fun i=>if i=s then G (((p*st:Nat):Int)+i) else 0):=Ld.jT fun i hi=>by
   have em:(((p*st:Nat):Int)+(i:Int)-s)%st=((i:Int)-s)%st:=by
    rw[aP,show (p:Int)*st+i-s=(i-s)+st*p by rw[aB];lia,dr]
   rw[em]
   by_cases c:(i:Int)=s
   .rw[aD c,aD (by rw[c,cA];rfl)]
   .rw[ao c,ao];intro z;obtain⟨d,hd⟩:=Int.dvd_of_emod_eq_zero z;have d0:d=0:=by
     rcases Int.lt_trichotomy d 0 with g | g | g
     .have:=aA (show d<=-1 by lia) (show 0<=(st:Int) by lia);lia
     .exact g
     .have:=aA (show 1<=d by lia) (show 0<=(st:Int) by lia);lia
    rw[d0,bB] at hd;lia
  rw[e,Ld.yr (G:=fun i=>G (((p*st:Nat):Int)+i)) s0,aD s1,aP,Int.add_comm]
theorem oA.OM {n:Nat}{ps:List (Int×Int)}{l:List ((Int×Int)×Int)}(h:oA n ps l){j:Int}(hj:Kp l j){p st:Nat}(hp:((p:Nat):Int)∈ps.map Prod.fst)(uv:0<st)(e:n=p*st){s:Int}(s0:0<=s)(s1:s<st):Ld.S p (fun t=>V l j (s+t*st))=0:=by
 rw[<-GV uv s0 s1 (V l j) p,<-e];have n1:=h.n1;have p0:0<p:=by rcases Nat.eq_zero_or_pos p with z | z;(rw[z,Nat.zero_mul] at e;lia);exact z
 have Bv:(n:Int)/p=st:=by rw[e,aP];exact aG _ J
 have Bu:Ld.tK n (Rg.rv n ((p:Int),s,1)):=fun x y exy=>by
  unfold Rg.rv;show (if (x-s)%((n:Int)/p)=0 then (1:Int) else 0)=if (y-s)%((n:Int)/p)=0 then 1 else 0
  rw[Bv];have d:(st:Int)∣n:=⟨p,by rw[e,aP,aB]⟩;have:x%st=y%st:=by rw[<-aW x d,exy,aW y d]
  rw[eM,this,<-eM]
 have k:=h.sG (rows:=[((p:Int),s,1)]) (fun t ht=>by rw[bw.mp ht];exact hp) j;have er:Rg.xI n [((p:Int),s,1)]=Rg.rv n ((p:Int),s,1):=funext fun x=>by unfold Rg.xI;simp
 rw[er,h.wsum Bu hj] at k;refine Eq.trans (Ld.jT (G:=fun k=>Rg.rv n ((p:Int),s,1) k*V l j k) fun i _=>?_) k;unfold Rg.rv;show _=(if ((i:Int)-s)%((n:Int)/p)=0 then (1:Int) else 0)*V l j i
 rw[Bv]
 by_cases c:((i:Int)-s)%st=0
 .rw[aD c,aD c,cY]
 .rw[ao c,ao c,aY]
theorem Pu (n:Nat)(p q u:Int)(f:Int->Int)(m k:Int):E n p q u (fun x=>f x*m) k=E n p q u f k*m:=by unfold E;dsimp only;rw[Int.sub_mul]
theorem C8 (n:Nat)(m:Int):∀(l:List ((Int×Int)×Int))(f:Int->Int)(k:Int),R n l (fun x=>f x*m) k=R n l f k*m
 | [],f,k=>rfl
 | z::l,f,k=>by
  simp only[R];have:E n z.1.1 z.1.2 z.2 (fun x=>f x*m)=fun x=>E n z.1.1 z.1.2 z.2 f x*m:=funext fun x=>Pu n _ _ _ f m x;rw[this,C8 n m l]
def Zn (n:Nat)(l:List ((Int×Int)×Int))(f:Int->Int):Prop:=∀x,R n l f x=0
end Rt
namespace Rx
open Lt
open Mx
theorem Qa {s a b W:Int}(h1:s∣a*W)(h2:s∣b*W):s∣Eh.G a b*W:=by
 have h:=jC h1 h2;rw[Int.gcd_mul_right,aP] at h;unfold Eh.G;rcases Int.natAbs_eq W with e | e
 .rw[e];exact h
 .rw[e,fL];exact(dL).mpr h
structure Gc (steps:List (List Int))(i:Nat)(c:Int):Prop where
 nn:0<=c
 dv:∀j,j<i->c∣g (steps.getD j []) 0
 of:∀s W:Int,(∀j,j<i->s∣g (steps.getD j []) 0*W)->s∣c*W
theorem Gc.start (steps:List (List Int)):Gc steps 0 0:=⟨dY 0,fun j hj=>by lia,fun s W _=>by rw[aY];exact aZ s⟩
theorem Gc.step {steps:List (List Int)}{i:Nat}{c:Int}(h:Gc steps i c):Gc steps (i+1) (Eh.G c (g (steps.getD i []) 0)):=by
 refine⟨Eh.Hw ..,fun j hj=>?_,fun s W hs=>?_⟩
 .rcases Nat.lt_succ_iff_lt_or_eq.mp hj with z | z
  .exact bF (Int.gcd_dvd_left ..) (h.dv j z)
  .rw[z];exact Int.gcd_dvd_right ..
 .exact Qa (h.of s W fun j hj=>hs j J) (hs i J)
end Rx
namespace Rs
theorem MB {a b d:Int}(h:Eh.G a b=1)(d1:1<=d)(da:d∣a)(db:d∣b):d=1:=by
 have e:=jC da db;unfold Eh.G at h;rw[h] at e;have:=aU O e;lia
end Rs
namespace Ct
variable {n:Nat}{l:List ((Int×Int)×Int)}{a W:List Int}{bs:List (List Int)}{ps:List (Int×Int)}
open Rt
open Lt
def kr (n:Nat)(l:List ((Int×Int)×Int))(a:List Int):List Int:=(nK n l).map fun h=>R n l (Ld.at' a) h
theorem pI:(kr n l a).length=(nK n l).length:=aa ..
theorem Cy {c:Nat}(hc:c<(nK n l).length):g (kr n l a) c=R n l (Ld.at' a) (g (nK n l) c) :=
 Rx.lB (by unfold kr;rw[List.getElem?_map,Rx.lD hc];rfl)
theorem P7 {c:Nat}(hc:c<(nK n l).length):(0<=g (nK n l) c/\g (nK n l) c<n)/\Kp l (g (nK n l) c):=ud.mp (Rx.nH hc)
def K7 (a:List Int)(bs:List (List Int))(cs:List Int)(i:Nat):Int->Int:=fun x=>Ld.at' a x+Ld.S i fun j=>g cs j.toNat*Ld.at' (bs.getD j.toNat []) x
theorem Zh (n:Nat)(l:List ((Int×Int)×Int))(F:Int->Int->Int)(x:Int):∀m:Nat,R n l (fun y=>Ld.S m fun j=>F j y) x=Ld.S m fun j=>R n l (F j) x
 | 0=>xr n l (fun _=>Z) x
 | m+1=>by
  have e:(fun y=>Ld.S (m+1) fun j=>F j y)=fun y=>(Ld.S m fun j=>F j y)+F m y:=funext fun y=>Z;rw[e,sP,Zh n l F x m];rfl
theorem OS {cs:List Int}{i:Nat}(x:Int):R n l (K7 a bs cs i) x=R n l (Ld.at' a) x+Ld.S i fun j=>g cs j.toNat*R n l (Ld.at' (bs.getD j.toNat [])) x:=by
 unfold K7;rw[sP,Zh n l (fun j y=>g cs j.toNat*Ld.at' (bs.getD j.toNat []) y)];congr 1;refine Ld.jT fun j _=>?_;have e:(fun y=>g cs (j:Int).toNat*Ld.at' (bs.getD (j:Int).toNat []) y)=fun y=>Ld.at' (bs.getD (j:Int).toNat []) y*g cs (j:Int).toNat:=funext fun y=>aB ..;rw[e,C8,aB]
theorem IU (h:oA n ps l)(n1:1<=n){f:Int->Int}(hf:Ld.tK n f)(z:∀c,c<(nK n l).length->R n l f (g (nK n l) c)=0):Zn n l f:=fun x=>by
 have Bu:Ld.tK n (R n l f):=HG (fun z hz=>h.pc hz) hf;rw[<-Bu.md];have x0:=aC x (show (n:Int)≠0 by lia);have x1:=az x (show 0<(n:Int) by lia)
 by_cases k:Kp l (x%n)
 .obtain⟨c,hc,e⟩:=List.getElem_of_mem (ud.mpr ⟨⟨x0,x1⟩,k⟩);have:=z c hc;rwa [Rx.lB (ax hc),e] at this
 .have ⟨z',hz,tz⟩:∃z∈l,top z.1.1 z.1.2 z.2 (x%n)=z.1.1-1:=aT fun no=>k fun z hz tz=>no ⟨z,hz,tz⟩;exact h.drop hz f _ tz
theorem way (h:oA n ps l)(n1:1<=n)(la:a.length=n)(lb:∀b∈bs,b.length=n){cs:List Int}
 (hw:Rx.Hj (nK n l).length (bs.map (kr n l)) (Ld.scaled (kr n l a) (-1)) cs):Zn n l (K7 a bs cs bs.length):=by
  refine IU h n1 ?_ fun c hc=>?_
  · intro x y e
    unfold K7;rw[Ld.om la x y e];congr 1;refine Ld.jT fun j hj=>?_;rw[Ld.om (lb _ (by rw[ae];exact Rx.k5 hj)) x y e]
  · rw[OS]
    have e:=hw c hc;rw[aa] at e;have e2:g (Ld.scaled (kr n l a) (-1)) c=-R n l (Ld.at' a) (g (nK n l) c):=Rx.lB (by
      unfold Ld.scaled;rw[af,Rx.lD (by rw[pI];exact hc),Cy hc];exact cQ some (f7 _))
    rw[e2] at e;have e3:(Ld.S bs.length fun j=>g cs j.toNat*g ((bs.map (kr n l)).getD j.toNat []) c)=Ld.S bs.length fun j=>g cs j.toNat*R n l (Ld.at' (bs.getD j.toNat [])) (g (nK n l) c):=Ld.jT fun j hj=>by
      rw[ae,ah,af,Rx.lZ hj,gL,gz,Cy hc]
    rw[<-e3,e];lia
def aw (n:Nat)(l:List ((Int×Int)×Int))(W:List Int)(i:Nat):Int->Int:=fun k=>Ld.S i fun c=>V l (g (nK n l) c.toNat) k*g W c.toNat
theorem HS (h:oA n ps l)(la:a.length=n)(lW:W.length=(nK n l).length):(Ld.S n fun k=>Ld.at' a k*aw n l W (nK n l).length k)=Rx.dot (kr n l a) W:=by
 rw[Rx.nZ pI lW];have e:(Ld.S n fun k=>Ld.at' a k*aw n l W (nK n l).length k)=Ld.S n fun k=>Ld.S (nK n l).length fun c=>Ld.at' a k*V l (g (nK n l) c.toNat) k*g W c.toNat:=Ld.jT fun k _=>by
  unfold aw;rw[<-Ld.ku];exact Ld.jT fun c _=>(aK ..).symm
 rw[e,Ld.mO];refine Ld.jT fun c hc=>?_;rw[ae,Ld.pY,Cy hc,h.wsum (Ld.om la) (P7 hc).2]
theorem Jp (h:oA n ps l){p st:Nat}(hp:((p:Nat):Int)∈ps.map Prod.fst)(uv:0<st)(e:n=p*st){s:Int}(s0:0<=s)(s1:s<st):Ld.S p (fun t=>aw n l W (nK n l).length (s+t*st))=0:=by
 unfold aw;rw[Ld.mO];have z:(Ld.S (nK n l).length fun c=>Ld.S p fun t=>V l (g (nK n l) c.toNat) (s+t*st)*g W c.toNat)=Ld.S (nK n l).length fun _=>0:=Ld.jT fun c hc=>by
  rw[ae,Ld.pY,h.OM (P7 hc).2 hp uv e s0 s1,aY]
 rw[z,Ld.mX]
theorem JW {v:List Int}{w:Nat}(lv:v.length=w)(lW:W.length=w):Rx.dot (Ld.scaled v (-1)) W=-Rx.dot v W:=by
 have e:(fun i:Int=>-1*(g v i.toNat*g W i.toNat))=fun i:Int=>-1*(g v i.toNat*g W i.toNat):=Z;rw[Rx.nZ (by unfold Ld.scaled;rw[List.length_map];exact lv) lW,Rx.nZ lv lW,show (-Ld.S w fun i=>g v i.toNat*g W i.toNat)=-1*Ld.S w fun i=>g v i.toNat*g W i.toNat by lia,<-Ld.ku];refine Ld.jT fun i hi=>?_;rw[ae,Rx.lB (l:=Ld.scaled v (-1)) (v:=g v i * -1) (by unfold Ld.scaled;rw[List.getElem?_map,Rx.lD J];rfl),Int.mul_comm (g v i),Int.mul_assoc]
theorem bar (h:oA n ps l)(la:a.length=n)(lb:∀b∈bs,b.length=n){s:Int}(lW:W.length=(nK n l).length)
 (hb:Rx.Fi (bs.map (kr n l)) (Ld.scaled (kr n l a) (-1)) W s){AW:List Int}(lA:AW.length=n)(ha:∀k:Nat,k<n->Ld.at' AW k=aw n l W (nK n l).length k):(∀b∈bs,s∣Rx.dot b AW)/\¬s∣Rx.dot a AW:=by
  have key:∀{b:List Int},b.length=n->Rx.dot b AW=Rx.dot (kr n l b) W:=fun {b} l'=>by
    rw[<-HS h l' lW,Rx.nZ l' lA];refine Ld.jT fun k hk=>?_;rw[ae,<-ha k hk,<-Ld.oO (Rx.lD (show k<b.length by lia)),<-Ld.oO (Rx.lD (show k<AW.length by lia))]
  refine⟨fun b hm=>?_,fun d=>hb.2 ?_⟩
  · obtain⟨j,hj,e⟩:=List.getElem_of_mem hm
    have z:=hb.1 j (by rw[aa];exact hj);rw[ah,af,ax hj,gL,gz,e] at z;rw[key (lb b hm)];exact z
  · rw[JW pI lW,<-key la]
    exact dL.mpr d
theorem Ql {n:Nat}{l:List ((Int×Int)×Int)}{W:List Int}{i M:Nat}(h:i<=60)(hb:∀c,c<i->(g W c).natAbs<2^M)(k:Int):(aw n l W i k).natAbs<2^(M+6):=by
 unfold aw;have b:=Mx.xJ (k:=i) (F:=fun c=>V l (g (nK n l) c.toNat) k*g W c.toNat) (B:=((2^M:Nat):Int)) fun c hc=>by
  rw[ae,aM];have:=hb c hc;have v:(V l (g (nK n l) c) k).natAbs<=1:=by rcases tU l (g (nK n l) c) k with z | z | z<;>rw[z]<;>decide
  have:=cL v (d6 this);rw[Nat.one_mul] at this;exact Int.ofNat_le.mpr this
 rw[<-aP] at b;have b':=Int.ofNat_le.mp b;have p:0<2^M:=Nat.two_pow_pos M;have e:2^(M+6)=2^M*64:=by rw[gS]
 have:=cB (2^M) h;rw[e];omega
theorem KW {n:Nat}{ps:List (Int×Int)}{l:List ((Int×Int)×Int)}(h:oA n ps l)(n2:n<=420){a:List Int}{B:Nat}(ha:∀x∈a,x.natAbs<=B):∀z∈kr n l a,z.natAbs<=2^8*B:=fun z hz=>by
 unfold kr at hz;obtain⟨k,_,rfl⟩:=List.mem_map.mp hz;refine bL (PX (fun k=>Ld.A5 (B:=B) ha k) k) (cB _ (bY O ?_));have:=yG h.hp n2;rw[<-h.map,aa] at this;exact this
end Ct
namespace L2
open PySem PySem.Spec PyProof.Rows PySem.W
def PM (qual:Str)(a:Addr):HO:=.ext fun h=>h.CodeRec (.ref a) qual
def xY (P:Addr)(pos:Pos)(qual:Str)(H:Hp):Prop :=
 H P=some (.tbl #[])\/∃c:Addr,H P=some (.tbl #[rawInt pos.line,rawInt pos.col,.ref c])/\H c=some (PM qual c)
def An (P:Addr)(H H':Hp):Prop:=∀b o,b≠P->H b=some o->H' b=some o
theorem An.of {P:Addr}{H H':Hp}(h:jU H H'):An P H H':=fun b o _ e=>h b o e
theorem An.trans {P:Addr}{H H1 H2:Hp}(a:An P H H1)(b:An P H1 H2):An P H H2:=fun c o n e=>b c o n (a c o n e)
theorem xY.same {P:Addr}{pos:Pos}{qual:Str}{H H':Hp}(l:xY P pos qual H)(h:jU H H'):xY P pos qual H':=by
 rcases l with l | ⟨c,l1,l2⟩
 .exact .inl (h _ _ l)
 .exact .inr ⟨c,h _ _ l1,h _ _ l2⟩
theorem xY.ne {P a:Addr}{pos:Pos}{qual:Str}{H:Hp}{xs:List V}(l:xY P pos qual H)(h:H a=some (.lst xs)):a≠P:=fun e=>by
 subst e;rcases l with l | ⟨c,l,_⟩<;>· rw[h] at l;cases l
structure Ui (mg:Str->Option Value)(base:Heap)(c P:Addr):Prop where
 code:CodeHd base c P
 blt:base.BuiltinsAt mg P
 ng:mainGlobals≠P
section
variable {H:Hp}{l a P:Addr}{qual:Str}{pos:Pos}{e:Expr}
theorem xY.tab {P:Addr}{pos:Pos}{qual:Str}{H:Hp}(l:xY P pos qual H):∃ps,H P=some (.tbl ps):=by
 rcases l with l | ⟨_,l,_⟩
 .exact⟨_,l⟩
 .exact⟨_,l⟩
theorem An.seq {K:PySem.W.Frag}{P a:Addr}{H H':Hp}{xs:List V}(e:An P H H')(l:∃ps,H P=some (.tbl ps))(h:j6 K H a xs):j6 K H' a xs:=by
 obtain⟨ps,l⟩:=l;have ne:∀o,H a=some o->o≠.tbl ps->a≠P:=fun o e1 n z=>by
  subst z;rw[e1] at l;exact n (bK l)
 rcases h with (h | ⟨o,h⟩) | h
 .exact .inl (.inl (e _ _ (ne _ h (fun z=>nomatch z)) h))
 .exact .inl (.inr ⟨o,e _ _ (ne _ h (fun z=>nomatch z)) h⟩)
 .exact .inr h
end
theorem GM {K:PySem.W.Frag}{a:Addr}{xs:List V}{g:TG}{tc:TT}{te:TE}{lh:St}{H:Hp}{Q:VK}(Pv:Nat->List V->Hp->Prop)(h0:Pv 0 [] H)(hl:∀i ys H,i<=xs.length->Pv i ys H->kQ K H a xs)(hz:∀i ys H,i<xs.length->Pv i ys H->ys.length<sizeLine)
  (hs:∀i x ys H,xs[i]?=some x->Pv i ys H->g x lh H fun mU H2=>tc mU H2 fun b H3=>if b=true then te mU H3 fun y H4=>Pv (i+1) (ys++[y]) H4 else Pv (i+1) ys H3)(hd:∀ys H,Pv xs.length ys H->∀D,H D=none->Q (.ref D) (upd H D (.lst ys))) :
  m8 (TB K a) g tc te lh Q H:=by
 refine⟨fun i m ys H=>m=xs.length-i/\i<=xs.length/\Pv i ys H,⟨xs.length,jH,Nat.zero_le _,h0⟩,?_⟩;rintro i m ys H ⟨rfl,hi,p⟩;have q:=hl i ys H hi p
 by_cases pM:i<xs.length
 .refine .inr ⟨⟨xs,xs[i],q,by simp[pM]⟩,hz i ys H pM p,Pv (i+1),fun Nv H' p'=>⟨xs.length-(i+1),jJ,Z,pM,p'⟩,fun x H' y=>?_⟩;obtain⟨e,y⟩:=y;subst e;exact hs i x ys _ (y xs q) p
 .have e:i=xs.length:=jJ;subst e;exact .inl ⟨⟨xs,q,aH _⟩,hd ys H p⟩
structure Lb (K:PySem.W.Frag)(mg:Str->Option Value)(base:Heap)(x:Str)(cc tT:Addr):Prop where
 kb:K.In base
 nb:base.Ns mainGlobals mg
 tb:tabIn K x=some (cc,tT)
 lb:Ui mg base cc tT
theorem An.free {T:Addr}{H H':Hp}(e:An T H H')(t:∃ps,H' T=some (.tbl ps)){l:Addr}(h:H' l=none):H l=none:=by
 cases q:H l with
 | none=>rfl
 | some o =>
  have ne:l≠T:=fun z=>by obtain⟨ps,t⟩:=t;rw[<-z,h] at t;cases t
  rw[e l o ne q] at h;cases h
theorem An.lst {T:Addr}{H H':Hp}{r:Addr}{xs:List V}(e:An T H H')(t:∃ps,H T=some (.tbl ps))(h:H r=some (.lst xs)):H' r=some (.lst xs):=by
 obtain⟨ps,t⟩:=t;exact e _ _ (fun z=>by rw[z,t] at h;cases h) h
theorem An.same {T:Addr}{H H1 H2:Hp}(a:An T H H1)(b:jU H1 H2):An T H H2:=a.trans (.of b)
theorem An.upd {T:Addr}{H H':Hp}{r:Addr}{o:HO}(e:An T H H')(h:H r=none):An T H (upd H' r o):=fun b u n q=>by rw[j5 (j8 q h)];exact e b u n q
theorem xY.upd {T r:Addr}{pos:Pos}{qual:Str}{H:Hp}{xs ys:List V}(l:xY T pos qual H)(h:H r=some (.lst xs)):xY T pos qual (upd H r (.lst ys)):=by
 rcases l with l | ⟨c,l1,l2⟩
 .exact .inl (by rw[j5 (fun z=>by rw[<-z,l] at h;cases h)];exact l)
 .refine .inr ⟨c,by rw[j5 (fun z=>by rw[<-z,l1] at h;cases h)];exact l1,?_⟩;rw[j5 (fun z=>by rw[<-z,l2] at h;cases h)];exact l2
end L2
namespace Ct
variable {n:Nat}{ps:List (Int×Int)}{l:List ((Int×Int)×Int)}{bs:List (List Int)}
open Rt
open Lt
theorem JB (h:oA n ps l)(n1:1<=n){f:Int->Int}{m:Int}(hf:Ld.tK n f)(z:∀c,c<(nK n l).length->m∣R n l f (g (nK n l) c)):∀x,m∣R n l f x:=fun x=>by
 have Bu:Ld.tK n (R n l f):=HG (fun z hz=>h.pc hz) hf;rw[<-Bu.md];have x0:=aC x (show (n:Int)≠0 by lia);have x1:=az x (show 0<(n:Int) by lia)
 by_cases k:Kp l (x%n)
 .obtain⟨c,hc,e⟩:=List.getElem_of_mem (ud.mpr ⟨⟨x0,x1⟩,k⟩);have:=z c hc;rwa [Rx.lB (ax hc),e] at this
 .have ⟨z',hz,tz⟩:∃z∈l,top z.1.1 z.1.2 z.2 (x%n)=z.1.1-1:=aT fun no=>k fun z hz tz=>no ⟨z,hz,tz⟩;rw[h.drop hz f _ tz];exact aZ _
theorem JL (h:oA n ps l)(n1:1<=n){Ai:Nat}(ha:Ai<n){d m:Int}(z:∀x,m∣R n l (fun x=>if x%n=(Ai:Int) then d else 0) x):m∣d:=by
 obtain⟨j,kp,nz⟩:=h.seen Ai;have Bu:Ld.tK n (fun x:Int=>if x%n=(Ai:Int) then d else 0):=fun x y e=>by show (if x%n=_ then d else 0)=(if y%n=_ then d else 0);rw[e]
 have e:=h.wsum Bu kp;have s:(Ld.S n fun k=>(if k%n=(Ai:Int) then d else 0)*V l j k)=d*V l j Ai:=by
  have e1:(Ld.S n fun k=>(if k%n=(Ai:Int) then d else 0)*V l j k)=Ld.S n fun k=>if k=(Ai:Int) then d*V l j k else 0:=Ld.jT fun k hk=>by
   rw[aR J J];split
   .rfl
   .exact aY _
  rw[e1,Ld.yr (G:=fun k=>d*V l j k) J,aD J]
 rw[s] at e;have:=z j;rw[e] at this;rcases tU l j Ai with v | v | v
 .exact absurd v nz
 .rwa [v,bX] at this
 .rw[v,f7] at this;exact dL.mp this
theorem Mo {m:Int}{F:Int->Int}:∀{k:Nat},(∀j:Nat,j<k->m∣F j)->m∣Ld.S k F
 | 0,_=>aZ _
 | k+1,h=>bQ (Mo fun j hj=>h j J) (h k J)
theorem Nj (h:oA n ps l)(n1:1<=n){ld le cs:List Int}(ll:ld.length=n)(NB:le.length=n){Ai:Nat}(ha:Ai<n){d m:Int}(ev:∀x,Ld.at' le x=Ld.at' ld x+(if x%n=(Ai:Int) then d else 0))
 (dl:∀x,m∣R n l (Ld.at' ld) x)(db:∀b∈bs,∀x,m∣R n l (Ld.at' b) x)(nd:¬m∣d)(hw:Rx.Hj (nK n l).length (bs.map (kr n l)) (Ld.scaled (kr n l le) (-1)) cs):dR:=by
  refine nd (JL h n1 ha (m:=m) (JB h n1 (fun x y e=>by show (if x%n=_ then d else 0)=(if y%n=_ then d else 0);rw[e]) fun c hc=>?_));have e:=hw c hc;rw[aa] at e;have e2:g (Ld.scaled (kr n l le) (-1)) c=-R n l (Ld.at' le) (g (nK n l) c):=Rx.lB (by
    unfold Ld.scaled;rw[af,Rx.lD (by rw[pI];exact hc),Cy hc];exact cQ some (f7 _))
  have e4:R n l (Ld.at' le) (g (nK n l) c)=R n l (Ld.at' ld) (g (nK n l) c)+R n l (fun x=>if x%n=(Ai:Int) then d else 0) (g (nK n l) c):=by
    rw[show Ld.at' le=fun x=>Ld.at' ld x+(if x%n=(Ai:Int) then d else 0) from funext ev,sP]
  have d1:m∣Ld.S bs.length fun j=>g cs j.toNat*g ((bs.map (kr n l)).getD j.toNat []) c:=Mo fun j hj=>by
    rw[ae,ah,af,Rx.lZ hj,gL,gz,Cy hc];exact ay (db _ (Rx.k5 hj) _)
  rw[e,e2,e4] at d1;have d2:=dl (g (nK n l) c);have d3:=dL.mp d1;exact(jj d2).mp d3
theorem Nl {ld os W:List Int}{s:Int}(lo:os.length=bs.length)(ev:∀x,R n l (Ld.at' ld) x=Ld.S bs.length fun j=>g os j.toNat*R n l (Ld.at' (bs.getD j.toNat [])) x)(lW:W.length=(nK n l).length)
 (hb:Rx.Fi (bs.map (kr n l)) (Ld.scaled (kr n l ld) (-1)) W s):dR:=by
  have lk:∀y∈bs.map (kr n l),y.length=(nK n l).length:=fun y hy=>by
    obtain⟨b,_,rfl⟩:=List.mem_map.mp hy;exact pI
  refine Rx.OP lk (by unfold Ld.scaled;rw[List.length_map,pI]) lW (cnts:=os.map fun x=>-x) (fun c hc=>?_) hb;rw[aa];have e2:g (Ld.scaled (kr n l ld) (-1)) c=-R n l (Ld.at' ld) (g (nK n l) c):=Rx.lB (by
    unfold Ld.scaled;rw[af,Rx.lD (by rw[pI];exact hc),Cy hc];exact cQ some (f7 _))
  rw[e2,ev,show ∀z:Int,-z=-1*z from fun z=>by lia,<-Ld.ku];refine Ld.jT fun j hj=>?_;rw[ae,ah,af,Rx.lZ hj,gL,gz,Cy hc,Rx.lB (l:=os.map fun x=>-x) (v:=-g os j) zgV,<-aK];congr 1;lia
theorem Vo:(List.range 6).all (fun k=>Rx.Sa k (2^51) (2^216))=true:=by decide +kernel
end Ct
namespace K39
variable {l:PySem.W.OpenLaw}
open PySem L2
def top (i:Nat):Stmt:=PySem.Challenge.pw_evenhub_k39_whole_blocks_and_rings.main.body.getD i (.Pass ⟨0,0,0,0⟩)
abbrev uX:Stmt:=top 8
theorem BW:jZ ["one","other","great","small","left"] ["one","other"] (jW uX):=⟨Z,Z,Z,L,Z,L,L⟩
abbrev yT:Stmt:=top 9
theorem GS:jZ ["one","other"] ["one","other"] (jW yT):=⟨Z,Z,Z,L,Z,L,L⟩
abbrev wK:Stmt:=top 10
theorem EH:jZ ["one","other","bits","rests","counts","turn"] ["one","other","bits"] (jW wK):=⟨Z,Z,Z,L,Z,L,L⟩
abbrev sf:Stmt:=top 11
theorem zD:jZ ["pair","turn"] ["pair","turn"] (jW sf):=⟨Z,Z,Z,L,Z,L,L⟩
abbrev rK:Stmt:=top 12
theorem zF:jZ ["rests","bits","length","behind","turn"] ["rests","bits"] (jW rK):=⟨Z,Z,Z,L,Z,L,L⟩
abbrev rO:Stmt:=top 13
theorem y8:jZ ["rest","later_rest","turn","many","new_rest","further","doubt"] ["rest","later_rest"] (jW rO):=⟨Z,Z,Z,L,Z,L,L⟩
abbrev BS:Stmt:=top 15
theorem Jj:jZ ["n","hole","weight","outcome"] ["n","hole","weight"] (jW BS):=⟨Z,Z,Z,L,Z,L,L⟩
abbrev CO:Stmt:=top 16
theorem JX:jZ ["one","other"] ["one","other"] (jW CO):=⟨Z,Z,Z,L,Z,L,L⟩
abbrev sk:Stmt:=top 17
theorem yU:jZ ["one","other"] ["one","other"] (jW sk):=⟨Z,Z,Z,L,Z,L,L⟩
abbrev wx:Stmt:=top 18
theorem Eo:jZ ["load","many"] ["load","many"] (jW wx):=⟨Z,Z,Z,L,Z,L,L⟩
abbrev zI:Stmt:=top 20
theorem GB:jZ ["n","found","left","p","q"] ["n"] (jW zI):=⟨Z,Z,Z,L,Z,L,L⟩
abbrev p8:Stmt:=top 21
theorem wu:jZ ["n","p","q"] ["n","p"] (jW p8):=⟨Z,Z,Z,L,Z,L,L⟩
abbrev BC:Stmt:=top 22
theorem Jf:jZ ["step","n","told"] ["step","n"] (jW BC):=⟨Z,Z,Z,L,Z,L,L⟩
abbrev tx:Stmt:=top 24
theorem A1:jZ ["load","p","hole","many","place"] ["load","p","hole","many"] (jW tx):=⟨Z,Z,Z,L,Z,L,L⟩
abbrev qS:Stmt:=top 25
theorem xZ:jZ ["n","p","hole","step"] ["n","p","hole"] (jW qS):=⟨Z,Z,Z,L,Z,L,L⟩
abbrev zX:Stmt:=top 27
theorem HC:jZ ["n","q","hole"] ["n","q","hole"] (jW zX):=⟨Z,Z,Z,L,Z,L,L⟩
abbrev u8:Stmt:=top 28
theorem Bx:jZ ["n","hole"] ["n","hole"] (jW u8):=⟨Z,Z,Z,L,Z,L,L⟩
abbrev oJ:Stmt:=top 29
theorem u5:jZ ["p","q"] ["p","q"] (jW oJ):=⟨Z,Z,Z,L,Z,L,L⟩
abbrev Cj:Stmt:=top 30
theorem J8:jZ ["n"] ["n"] (jW Cj):=⟨Z,Z,Z,L,Z,L,L⟩
abbrev CD:Stmt:=top 31
theorem JR:jZ ["load","n","left","rows","p","q","hole","many"] ["load"] (jW CD):=⟨Z,Z,Z,L,Z,L,L⟩
abbrev uM:Stmt:=top 32
theorem CK:jZ ["n","p","q","lead"] ["n","p","q"] (jW uM):=⟨Z,Z,Z,L,Z,L,L⟩
abbrev vd:Stmt:=top 34
theorem Cd:jZ ["load","weights"] ["load","weights"] (jW vd):=⟨Z,Z,Z,L,Z,L,L⟩
abbrev s9:Stmt:=top 35
theorem At:jZ ["n","hole","outcome","p","q","factors","lead"] ["n","hole"] (jW s9):=⟨Z,Z,Z,L,Z,L,L⟩
abbrev oN:Stmt:=top 36
theorem va:jZ ["p","q","kept_share","step","factors"] ["p","q","kept_share"] (jW oN):=⟨Z,Z,Z,L,Z,L,L⟩
abbrev yQ:Stmt:=top 37
theorem Gp:jZ ["load","told","hole","weight"] ["load"] (jW yQ):=⟨Z,Z,Z,L,Z,L,L⟩
abbrev wV:Stmt:=top 40
theorem Eu:jZ ["things","places"] ["things","places"] (jW wV):=⟨Z,Z,Z,L,Z,L,L⟩
abbrev wR:Stmt:=top 41
theorem E8:jZ ["size","places","numbers","outcome","place","number"] ["size","places","numbers"] (jW wR):=⟨Z,Z,Z,L,Z,L,L⟩
abbrev u9:Stmt:=top 42
theorem BL:jZ ["rows"] ["rows"] (jW u9):=⟨Z,Z,Z,L,Z,L,L⟩
abbrev si:Stmt:=top 43
theorem yO:jZ ["rows","column"] ["rows","column"] (jW si):=⟨Z,Z,Z,L,Z,L,L⟩
abbrev uL:Stmt:=top 44
theorem BF:jZ ["steps","prime","found","number","step","left","column"] ["steps","prime"] (jW uL):=⟨Z,Z,Z,L,Z,L,L⟩
abbrev uF:Stmt:=top 45
theorem Cn:jZ ["step","found","prime","left","number","column","row"] ["step","found","prime"] (jW uF):=⟨Z,Z,Z,L,Z,L,L⟩
abbrev pF:Stmt:=top 46
theorem vq:jZ ["row","column","number"] ["row"] (jW pF):=⟨Z,Z,Z,L,Z,L,L⟩
abbrev sU:Stmt:=top 47
theorem Az:jZ ["row","many","other","modulus"] ["row","many","other","modulus"] (jW sU):=⟨Z,Z,Z,L,Z,L,L⟩
abbrev pX:Stmt:=top 48
theorem wI:jZ ["row","many","modulus"] ["row","many","modulus"] (jW pX):=⟨Z,Z,Z,L,Z,L,L⟩
abbrev p4:Stmt:=top 49
theorem wL:jZ ["rows","modulus","size","left","column","lead"] ["rows","modulus"] (jW p4):=⟨Z,Z,Z,L,Z,L,L⟩
abbrev vZ:Stmt:=top 50
theorem EA:jZ ["rows","undoing","modulus","goal","rests","told","left","scale","many","count","more"] ["rows","undoing","modulus","goal"] (jW vZ):=⟨Z,Z,Z,L,Z,L,L⟩
abbrev qh:Stmt:=top 51
theorem w5:jZ ["rows","goal","told"] ["rows","goal","told"] (jW qh):=⟨Z,Z,Z,L,Z,L,L⟩
abbrev rZ:Stmt:=top 52
theorem zH:jZ ["rests","scale","bits","bottom","number"] ["rests","scale"] (jW rZ):=⟨Z,Z,Z,L,Z,L,L⟩
abbrev pB:Stmt:=top 53
theorem vD:jZ ["number","scale","bits"] ["number","scale","bits"] (jW pB):=⟨Z,Z,Z,L,Z,L,L⟩
abbrev uA:Stmt:=top 54
theorem Cq:jZ ["number","scale","rest"] ["number","scale"] (jW uA):=⟨Z,Z,Z,L,Z,L,L⟩
abbrev y7:Stmt:=top 57
theorem FA:jZ ["steps","goal","prime","told"] ["steps","goal"] (jW y7):=⟨Z,Z,Z,L,Z,L,L⟩
abbrev qX:Stmt:=top 58
theorem xS:jZ ["number","found"] ["number"] (jW qX):=⟨Z,Z,Z,L,Z,L,L⟩
abbrev tE:Stmt:=top 59
theorem Bc:jZ ["steps","goal","told"] ["steps","goal","told"] (jW tE):=⟨Z,Z,Z,L,Z,L,L⟩
abbrev wY:Stmt:=top 60
theorem Ew:jZ ["steps","counts","size","outcome","step","many"] ["steps","counts","size"] (jW wY):=⟨Z,Z,Z,L,Z,L,L⟩
abbrev og:Stmt:=top 61
theorem tX:jZ ["steps","bar","number","step"] ["steps","bar"] (jW og):=⟨Z,Z,Z,L,Z,L,L⟩
abbrev uz:Stmt:=top 62
theorem CS:jZ ["modulus","number"] ["modulus","number"] (jW uz):=⟨Z,Z,Z,L,Z,L,L⟩
abbrev wZ:Stmt:=top 63
theorem EC:jZ ["steps","goal","prime","frame","column","told","weights"] ["steps","goal","prime"] (jW wZ):=⟨Z,Z,Z,L,Z,L,L⟩
abbrev oF:Stmt:=top 64
theorem uU:jZ ["steps","frame","goal_made","others","told","number"] ["steps","frame","goal_made"] (jW oF):=⟨Z,Z,Z,L,Z,L,L⟩
abbrev qg:Stmt:=top 65
theorem xo:jZ ["others","steps","frame","goal_made","modulus","number","made","rows","goal","leads","left","column","lead","taken","spared","counts"] ["others","steps","frame","goal_made"] (jW qg):=⟨Z,Z,Z,L,Z,L,L⟩
abbrev pA:Stmt:=top 66
theorem vt:jZ ["made","modulus"] ["made","modulus"] (jW pA):=⟨Z,Z,Z,L,Z,L,L⟩
abbrev sV:Stmt:=top 67
theorem Bn:jZ ["rows","size","modulus","leads","number","row"] ["rows","size","modulus"] (jW sV):=⟨Z,Z,Z,L,Z,L,L⟩
abbrev uD:Stmt:=top 68
theorem CQ:jZ ["leads","row","modulus","outcome","left","column","lead","told","many"] ["leads","row","modulus"] (jW uD):=⟨Z,Z,Z,L,Z,L,L⟩
abbrev zS:Stmt:=top 69
theorem Gu:jZ ["one","many","other","more","modulus"] ["one","many","other","more","modulus"] (jW zS):=⟨Z,Z,Z,L,Z,L,L⟩
abbrev uN:Stmt:=top 70
theorem Co:jZ ["leads","column","modulus","amounts","place","lead","later"] ["leads","column","modulus"] (jW uN):=⟨Z,Z,Z,L,Z,L,L⟩
abbrev se:Stmt:=top 71
theorem zN:jZ ["frame","amounts","told"] ["frame","amounts"] (jW se):=⟨Z,Z,Z,L,Z,L,L⟩
abbrev uW:Stmt:=top 74
theorem Bw:jZ ["load","blocks","block","n","holes","told"] ["load","blocks"] (jW uW):=⟨Z,Z,Z,L,Z,L,L⟩
abbrev rR:Stmt:=top 75
theorem y9:jZ ["load","holes","left"] ["load","holes"] (jW rR):=⟨Z,Z,Z,L,Z,L,L⟩
abbrev oI:Stmt:=top 76
theorem uG:jZ ["n","holes","weights","outcome","hole","many"] ["n","holes","weights"] (jW oI):=⟨Z,Z,Z,L,Z,L,L⟩
abbrev pU:Stmt:=top 78
theorem xa:jZ ["script","k"] ["script","k"] (jW pU):=⟨Z,Z,Z,L,Z,L,L⟩
abbrev rV:Stmt:=top 79
theorem zu:jZ ["found"] ["found"] (jW rV):=⟨Z,Z,Z,L,Z,L,L⟩
abbrev qa:Stmt:=top 80
theorem wT:jZ ["found","many"] ["found","many"] (jW qa):=⟨Z,Z,Z,L,Z,L,L⟩
abbrev uJ:Stmt:=top 81
theorem BV:jZ ["row","weights","total","one","many"] ["row","weights"] (jW uJ):=⟨Z,Z,Z,L,Z,L,L⟩
abbrev wE:Stmt:=top 82
theorem ED:jZ ["number","modulus"] ["number","modulus"] (jW wE):=⟨Z,Z,Z,L,Z,L,L⟩
abbrev qJ:Stmt:=top 83
theorem xV:jZ ["n","found","p"] ["n"] (jW qJ):=⟨Z,Z,Z,L,Z,L,L⟩
abbrev tq:Stmt:=top 84
theorem AQ:jZ ["n","rows","load","p","hole","many","k","at"] ["n","rows"] (jW tq):=⟨Z,Z,Z,L,Z,L,L⟩
abbrev p5:Stmt:=top 85
theorem wA:jZ ["found","n","row"] ["found","n"] (jW p5):=⟨Z,Z,Z,L,Z,L,L⟩
abbrev sX:Stmt:=top 86
theorem AE:jZ ["load","told"] ["load"] (jW sX):=⟨Z,Z,Z,L,Z,L,L⟩
abbrev uE:Stmt:=top 87
theorem Cr:jZ ["found","load","blocks","total","block","many"] ["found","load","blocks"] (jW uE):=⟨Z,Z,Z,L,Z,L,L⟩
abbrev vf:Stmt:=top 88
theorem BR:jZ ["found","load","blocks","n","p","hole","block"] ["found","load","blocks"] (jW vf):=⟨Z,Z,Z,L,Z,L,L⟩
abbrev r6:Stmt:=top 89
theorem zV:jZ ["n","cell","most","block","k","number","at"] ["n","cell","most"] (jW r6):=⟨Z,Z,Z,L,Z,L,L⟩
abbrev uV:Stmt:=top 90
theorem Cm:jZ ["n","cell","place","primes","p"] ["n","cell","place"] (jW uV):=⟨Z,Z,Z,L,Z,L,L⟩
abbrev G4:Stmt:=top 91
theorem FU:jZ ["script","n","many","most","share_v","rows","load","blocks","k","cell","block","often","circle","at","found"] ["script"] (jW G4):=⟨Z,Z,Z,L,Z,L,L⟩
abbrev qV:Stmt:=inClass (top 39) 0
theorem sM:jZ ["self","steps","size","prime"] ["self","steps","size","prime"] (jW qV):=⟨Z,Z,Z,L,Z,L,L⟩
abbrev pE:Stmt:=inClass (top 39) 1
theorem rp:jZ ["self","goal"] ["self","goal"] (jW pE):=⟨Z,Z,Z,L,Z,L,L⟩
abbrev o6:Stmt:=inClass (top 39) 2
theorem rq:jZ ["self","goal"] ["self","goal"] (jW o6):=⟨Z,Z,Z,L,Z,L,L⟩
abbrev oE:Stmt:=inClass (top 39) 3
theorem qC:jZ ["self","amounts","told"] ["self","amounts"] (jW oE):=⟨Z,Z,Z,L,Z,L,L⟩
structure Txt (K:PySem.W.Frag)(mg:Str->Option Value)(CF:Addr)(tL:Tok)(tF:Tok)(tM:Tok):Prop where
 g_LEAD_BITS:mg "LEAD_BITS"=some (.int 128 tL)
 g_FIRST_PRIME:mg "FIRST_PRIME"=some (.int 1000000007 tF)
 g_MOST_HOLES_COUNTERED:mg "MOST_HOLES_COUNTERED"=some (.int 60 tM)
 c_Frame:mg "Frame"=some (.ref CF)
 d_divisor:Dn K mg "divisor" uX ["one","other"]
 d_joint:Dn K mg "joint" yT ["one","other"]
 d_euclid:Dn K mg "euclid" wK ["one","other","bits"]
 d_turned_on:Dn K mg "turned_on" sf ["pair","turn"]
 d_next_turn:Dn K mg "next_turn" rK ["rests","bits"]
 d_sure_turn:Dn K mg "sure_turn" rO ["rest","later_rest"]
 d_hung:Dn K mg "hung" BS ["n","hole","weight"]
 d_plus:Dn K mg "plus" CO ["one","other"]
 d_check_fit:Dn K mg "check_fit" sk ["one","other"]
 d_scaled:Dn K mg "scaled" wx ["load","many"]
 d_parts:Dn K mg "parts" zI ["n"]
 d_prime_power:Dn K mg "prime_power" p8 ["n","p"]
 d_back:Dn K mg "back" BC ["step","n"]
 d_lay_ring:Dn K mg "lay_ring" tx ["load","p","hole","many"]
 d_ring_holes:Dn K mg "ring_holes" qS ["n","p","hole"]
 d_share:Dn K mg "share" zX ["n","q","hole"]
 d_is_kept:Dn K mg "is_kept" u8 ["n","hole"]
 d_first_dropped:Dn K mg "first_dropped" oJ ["p","q"]
 d_kept:Dn K mg "kept" Cj ["n"]
 d_rest:Dn K mg "rest" CD ["load"]
 d_dropped:Dn K mg "dropped" uM ["n","p","q"]
 d_weighed:Dn K mg "weighed" vd ["load","weights"]
 d_weighing:Dn K mg "weighing" s9 ["n","hole"]
 d_part_weighing:Dn K mg "part_weighing" oN ["p","q","kept_share"]
 d_paper:Dn K mg "paper" yQ ["load"]
 d_picked:Dn K mg "picked" wV ["things","places"]
 d_spread:Dn K mg "spread" wR ["size","places","numbers"]
 d_flipped:Dn K mg "flipped" u9 ["rows"]
 d_column_of:Dn K mg "column_of" si ["rows","column"]
 d_corners:Dn K mg "corners" uL ["steps","prime"]
 d_cleared:Dn K mg "cleared" uF ["step","found","prime"]
 d_first_filled:Dn K mg "first_filled" pF ["row"]
 d_lessened:Dn K mg "lessened" sU ["row","many","other","modulus"]
 d_taken_times:Dn K mg "taken_times" pX ["row","many","modulus"]
 d_undone_rows:Dn K mg "undone_rows" p4 ["rows","modulus"]
 d_solved:Dn K mg "solved" vZ ["rows","undoing","modulus","goal"]
 d_is_solution:Dn K mg "is_solution" qh ["rows","goal","told"]
 d_fractions:Dn K mg "fractions" rZ ["rests","scale"]
 d_least_bottom:Dn K mg "least_bottom" pB ["number","scale","bits"]
 d_centred:Dn K mg "centred" uA ["number","scale"]
 d_reach:Dn K mg "reach" y7 ["steps","goal"]
 d_next_prime:Dn K mg "next_prime" qX ["number"]
 d_is_shown:Dn K mg "is_shown" tE ["steps","goal","told"]
 d_summed:Dn K mg "summed" wY ["steps","counts","size"]
 d_first_unbarred:Dn K mg "first_unbarred" og ["steps","bar"]
 d_divides:Dn K mg "divides" uz ["modulus","number"]
 d_sought:Dn K mg "sought" wZ ["steps","goal","prime"]
 d_sought_within:Dn K mg "sought_within" oF ["steps","frame","goal_made"]
 d_sought_with:Dn K mg "sought_with" qg ["others","steps","frame","goal_made"]
 d_whole_counts:Dn K mg "whole_counts" pA ["made","modulus"]
 d_leads_of:Dn K mg "leads_of" sV ["rows","size","modulus"]
 d_entered:Dn K mg "entered" uD ["leads","row","modulus"]
 d_mixed:Dn K mg "mixed" zS ["one","many","other","more","modulus"]
 d_barring:Dn K mg "barring" uN ["leads","column","modulus"]
 d_inner_bar:Dn K mg "inner_bar" se ["frame","amounts"]
 d_counter:Dn K mg "counter" uW ["load","blocks"]
 d_kept_rest:Dn K mg "kept_rest" rR ["load","holes"]
 d_all_weighings:Dn K mg "all_weighings" oI ["n","holes","weights"]
 d_law_cell_at:Dn K mg "_law_cell_at" pU ["script","k"]
 d_law_whole:Dn K mg "_law_whole" rV ["found"]
 d_law_numbers:Dn K mg "_law_numbers" qa ["found","many"]
 d_law_sum:Dn K mg "_law_sum" uJ ["row","weights"]
 d_law_by:Dn K mg "_law_by" wE ["number","modulus"]
 d_law_primes:Dn K mg "_law_primes" qJ ["n"]
 d_law_laid:Dn K mg "_law_laid" tq ["n","rows"]
 d_law_rows_of:Dn K mg "_law_rows_of" p5 ["found","n"]
 d_law_even:Dn K mg "_law_even" sX ["load"]
 d_law_way:Dn K mg "_law_way" uE ["found","load","blocks"]
 d_law_bar:Dn K mg "_law_bar" vf ["found","load","blocks"]
 d_law_block:Dn K mg "_law_block" r6 ["n","cell","most"]
 d_law_row:Dn K mg "_law_row" uV ["n","cell","place"]
 cl_Frame:Fy K CF
 na_size:nX K CF "size"
 na_prime:nX K CF "prime"
 na_found:nX K CF "found"
 na_chosen:nX K CF "chosen"
 na_columns:nX K CF "columns"
 na_rows:nX K CF "rows"
 na_modulus:nX K CF "modulus"
 na_undoing:nX K CF "undoing"
 m_Frame_init:Kn K mg CF "Frame" "Frame.__init__" qV ["self","steps","size","prime"]
 m_Frame_missed:Mn K CF "missed" "Frame.missed" pE ["self","goal"]
 m_Frame_counts:Mn K CF "counts" "Frame.counts" o6 ["self","goal"]
 m_Frame_weights:Mn K CF "weights" "Frame.weights" oE ["self","amounts"]
 b_len:mg "len"=none
 b_isinstance:mg "isinstance"=none
 b_int:mg "int"=none
 b_bool:mg "bool"=none
 b_list:mg "list"=none
 b_tuple:mg "tuple"=none
 b_range:mg "range"=none
 b_min:mg "min"=none
 b_max:mg "max"=none
 b_abs:mg "abs"=none
 b_zip:mg "zip"=none
 b_all:mg "all"=none
 b_enumerate:mg "enumerate"=none
 b_sum:mg "sum"=none
section
variable {ps:List (Int×Int)}{r:Addr}{as:List Addr}{l:List Int}{m:Int}{rows:List (List Int)}
variable {CF:Addr}{tL tF tM:Tok}{P:Program}{w:World}{K:PySem.W.Frag}{mg:Str->Option Value}{base:Heap}
inductive D6 (K:PySem.W.Frag)(vs:List V)(H:Hp)(Q:VK)(E_:XK):Prop
 | mk (a:Addr)(ns:List Int)(_:vs=[.ref a])(_:j6 K H a (ns.map V.int))(_:ns.length<=63)(_:∀H',Q (.bl true) H')
inductive Na (vs:List V)(H:Hp)(Q:VK)(E_:XK):Prop
 | mk (m:Nat)(h w:Int)(_:vs=[.int m,.int h,.int w])(_:1<=m)(_:m<=420)(_:∀r H',jU H H'->H r=none->H' r=some (.lst ((Ld.MZ m h w).map V.int))->Q (.ref r) H')
theorem vM (T:Txt K mg CF tL tF tM):Df P w K mg base 1 "hung" ["n","hole","weight"] Na:=by
 refine kR T.d_hung Jj fun f cdv A outer s H vs Q E hr nd h=>?_;obtain⟨m,x,v,rfl,m1,m2,q⟩:=h;refine⟨_,(jK (kh 3 nd (jV p9 (lR (kL jM)) (pv 0))) (jK (oM (pv 2) (oH (pv 3) (jV kJ (pv 1) (pv 0)) set_list)) (jQ (j4 (pv 3))))),?_⟩;refine⟨jS,fun l hl=>⟨_,Z,l,_,_,Z,Z,jO,jJ,jJ,(by show 1*_<=_;exact nF jJ),fun p hp=>?_⟩⟩;have lp:l≠p:=j8 jO hp;have X7:H p=none:=by rwa [j5 (dj lp)] at hp
 rw[rep0];refine⟨_,Z,_,Z,_,Z,_,Z,_,_,Z,Z,jJ,p,_,_,_,Z,Z,jO,Af (xi jH) jJ x,?_⟩;refine⟨_,Z,q p _ (kK (kK (kK (jU.refl H) hl) X7) X7) X7 ?_⟩;rw[jO,set_int];rfl
inductive Qn (K:PySem.W.Frag)(vs:List V)(H:Hp)(Q:VK)(E_:XK):Prop
 | mk (a b:Addr)(xs ys:List V)(_:vs=[.ref a,.ref b])(_:j6 K H a xs)(_:j6 K H b ys)(_:xs.length=ys.length)(_:Q .non H)
theorem qK (T:Txt K mg CF tL tF tM):Df P w K mg base 1 "check_fit" ["one","other"] (Qn K):=by
 refine kR T.d_check_fit yU fun f cdv A outer s H vs Q E hr nd h=>?_;obtain⟨a,b,xs,ys,rfl,ha,hb,e,q⟩:=h;refine⟨_,(jQ (kY (lI ox (nQ T.b_len (pv 0)) (nQ T.b_len (pv 1))) (jQ xg) kD)),?_⟩;refine⟨_,Z,a,_,Z,.inl ha,_,Z,b,_,Z,.inl hb,Z,_,Z,?_⟩;refine mZ (fun c=>?_) (fun c=>q);exact Mi c (by rw[e])
inductive JU (vs:List V)(H:Hp)(Q:VK)(E_:XK):Prop
 | mk (r1 r2:Addr)(x y a b c d:Int)(N:Nat)(_:vs=[.ref r1,.ref r2])(_:H r1=some (.tup [.int x,.int y]))(_:H r2=some (.tup [.int a,.int b,.int c,.int d]))(_:N<=9000)(_:x.natAbs<2^N/\y.natAbs<2^N/\a.natAbs<2^N/\b.natAbs<2^N/\c.natAbs<2^N/\d.natAbs<2^N)(_:∀t,H t=none->Q (.ref t) (upd H t (.tup [.int (a*x+b*y),.int (c*x+d*y)])))
theorem tP (T:Txt K mg CF tL tF tM):Df P w K mg base 1 "turned_on" ["pair","turn"] JU:=by
 refine kR T.d_turned_on zD fun f cdv A outer s H vs Q E hr nd h=>?_;obtain⟨r1,r2,x,y,a,b,c,d,N,rfl,h1,h2,hN,⟨fx,fy,fa,fb,fc,fd'⟩,q⟩:=h;have p0:me [V.int x,V.int y] 0=some (.int x):=Z;have p1:me [V.int x,V.int y] 1=some (.int y):=Z;have t0:me [V.int a,V.int b,V.int c,V.int d] 0=some (.int a):=Z;have t1:me [V.int a,V.int b,V.int c,V.int d] 1=some (.int b):=Z;have t2:me [V.int a,V.int b,V.int c,V.int d] 2=some (.int c):=Z;have t3:me [V.int a,V.int b,V.int c,V.int d] 3=some (.int d):=Z;refine⟨_,(jQ (j4 (lL (ko (jV kM (jV ks (ki j9 (pv 1) jM) (ki j9 (pv 0) jM)) (jV ks (ki j9 (pv 1) jM) (ki j9 (pv 0) jM))) (jV kM (jV ks (ki j9 (pv 1) jM) (ki j9 (pv 0) jM)) (jV ks (ki j9 (pv 1) jM) (ki j9 (pv 0) jM))))))),?_⟩;refine⟨_,Z,r2,_,_,_,Z,Z,kQ.of h2,t0,_,Z,r1,_,_,_,Z,Z,kQ.of h1,p0,_,_,Z,Z,rT fa fx J,_,Z,r2,_,_,_,Z,Z,kQ.of h2,t1,_,Z,r1,_,_,_,Z,Z,kQ.of h1,p1,_,_,Z,Z,rT fb fy J,_,_,Z,Z,?_⟩;exact⟨_,Z,r2,_,_,_,Z,Z,kQ.of h2,t2,_,Z,r1,_,_,_,Z,Z,kQ.of h1,p0,_,_,Z,Z,rT fc fx J,_,Z,r2,_,_,_,Z,Z,kQ.of h2,t3,_,Z,r1,_,_,_,Z,Z,kQ.of h1,p1,_,_,Z,Z,rT fd' fy J,_,_,Z,Z,jP,q⟩
theorem tD {i j:Int}{N:Nat}(h0:0<j)(h:j.natAbs<2^N)(hN:N<=9000):HF i j:=by
 refine⟨h0,?_⟩;have:=(ia (show j.natAbs≠0 by lia)).mpr h;lia
theorem G7 {u v d:Int}(h:d=if (if v<0 then -v else v) > (if u<0 then -u else u) then (if v<0 then -v else v) else (if u<0 then -u else u)):(u.natAbs:Int)<=d/\(v.natAbs:Int)<=d:=by
 have hv:(if v<0 then -v else v)=v.natAbs:=by split<;>lia
 have hu:(if u<0 then -u else u)=u.natAbs:=by split<;>lia
 rw[hv,hu] at h;split at h<;>lia
inductive LR (vs:List V)(H:Hp)(Q:VK)(E_:XK):Prop
 | mk (A B:Int)(h N:Nat)(_:vs=[.int (A/2^h),.int (B/2^h)])(_:0<=A)(_:0<B)(_:1<=N)(_:N<=9000)(_:A<2^N)(_:B<2^N)(_:∀t H' (x y z w:Int),jU H H'->H' t=some (.tup [.int x,.int y,.int z,.int w])->Eb.Tn A B x y z w->((x=1/\y=0/\z=0/\w=1)\/2^h<=z*A+w*B)->(x.natAbs<2^N/\y.natAbs<2^N/\z.natAbs<2^N/\w.natAbs<2^N)->Q (.ref t) H')
theorem yX (T:Txt K mg CF tL tF tM):Df P w K mg base 1 "sure_turn" ["rest","later_rest"] LR:=by
 refine kR T.d_sure_turn y8 fun f cdv A outer s H vs Q E hr nd h=>?_;obtain⟨A0,B0,hh,N,rfl,a0,b0,N1,N2,fA,fB,q⟩:=h;obtain⟨HH,Sv⟩:∃HH:Int,HH=2^hh:=⟨_,Z⟩;obtain⟨W,hW⟩:∃W:Nat,W=2^N:=⟨_,Z⟩;have H1:1<=HH:=by rw[Sv];exact fO O
 have W2:2<=W:=by rw[hW];exact bY (n:=2) O N1
 have fA':A0<W:=by rw[hW];exact_mod_cast fA
 have fB':B0<W:=by rw[hW];exact_mod_cast fB
 rw[<-Sv];have eA:A0=A0/HH*HH+A0%HH:=by have:=bP A0 HH;rw[aB] at this;lia
 have eB:B0=B0/HH*HH+B0%HH:=by have:=bP B0 HH;rw[aB] at this;lia
 have mA0:=aC A0 (show HH≠0 by lia);have mA1:=az A0 (show 0<HH by lia);have mB0:=aC B0 (show HH≠0 by lia);have mB1:=az B0 (show 0<HH by lia);have da0:=cR a0 (show 0<=HH by lia);have db0:=cR (show 0<=B0 by lia) (show 0<=HH by lia);have da1:=b8 (a:=A0) HH a0;have db1:=b8 (a:=B0) HH J;generalize A0/HH=a at *;generalize B0/HH=b at *;refine⟨_,(jK (kh 2 nd (lL (jL jM (jL jM (jL jM (jL jM ke)))))) (jK (mP aJ (lI ox (pv 1) jM) (jK (kh 3 nd (jV ky (pv 0) (pv 1))) (jK (kh 4 nd (jV mw (pv 0) (jV ks (pv 3) (pv 1)))) (jK (kh 5 nd (lL (jL (ki j9 (pv 2) jM) (jL (ki j9 (pv 2) jM) (jL (jV mw (ki j9 (pv 2) jM) (jV ks (pv 3) (ki j9 (pv 2) jM))) (jL (jV mw (ki j9 (pv 2) jM) (jV ks (pv 3) (ki j9 (pv 2) jM))) ke)))))) (jK (kh 6 nd (kP (yE Z) jI T.b_max L2.HI (ko (kP px jI T.b_abs L2.tu (kL (ki j9 (pv 5) jM))) (kP px jI T.b_abs L2.tu (kL (ki j9 (pv 5) jM)))))) (jK (kY (PW.pt (oY (lI Dy (pv 4) (pv 6)) (rW (lI Dy (jV mw (pv 1) (pv 4)) (jV kM (pv 6) (kP (yE Z) jI T.b_max L2.HI (ko (kP px jI T.b_abs L2.tu (kL (ki j9 (pv 2) jM))) (kP px jI T.b_abs L2.tu (kL (ki j9 (pv 2) jM)))))))))) (jQ (j4 (pv 2))) kD) (jK (kh 2 nd (pv 5)) (jK (kh 0 nd (pv 1)) (jQ (kh 1 nd (pv 4))))))))))) (jQ (j4 (pv 2))))),?_⟩;refine⟨kd,fun t0 Kl=>?_⟩;have qZ:jU H (upd H t0 (.tup [V.int 1,V.int 0,V.int 0,V.int 1])):=jR (jU.refl _) Kl;have h0:upd H t0 (.tup [V.int 1,V.int 0,V.int 0,V.int 1]) t0=some (.tup [V.int 1,V.int 0,V.int 0,V.int 1]):=jO;generalize upd H t0 (.tup [V.int 1,V.int 0,V.int 0,V.int 1])=HA at qZ h0 ⊢;refine⟨fun m σ H'=>jU H H'/\∃(ta:Addr)(rest later x y z w:Int)(o1 o2 o3 o4:Option V),σ=[some (.int rest),some (.int later),some (.ref ta),o1,o2,o3,o4]/\H' ta=some (.tup [.int x,.int y,.int z,.int w])/\rest=x*a+y*b/\later=z*a+w*b/\0<=rest/\0<=later/\rest<W/\later<W/\Eb.Tn A0 B0 x y z w/\0<z*A0+w*B0/\((x=1/\y=0/\z=0/\w=1)\/HH<=z*A0+w*B0)/\(x.natAbs<W/\y.natAbs<W/\z.natAbs<W/\w.natAbs<W)/\m=later.toNat,
  ⟨_,qZ,t0,a,b,1,0,0,1,none,none,none,none,Z,h0,J,J,da0,db0,J,J,.one,J,.inl ⟨Z,Z,Z,Z⟩,⟨J,J,J,J⟩,Z⟩,?_⟩
 rintro m σ H' ⟨sm,ta,rest,later,x,y,z,w,o1,o2,o3,o4,rfl,hT,e1,e2,r0,l0,r1,l1,tn,L0,big,⟨fx,fy,fz,fw⟩,rfl⟩;have i0:me [V.int x,V.int y,V.int z,V.int w] 0=some (.int x):=Z;have i1:me [V.int x,V.int y,V.int z,V.int w] 1=some (.int y):=Z;have i2:me [V.int x,V.int y,V.int z,V.int w] 2=some (.int z):=Z;have i3:me [V.int x,V.int y,V.int z,V.int w] 3=some (.int w):=Z;have out:Q (.ref ta) H':=q ta H' x y z w sm hT tn (by rw[<-Sv];exact big) (by rw[<-hW];exact⟨fx,fy,fz,fw⟩);refine⟨_,Z,Z,_,Z,mZ (fun c=>?_) (fun c=>⟨_,Z,out⟩)⟩;have lp:0<later:=by have:=Mi c;lia
 obtain⟨qq,hq⟩:∃qq:Int,qq=rest/later:=⟨_,Z⟩;have q0:0<=qq:=by rw[hq];exact cR r0 J
 have qle:qq<=rest:=by rw[hq];exact b8 _ r0
 have md:=bP rest later;have mn0:=aC rest (show later≠0 by lia);have mn1:=az rest lp;rw[<-hq,aB] at md;have qW:qq.natAbs<2^N:=by rw[<-hW];lia
 have lW:later.natAbs<2^N:=by rw[<-hW];lia
 have zW:z.natAbs<2^N:=by rw[<-hW];exact fz
 have wW:w.natAbs<2^N:=by rw[<-hW];exact fw
 refine⟨_,fun _ _ h=>h,?_⟩;refine⟨_,Z,_,Z,_,_,Z,Z,tD lp lW N2,?_⟩;dsimp only;rw[<-hq]
 try dsimp only[kW,oh,oi]
 refine⟨_,Z,_,Z,_,Z,_,_,Z,Z,rT qW lW J,_,_,Z,Z,?_⟩;dsimp only;obtain⟨nr,ZT⟩:∃nr:Int,nr=rest-qq*later:=⟨_,Z⟩;rw[<-ZT];have nr0:0<=nr:=J;have nr1:nr<later:=J
 try dsimp only[kW,oh,oi]
 refine⟨_,Z,ta,_,_,_,Z,Z,kQ.of hT,i2,_,Z,ta,_,_,_,Z,Z,kQ.of hT,i3,_,Z,ta,_,_,_,Z,Z,kQ.of hT,i0,_,Z,_,Z,ta,_,_,_,Z,Z,kQ.of hT,i2,_,_,Z,Z,rT qW zW J,_,_,Z,Z,?_⟩;refine⟨_,Z,ta,_,_,_,Z,Z,kQ.of hT,i1,_,Z,_,Z,ta,_,_,_,Z,Z,kQ.of hT,i3,_,_,Z,Z,rT qW wW J,_,_,Z,Z,kd,fun fu hfu=>?_⟩;have IM:jU H' (upd H' fu (.tup [V.int z,V.int w,V.int (x-qq*z),V.int (y-qq*w)])):=jR (jU.refl _) hfu;have hF:upd H' fu (.tup [V.int z,V.int w,V.int (x-qq*z),V.int (y-qq*w)]) fu=some (.tup [V.int z,V.int w,V.int (x-qq*z),V.int (y-qq*w)]):=jO;generalize upd H' fu (.tup [V.int z,V.int w,V.int (x-qq*z),V.int (y-qq*w)])=HB at IM hF ⊢
 try dsimp only[kW,oh,oi]
 have X8:=IM _ _ hT;have QW:Q (.ref ta) HB:=q ta HB x y z w (sm.trans IM) X8 tn (by rw[<-Sv];exact big) (by rw[<-hW];exact⟨fx,fy,fz,fw⟩);have en:nr=(x-qq*z)*a+(y-qq*w)*b:=by rw[ZT,e1,e2];grind
 obtain⟨x',CY⟩:∃x':Int,x'=x-qq*z:=⟨_,Z⟩;obtain⟨y',CW⟩:∃y':Int,y'=y-qq*w:=⟨_,Z⟩;rw[<-CY,<-CW] at hF en;have j2:me [V.int z,V.int w,V.int x',V.int y'] 2=some (.int x'):=Z;have j3:me [V.int z,V.int w,V.int x',V.int y'] 3=some (.int y'):=Z;refine⟨_,Z,fu,_,_,_,Z,Z,kQ.of hF,j2,_,Z,_,Z,fu,_,_,_,Z,Z,kQ.of hF,j3,_,Z,_,_,Z,?_⟩
 try dsimp only[kW,oh,oi]
 obtain⟨d,hd⟩:∃d:Int,d=(if (if y'<0 then -y' else y') > (if x'<0 then -x' else x') then (if y'<0 then -y' else y') else (if x'<0 then -x' else x')):=⟨_,Z⟩;rw[<-hd];have dd:=G7 hd;refine⟨_,Z,_,Z,_,_,Z,Z,_,Z,mZ (fun c1=>⟨_,Z,QW⟩) (fun c1=>?_)⟩;have n1:=xk c1;refine⟨_,Z,_,Z,_,_,Z,Z,_,Z,_,Z,ta,_,_,_,Z,Z,kQ.of X8,i2,_,Z,_,Z,ta,_,_,_,Z,Z,kQ.of X8,i3,_,Z,_,_,Z,_,_,Z,Z,_,_,Z,Z,_,Z,mZ (fun c2=>⟨_,Z,QW⟩) (fun c2=>?_)⟩;have n2:=xk c2;obtain⟨d',N8⟩:∃d':Int,d'=(if (if w<0 then -w else w) > (if z<0 then -z else z) then (if w<0 then -w else w) else (if z<0 then -z else z)):=⟨_,Z⟩;rw[<-N8] at n2;have ZU:=G7 N8;have su:=Eb.sure H1 eA eB mA0 mA1 mB0 mB1 tn q0 L0 (d:=d) (d':=d') (by rw[<-CY];exact dd.1) (by rw[<-CW];exact dd.2) ZU.1 ZU.2 (by rw[<-CY,<-CW,<-en];lia) (by rw[<-CY,<-CW,<-en,<-e2];lia);rw[<-CY,<-CW] at su;refine⟨_,Z,?_⟩;refine⟨_,Z,?_⟩;refine⟨_,Z,?_⟩;exact⟨nr.toNat,J,sm.trans IM,fu,later,nr,z,w,x',y',_,_,_,_,Z,hF,e2,en,l0,nr0,l1,J,su.1,J,.inr su.2,⟨fz,fw,J,J⟩,Z⟩
theorem GH {B bits:Int}(b0:0<=B)(h0:0<=bits)(h:tQ B > bits):2^bits.toNat<=B:=by
 rcases Int.lt_or_le B (2^bits.toNat) with c | c
 .exfalso;have e:((2^bits.toNat:Nat):Int)=2^bits.toNat:=by rw[dQ];rfl
  have:B.natAbs<2^bits.toNat:=J;have:=PyProof.Rows.intBits_le this;unfold tQ at h;lia
 .exact c
theorem J5 {A B x y z w:Int}(h:Eb.Tn A B x y z w)(ne:¬(x=1/\y=0/\z=0/\w=1)):z*A+w*B<x*A+y*B:=by
 cases h with
 | one=>exact absurd ⟨Z,Z,Z,Z⟩ ne
 | step q h _ _ lt _=>exact lt
inductive JS (vs:List V)(H:Hp)(Q:VK)(E_:XK):Prop
 | mk (r:Addr)(A B bits:Int)(N:Nat)(_:vs=[.ref r,.int bits])(_:H r=some (.tup [.int A,.int B]))(_:0<=A)(_:0<B)(_:0<=bits)(_:tQ B > bits)(_:1<=N)(_:N<=9000)(_:A<2^N)(_:B<2^N)(_:∀t H' (x y z w:Int),jU H H'->H' t=some (.tup [.int x,.int y,.int z,.int w])->Eb.Tn A B x y z w->z*A+w*B<B->2^bits.toNat<=x*A+y*B->(x.natAbs<2^N/\y.natAbs<2^N/\z.natAbs<2^N/\w.natAbs<2^N)->Q (.ref t) H')
theorem zY (T:Txt K mg CF tL tF tM):Df P w K mg base 2 "next_turn" ["rests","bits"] JS:=by
 refine kR T.d_next_turn zF fun f cdv A outer s H vs Q E hr nd h=>?_;obtain⟨r,A0,B0,bits,N,rfl,hR,a0,b0,bi0,big,N1,N2,fA,fB,q⟩:=h;have i0:me [V.int A0,V.int B0] 0=some (.int A0):=Z;have i1:me [V.int A0,V.int B0] 1=some (.int B0):=Z;have bge:=GH J bi0 big;have eN:((2^N:Nat):Int)=2^N:=by rw[dQ];rfl
 have N2':2<=2^N:=bY (n:=2) O N1;have single:∀H1:Hp,jU H H1->∀t,H1 t=none->Q (.ref t) (upd H1 t (.tup [V.int 0,V.int 1,V.int 1,V.int (-(A0/B0))])):=fun H1 sm t ht=>by
  have q0:0<=A0/B0:=cR a0 J;have q1:A0/B0<=A0:=b8 _ a0;have md:=bP A0 B0;have m0:=aC A0 (show B0≠0 by lia);have m1:=az A0 b0;have e3:1*A0 + -(A0/B0)*B0=A0%B0:=by rw[iW,aB (A0/B0)];lia
  have tn:Eb.Tn A0 B0 0 1 1 (-(A0/B0)):=by
   have:=Eb.Tn.step (A:=A0) (B:=B0) (A0/B0) .one J (by rw[show (1-A0/B0*0)*A0+(0-A0/B0*1)*B0=1*A0 + -(A0/B0)*B0 by grind,e3];exact m0) (by rw[show (1-A0/B0*0)*A0+(0-A0/B0*1)*B0=1*A0 + -(A0/B0)*B0 by grind,e3];lia) q0;rwa [show 1-A0/B0*0=1 by lia,show 0-A0/B0*1=-(A0/B0) by lia] at this
  exact q t _ 0 1 1 (-(A0/B0)) (jR sm ht) jO tn (by rw[e3];exact m1) J ⟨J,J,J,J⟩
 refine⟨_,(jK (kh 2 nd (kP (yD Z) jI T.b_min L2.Ft (ko (wq eO dW dX ua (ki j9 (pv 0) jM)) (wq eO dW dX ua (ki j9 (pv 0) jM))))) (jK (kY (lI t7 (pv 2) (jV kM (pv 1) (vO (v:=.int 128) jI T.g_LEAD_BITS ⟨_,Z⟩))) (jK (kh 3 nd (jV mw (pv 2) (vO (v:=.int 128) jI T.g_LEAD_BITS ⟨_,Z⟩))) (jK (kh 4 nd (kf (yX T) hr (ko (jV GG (ki j9 (pv 0) jM) (pv 3)) (jV GG (ki j9 (pv 0) jM) (pv 3))))) (jQ (kY (lI (Fw (Ja hr)) (pv 4) (lL (jL jM (jL jM (jL jM (jL jM ke)))))) (jQ (j4 (pv 4))) kD)))) kD) (jQ (j4 (lL (jL jM (jL jM (jL jM (jL (rM pf (jV ky (ki j9 (pv 0) jM) (ki j9 (pv 0) jM))) ke))))))))),?_⟩;refine⟨_,Z,r,_,_,_,Z,Z,kQ.of hR,i0,Z,_,Z,Z,_,Z,r,_,_,_,Z,Z,kQ.of hR,i1,Z,_,Z,Z,_,_,Z,?_⟩;obtain⟨len,hlen⟩:∃len:Int,len=(if tQ B0<tQ A0 then tQ B0 else tQ A0):=⟨_,Z⟩;rw[<-hlen];refine⟨_,Z,_,Z,_,_,Z,Z,_,_,Z,Z,_,Z,?_⟩;have last:∀(σ:St)(H1:Hp),σ[0]?=some (some (.ref r))->jU H H1->iu:=fun _ _ _ _=>trivial;refine mZ (fun c=>?_) (fun _=>?_)
 .have c':=dec c;refine⟨_,Z,_,_,Z,Z,?_⟩;dsimp only;obtain⟨bh,hbh⟩:∃bh:Int,bh=len-128:=⟨_,Z⟩;rw[<-hbh]
  try dsimp only[kW,oh,oi]
  refine⟨_,Z,r,_,_,_,Z,Z,kQ.of hR,i0,_,Z,_,_,Z,Z,(show 0<=bh by lia),_,Z,r,_,_,_,Z,Z,kQ.of hR,i1,_,Z,_,_,Z,Z,(show 0<=bh by lia),A0,B0,bh.toNat,N,Z,a0,b0,N1,N2,fA,fB,fun ta H1 x y z w lU h1 tn ab Br=>?_⟩
  try dsimp only[kW,oh,oi]
  refine⟨_,Z,kd,fun tb Sw=>UH ((j5 (j8 h1 Sw)).trans h1) jO ⟨_,Z,mZ (fun c2=>?_) (fun c2=>?_)⟩⟩
  .have ne:¬(x=1/\y=0/\z=0/\w=1):=fun zz=>by rw[cm zz] at c2;cases c2
   have great:=ab.resolve_left ne;have ds:=J5 tn ne;have pw:(2:Int)^bits.toNat<=2^bh.toNat:=by
    have:=bY (n:=2) O (show bits.toNat<=bh.toNat by lia);have e1:((2^bits.toNat:Nat):Int)=2^bits.toNat:=by rw[dQ];rfl
    have e2:((2^bh.toNat:Nat):Int)=2^bh.toNat:=by rw[dQ];rfl
    lia
   exact⟨_,Z,q ta _ x y z w (jR lU Sw) ((j5 (j8 h1 Sw)).trans h1) tn (tn.lt ne) J Br⟩
  .have X9:=jR (o:=.tup [V.int 1,V.int 0,V.int 0,V.int 1]) lU Sw;refine⟨_,Z,r,_,_,_,Z,Z,kQ.of (X9 _ _ hR),i0,_,Z,r,_,_,_,Z,Z,kQ.of (X9 _ _ hR),i1,_,_,Z,Z,tD b0 J N2,_,Z,kd,fun t ht=>single _ X9 t ht⟩
 .exact⟨_,Z,r,_,_,_,Z,Z,kQ.of hR,i0,_,Z,r,_,_,_,Z,Z,kQ.of hR,i1,_,_,Z,Z,tD b0 J N2,_,Z,kd,fun t ht=>single _ (jU.refl _) t ht⟩
theorem n9 (N:Nat):((2^N:Nat):Int)=2^N:=by rw[dQ];rfl
inductive OD (vs:List V)(H:Hp)(Q:VK)(E_:XK):Prop
 | mk (one other bits:Int)(N:Nat)(_:vs=[.int one,.int other,.int bits])(_:1<=one)(_:0<=other)(_:0<=bits)(_:1<=N)(_:N<=9000)(_:one<2^N)(_:other<2^N)(_:∀t H' (r0 c0 r1 c1:Int),jU H H'->H' t=some (.tup [.int r0,.int c0,.int r1,.int c1])->Eb.St one other r0 r1 c0 c1->1<=r0->tQ r1<=bits->(r0=one\/2^bits.toNat<=r0)->(c0.natAbs:Int)<=one->Q (.ref t) H')
theorem uB (T:Txt K mg CF tL tF tM):Df P w K mg base 3 "euclid" ["one","other","bits"] OD:=by
 refine kR T.d_euclid EH fun f cdv A outer s H vs Q E hr nd h=>?_;obtain⟨one,other,bits,N,rfl,o1,t0,b0,N1,N2,fo,ft,q⟩:=h;have eN:=n9 N;refine⟨_,(jK (kh 3 nd (lL (ko (pv 0) (pv 1)))) (jK (kh 4 nd (lL (ko jM jM))) (jK (mP aJ (lI t7 (wq eO dW dX ua (ki j9 (pv 3) jM)) (pv 2)) (jK (kh 5 nd (kf (zY T) hr (ko (pv 3) (pv 2)))) (jK (kh 3 nd (kf (tP T) hr (ko (pv 3) (pv 5)))) (jQ (kh 4 nd (kf (tP T) hr (ko (pv 4) (pv 5)))))))) (jQ (j4 (lL (jL (ki j9 (pv 3) jM) (jL (ki j9 (pv 4) jM) (jL (ki j9 (pv 3) jM) (jL (ki j9 (pv 4) jM) ke)))))))))),?_⟩;refine⟨_,Z,_,Z,jP,fun ra hra=>?_⟩;refine⟨jP,fun ca Sx=>?_⟩;have qZ:jU H (upd (upd H ra (.tup [.int one,.int other])) ca (.tup [.int 0,.int 1])):=jR (jR (jU.refl _) hra) Sx;have yc:upd (upd H ra (.tup [.int one,.int other])) ca (.tup [.int 0,.int 1]) ra=some (.tup [.int one,.int other]):=(j5 (j8 jO Sx)).trans jO;have ZV:upd (upd H ra (.tup [.int one,.int other])) ca (.tup [.int 0,.int 1]) ca=some (.tup [.int 0,.int 1]):=jO;generalize upd (upd H ra (.tup [.int one,.int other])) ca (.tup [.int 0,.int 1])=H0 at qZ yc ZV ⊢;refine⟨fun m σ H'=>jU H H'/\∃(ra ca:Addr)(r c lr lc:Int)(tv:Option V),σ=[some (.int one),some (.int other),some (.int bits),some (.ref ra),some (.ref ca),tv]/\H' ra=some (.tup [.int r,.int lr])/\H' ca=some (.tup [.int c,.int lc])/\1<=r/\r<2^N/\lr<2^N/\Eb.St one other r lr c lc/\(r=one\/2^bits.toNat<=r)/\(c.natAbs:Int)<=one/\m=lr.toNat,
  ⟨_,qZ,ra,ca,one,0,other,1,none,Z,yc,ZV,o1,fo,ft,.start J t0,.inl Z,J,Z⟩,?_⟩
 rintro m σ H' ⟨sm,ra,ca,r,c,lr,lc,tv,rfl,hR,hC,r1,rN,lN,st,big,cb,rfl⟩;have i0:me [V.int r,V.int lr] 0=some (.int r):=Z;have i1:me [V.int r,V.int lr] 1=some (.int lr):=Z;have c0:me [V.int c,V.int lc] 0=some (.int c):=Z;have c1:me [V.int c,V.int lc] 1=some (.int lc):=Z;have l0:=st.p1;have lcb:=st.c1 J r1;refine⟨_,Z,ra,_,_,_,Z,Z,kQ.of hR,i1,Z,_,Z,Z,_,Z,_,_,Z,Z,_,Z,?_⟩;refine mZ (fun c'=>?_) (fun c'=>?_)
 .have gt:=dec c';have ne:=JY (show tQ lr > 0 by lia);refine⟨_,fun _ _ h=>h,?_⟩;refine⟨_,Z,_,Z,ra,r,lr,bits,N,Z,hR,J,J,b0,gt,N1,N2,rN,lN,fun ta H1 x y z w lU h1 tn lt Yb Br=>?_⟩;have ni:¬(x=1/\y=0/\z=0/\w=1):=fun ⟨a,b,d,e⟩=>by rw[d,e] at lt;lia
  have cc:=tn.c0 st J r1 ni;have Lj:=tn.st st;refine⟨_,Z,_,Z,ra,ta,r,lr,x,y,z,w,N,Z,lU _ _ hR,h1,N2,⟨J,J,Br.1,Br.2.1,Br.2.2.1,Br.2.2.2⟩,fun rb hrb=>?_⟩;have lQ:jU H1 (upd H1 rb (.tup [.int (x*r+y*lr),.int (z*r+w*lr)])):=jR (jU.refl _) hrb;have h2:upd H1 rb (.tup [.int (x*r+y*lr),.int (z*r+w*lr)]) rb=some (.tup [.int (x*r+y*lr),.int (z*r+w*lr)]):=jO;generalize upd H1 rb (.tup [.int (x*r+y*lr),.int (z*r+w*lr)])=H2 at lQ h2 ⊢;refine⟨_,Z,_,Z,ca,ta,c,lc,x,y,z,w,N,Z,lQ _ _ (lU _ _ hC),lQ _ _ h1,N2,⟨J,J,Br.1,Br.2.1,Br.2.2.1,Br.2.2.2⟩,fun cb' ZW=>?_⟩;exact⟨(z*r+w*lr).toNat,by have:=Lj.p1;lia,jR ((sm.trans lU).trans lQ) ZW,rb,cb',_,_,_,_,_,Z,jR (jU.refl _) ZW _ _ h2,jO,cc.2.1,J,J,Lj,.inr Yb,cc.1,Z⟩
 .have le:=xk c';refine⟨_,Z,ra,_,_,_,Z,Z,kQ.of hR,i0,_,Z,ca,_,_,_,Z,Z,kQ.of hC,c0,_,Z,ra,_,_,_,Z,Z,kQ.of hR,i1,_,Z,ca,_,_,_,Z,Z,kQ.of hC,c1,kd,fun t ht=>?_⟩;exact q t _ r c lr lc (jR sm ht) jO st r1 J big cb
inductive IZ (vs:List V)(H:Hp)(Q:VK)(E_:XK):Prop
 | mk (st n:Int)(N:Nat)(_:vs=[.int st,.int n])(_:1<=n)(_:1<=N)(_:N<=9000)(_:n<2^N)(_:∀d:Int,1<=d->d∣n->d∣st->d=1)(_:∀(u:Int) H',1<=u->u<=n->n∣st*u-1->jU H H'->Q (.int u) H')
theorem zM (T:Txt K mg CF tL tF tM):Df P w K mg base 4 "back" ["step","n"] IZ:=by
 refine kR T.d_back Jf fun f cdv A outer s H vs Q E hr nd h=>?_;obtain⟨st,n,N,rfl,n1,N1,N2,fn,As,q⟩:=h;have s0:=aC st (show n≠0 by lia);have s1:=az st (show 0<n by lia);refine⟨_,(jK (kh 2 nd (kf (uB T) hr (jL (pv 1) (jL (jV kJ (pv 0) (pv 1)) (jL jM ke))))) (jK (kY (lI ox (ki j9 (pv 2) jM) jM) (jQ xg) kD) (jQ (j4 (jV kM (jV kJ (jV mw (ki j9 (pv 2) jM) jM) (pv 1)) jM))))),?_⟩;refine⟨_,Z,_,Z,_,Z,_,_,Z,Z,(show 0<n by lia),n,st%n,0,N,Z,n1,s0,dY 0,N1,N2,fn,J,fun t H1 r0 c0 r1 c1 lU h1 S p0 bz _ _=>?_⟩;have i0:me [V.int r0,V.int c0,V.int r1,V.int c1] 0=some (.int r0):=Z;have i1:me [V.int r0,V.int c0,V.int r1,V.int c1] 1=some (.int c0):=Z;have z:r1=0:=A2 J;have dv:=S.dvd z;have eg:r0=1:=As r0 p0 dv.1 (by
  have a:n∣st%n-st:=Lt.lG st n;have b:=bf dv.2 (bF dv.1 a);rwa [show st%n-(st%n-st)=st by lia] at b)
 refine⟨_,Z,t,_,_,_,Z,Z,kQ.of h1,i0,Z,_,Z,yw (cQ V.int eg) ?_⟩;rw[eg,z] at S;have o:=S.back n1;refine⟨_,Z,t,_,_,_,Z,Z,kQ.of h1,i1,_,_,Z,Z,_,Z,_,_,Z,Z,(show 0<n by lia),_,_,Z,Z,?_⟩;exact q _ _ o.1 o.2.1 o.2.2 lU
def Bd (N:Nat)(l:List Int):Prop:=∀x∈l,x.natAbs<2^N
theorem rQ {a b:Int}{N M:Nat}(ha:a.natAbs<2^N)(hb:b.natAbs<2^M)(h:N<=1000000)(h':M<=1000000):IntMulOk a b:=rT ha hb J
inductive Nm (vs:List V)(H:Hp)(Q:VK)(E_:XK):Prop
 | mk (r s:Addr)(row other:List Int)(many m:Int)(N M:Nat)(_:vs=[.ref r,.int many,.ref s,.int m])(_:H r=some (.lst (row.map V.int)))(_:H s=some (.lst (other.map V.int)))(_:row.length=other.length)(_:row.length<=20000)(_:0<m)(_:many.natAbs<2^N)(_:Bd M other)(_:N<=1000000)(_:M<=1000000)(_:∀t H',jU H H'->H' t=some (.lst ((Rx.tN row many other m).map V.int))->Q (.ref t) H')
theorem r9 (T:Txt K mg CF tL tF tM):Df P w K mg base 1 "lessened" ["row","many","other","modulus"] Nm:=by
 refine kR T.d_lessened Az fun f cdv A outer s H vs Q E hr nd h=>?_;obtain⟨r,s',row,other,many,m,N,M,rfl,h1,h2,l,lz,m0,bm,bo,N1,M1,q⟩:=h;refine⟨_,(jK (kY (lI nS (pv 1) jM) (jQ (j4 (pv 0))) kD) (jQ (j4 (nh [("modulus",3),("many",1)] ["number","less"] (m7 jI T.b_zip (ko (pv 0) (pv 2))) (fun C s H fp=>⟨(sJ 2 3),kq,(jV kJ (jV mw (pv 2) (jV ks (pv 1) (pv 3))) (pv 0))⟩))))),?_⟩;refine⟨_,Z,Z,_,Z,?_⟩;refine mZ (fun c=>?_) (fun c=>?_)
 .have z:=uC c;exact⟨_,Z,q r H (jU.refl _) (by unfold Rx.tN;rw[if_pos z];exact h1)⟩
 .have z:=wF c;refine⟨_,Z,_,Z,r,s',Z,⟨_,j6.of h1⟩,⟨_,j6.of h2⟩,?_⟩;refine n5 (K:=K) (xs:=row.map V.int) (ys:=other.map V.int) (List.zipWith (fun x y=>(x-many*y)%m) row other) (by rw[aa,aa,l]) (by rw[dS,aa,<-l,fS]) (by rw[aa];exact lz) (j6.of h1) (j6.of h2) ?_ ?_
  .intro i x y H2 p hx hy sm hp R k;obtain⟨u,rfl,hu⟩:=int_at hx;obtain⟨v,rfl,hv⟩:=int_at hy;refine⟨p,_,Z,kQ.of jO,Z,_,_,Z,_,_,Z,Z,?_⟩;refine⟨_,Z,_,Z,_,Z,_,_,Z,Z,rQ bm (bo v (ak hv)) N1 M1,_,_,Z,Z,_,Z,_,_,Z,Z,m0,?_⟩;exact k _ _ (jR (jU.refl _) hp) (by rw[bU,hu,hv])
  .intro D H2 sm _ hD;refine q D H2 sm ?_;unfold Rx.tN;rw[ao z];exact hD
inductive LG (vs:List V)(H:Hp)(Q:VK)(E_:XK):Prop
 | mk (r:Addr)(row:List Int)(many m:Int)(N M:Nat)(_:vs=[.ref r,.int many,.int m])(_:H r=some (.lst (row.map V.int)))(_:row.length<=20000)(_:0<m)(_:many.natAbs<2^N)(_:Bd M row)(_:N<=1000000)(_:M<=1000000)(_:∀t H',jU H H'->H' t=some (.lst ((row.map fun x=>x*many%m).map V.int))->Q (.ref t) H')
theorem sw (T:Txt K mg CF tL tF tM):Df P w K mg base 1 "taken_times" ["row","many","modulus"] LG:=by
 refine kR T.d_taken_times wI fun f cdv A outer s H vs Q E hr nd h=>?_;obtain⟨r,row,many,m,N,M,rfl,h1,lz,m0,bm,bo,N1,M1,q⟩:=h;refine⟨_,(jQ (j4 (nh [("modulus",2),("many",1)] ["number"] (kG (pv 0)) (fun C s H fp=>⟨(nT 2),kq,(jV kJ (jV ks (pv 2) (pv 1)) (pv 0))⟩)))),?_⟩;refine⟨_,Z,r,Z,⟨_,j6.of h1⟩,?_⟩;refine lJ (K:=K) (xs:=row.map V.int) (row.map fun x=>x*many%m) zgX (by rw[aa];exact lz) (j6.of h1) ?_ fun D H2 sm _ hD=>q D H2 sm hD;intro i x H2 hx sm R k;obtain⟨u,rfl,hu⟩:=int_at hx;refine⟨_,Z,_,Z,_,_,Z,Z,rQ (bo u (ak hu)) bm M1 N1,_,Z,_,_,Z,Z,m0,?_⟩;exact k _ _ (jU.refl _) (by rw[af,hu];rfl)
def Zl (n m:Int):Int:=if 2*(n%m)<=m then n%m else n%m-m
inductive P2 (vs:List V)(H:Hp)(Q:VK)(E_:XK):Prop
 | mk (n m:Int)(_:vs=[.int n,.int m])(_:0<m)(_:Q (.int (Zl n m)) H)
theorem wb (T:Txt K mg CF tL tF tM):Df P w K mg base 1 "centred" ["number","scale"] P2:=by
 refine kR T.d_centred Cq fun f cdv A outer s H vs Q E hr nd h=>?_;obtain⟨n,m,rfl,m0,q⟩:=h;refine⟨_,(jK (kh 2 nd (jV kJ (pv 0) (pv 1))) (jQ (j4 (Gq (lI Dy (jV ks jM (pv 2)) (pv 1)) (pv 2) (jV mw (pv 2) (pv 1)))))),?_⟩;refine⟨_,Z,_,Z,_,_,Z,Z,m0,?_⟩;refine⟨_,Z,_,_,Z,Z,mJ O O,_,Z,_,_,Z,Z,_,Z,?_⟩;unfold Zl at q;refine mZ (fun c=>?_) (fun c=>?_)
 .rw[aD (dec c)] at q;exact⟨_,Z,q⟩
 .rw[ao (xk c)] at q;exact⟨_,Z,_,Z,_,_,Z,Z,q⟩
inductive LM (vs:List V)(H:Hp)(Q:VK)(E_:XK):Prop
 | mk (r:Addr)(row:List Int)(_:vs=[.ref r])(_:H r=some (.lst (row.map V.int)))(_:row.length<=20000)(_:∀(c:Nat) H',jU H H'->c<row.length->Lt.g row c≠0->Q (.int c) H')(_:∀H',jU H H'->(∀c,c<row.length->Lt.g row c=0)->Q .non H')
theorem re (T:Txt K mg CF tL tF tM):Df P w K mg base 1 "first_filled" ["row"] LM:=by
 refine kR T.d_first_filled vq fun f cdv A outer s H vs Q E hr nd h=>?_;obtain⟨r,row,rfl,h1,lz,q1,q2⟩:=h;refine⟨_,(jK (kZ aJ Z (oQ jI T.b_enumerate (kL (pv 0))) (mv Z (kg (lX 1 nd) (kg (lX 2 nd) lO))) (jQ (kY (lI ox (pv 2) jM) (jQ (j4 (pv 1))) kD))) (jQ (j4 rH))),?_⟩;refine⟨_,Z,r,Z,⟨_,j6.of h1⟩,pH (K:=K) (xs:=row.map V.int) (fun i σ H2=>jU H H2/\(∃o1 o2:Option V,σ=[some (.ref r),o1,o2])/\∀c,c<i->Lt.g row c=0) ⟨jU.refl _,⟨none,none,Z⟩,fun c hc=>absurd hc (bI _)⟩ (fun i σ H2 _ z=>z.1.seq (j6.of h1)) ?_ ?_⟩
 .rintro i x σ H2 p hx ⟨sm,⟨o1,o2,rfl⟩,z⟩ hp;obtain⟨v,rfl,hv⟩:=int_at hx;have gv:=Rx.lB hv;have il:i<row.length:=(aF.mp hv).1;refine⟨p,_,Z,kQ.of jO,Z,_,_,Z,_,_,Z,Z,?_⟩;refine⟨_,Z,Z,_,Z,mZ (fun c=>?_) (fun c=>?_)⟩
  .exact⟨_,Z,q1 i _ (jR sm hp) il (by rw[gv];exact Mi c)⟩
  .exact⟨jR sm hp,⟨_,_,Z⟩,fun c' xt=>by
    rcases Nat.lt_succ_iff_lt_or_eq.mp xt with e | e
    .exact z c' e
    .rw[e,gv];exact Ic c⟩
 .rintro σ H2 ⟨sm,_,z⟩;rw[aa] at z;exact q2 H2 sm z
inductive OI (K:PySem.W.Frag)(vs:List V)(H:Hp)(Q:VK)(E_:XK):Prop
 | mk (r s:Addr)(a b:List Int)(N M:Nat)(_:vs=[.ref r,.ref s])(_:j6 K H r (a.map V.int))(_:j6 K H s (b.map V.int))(_:a.length=b.length)(_:a.length<=20000)(_:Bd N a)(_:Bd M b)(_:N<=1000000)(_:M<=1000000)(_:∀H',jU H H'->Q (.int (Rx.dot a b)) H')
theorem oZ (T:Txt K mg CF tL tF tM):Df P w K mg base 2 "weighed" ["load","weights"] (OI K):=by
 refine kR T.d_weighed Cd fun f cdv A outer s H vs Q E hr nd h=>?_;obtain⟨r,s',a,b,N,M,rfl,ha,hb,l,lz,ba,bb,N1,M1,q⟩:=h;refine⟨_,(jK (mR (kf (qK T) hr (ko (pv 0) (pv 1)))) (jQ (j4 (kP (yC Z) jI T.b_sum L2.G6 (kL (nh [] ["weight","number"] (m7 jI T.b_zip (ko (pv 0) (pv 1))) (fun C s H fp=>⟨(sJ 0 1),kq,(jV ks (pv 0) (pv 1))⟩))))))),?_⟩;refine⟨_,Z,_,Z,r,s',_,_,Z,ha,hb,by rw[aa,aa,l],?_⟩;refine⟨_,Z,_,Z,r,s',Z,⟨_,ha⟩,⟨_,hb⟩,?_⟩;refine n5 (K:=K) (xs:=a.map V.int) (ys:=b.map V.int) (List.zipWith (· * ·) a b) (by rw[aa,aa,l]) (by rw[dS,aa,<-l,fS]) (by rw[aa];exact lz) ha hb ?_ ?_
 .intro i x y H2 p hx hy sm hp R k;obtain⟨u,rfl,hu⟩:=int_at hx;obtain⟨v,rfl,hv⟩:=int_at hy;refine⟨p,_,Z,kQ.of jO,Z,_,_,Z,_,_,Z,Z,?_⟩;refine⟨_,Z,_,Z,_,_,Z,Z,rQ (ba u (ak hu)) (bb v (ak hv)) N1 M1,?_⟩;exact k _ _ (jR (jU.refl _) hp) (by rw[bU,hu,hv])
 .intro D H2 sm _ hD;exact⟨D,_,Z,j6.of hD,q H2 sm⟩
abbrev ni (ps:List Nat):List Int:=ps.map fun (p:Nat)=>(p:Int)
theorem FM {ps:List Nat}{i:Nat}{x:V}(h:((ni ps).map V.int)[i]?=some x):∃p:Nat,x=.int p/\ps[i]?=some p:=by
 obtain⟨v,rfl,hv⟩:=int_at h;rw[af] at hv;cases e:ps[i]? with
 | none=>rw[e] at hv;cases hv
 | some p=>rw[e] at hv;cases hv;exact⟨p,Z,Z⟩
def pk (xs:List V)(ps:List Nat):List V:=ps.map fun p=>xs.getD p .non
inductive LN (K:PySem.W.Frag)(vs:List V)(H:Hp)(Q:VK)(E_:XK):Prop
 | mk (r s:Addr)(xs:List V)(ps:List Nat)(_:vs=[.ref r,.ref s])(_:j6 K H r xs)(_:H s=some (.lst ((ni ps).map V.int)))(_:∀p∈ps,p<xs.length)(_:ps.length<=20000)(_:∀t H',jU H H'->H t=none->H' t=some (.lst (pk xs ps))->Q (.ref t) H')
theorem u7 (T:Txt K mg CF tL tF tM):Df P w K mg base 1 "picked" ["things","places"] (LN K):=by
 refine kR T.d_picked Eu fun f cdv A outer s H vs Q E hr nd h=>?_;obtain⟨r,s',xs,ps,rfl,h1,h2,lt,lz,q⟩:=h;refine⟨_,(jQ (j4 (nh [("things",0)] ["place"] (kG (pv 1)) (fun C s H fp=>⟨(nT 1),kq,(ki (oC (K:=K) Z) (pv 0) (pv 1))⟩)))),?_⟩;refine⟨_,Z,s',Z,⟨_,j6.of h2⟩,?_⟩;refine FV (K:=K) (xs:=(ni ps).map V.int) (pk xs ps) (by unfold pk;rw[List.length_map,List.length_map,List.length_map]) (by rw[List.length_map,List.length_map];exact lz) (j6.of h2) ?_ fun D H2 sm n hD=>q D H2 sm n hD;intro i x H2 hx sm R k;obtain⟨p,rfl,hp⟩:=FM hx;have pl:=lt p (ak hp);have e:xs[p]?=some (xs.getD p .non):=by rw[ah,ax pl];rfl
 exact⟨_,Z,_,Z,r,_,_,_,Z,Z,sm.seq h1,lP e,k _ _ (jU.refl _) (by unfold pk;rw[List.getElem?_map,hp];rfl)⟩
theorem FP (a:List Int)(ps:List Nat)(h:∀p∈ps,p<a.length):pk (a.map V.int) ps=(ps.map fun p=>Lt.g a p).map V.int:=by
 unfold pk;rw[iK];refine List.map_congr_left fun p hp=>?_;rw[ah,af,Rx.lD (h p hp)];rfl
inductive Pw (K:PySem.W.Frag)(vs:List V)(H:Hp)(Q:VK)(E_:XK):Prop
 | mk (r:Addr)(rows:List (List Int))(c:Nat)(_:vs=[.ref r,.int c])(_:lH H r rows)(_:∀row∈rows,c<row.length)(_:rows.length<=20000)(_:∀t H',jU H H'->H t=none->H' t=some (.lst ((rows.map fun row=>Lt.g row c).map V.int))->Q (.ref t) H')
theorem uq (T:Txt K mg CF tL tF tM):Df P w K mg base 1 "column_of" ["rows","column"] (Pw K):=by
 refine kR T.d_column_of yO fun f cdv A outer s H vs Q E hr nd h=>?_;obtain⟨r,rows,c,rfl,⟨as,h1,pa⟩,lt,lz,q⟩:=h;have la:=j7 pa;refine⟨_,(jQ (j4 (nh [("column",1)] ["row"] (kG (pv 0)) (fun C s H fp=>⟨(nT 1),kq,(ki (oC (K:=K) Z) (pv 1) (pv 0))⟩)))),?_⟩;refine⟨_,Z,r,Z,⟨_,j6.of h1⟩,?_⟩;refine lJ (K:=K) (xs:=as.map V.ref) (rows.map fun row=>Lt.g row c) (by rw[aa,aa,la]) (by rw[aa,la];exact lz) (j6.of h1) ?_ fun D H2 sm n hD=>q D H2 sm n hD;intro i x H2 hx sm R k;obtain⟨a,row,rfl,ha,lE,hh⟩:=mK pa hx;have cl:=lt row (ak lE);exact⟨_,Z,_,Z,a,_,_,_,Z,Z,j6.of (sm _ _ hh),lP (by rw[af,Rx.lD cl];rfl),k _ _ (jU.refl _) (by rw[af,lE];rfl)⟩
inductive LZ (K:PySem.W.Frag)(vs:List V)(H:Hp)(Q:VK)(E_:XK):Prop
 | mk (r:Addr)(rows:List (List Int))(n:Nat)(_:vs=[.ref r])(_:lH H r rows)(_:rows.length=n)(_:∀row∈rows,row.length=n)(_:n<=20000)(_:∀t H',jU H H'->H t=none->lH H' t (Rx.xH n rows)->Q (.ref t) H')
theorem v4 (T:Txt K mg CF tL tF tM):Df P w K mg base 2 "flipped" ["rows"] (LZ K):=by
 refine kR T.d_flipped BL fun f cdv A outer s H vs Q E hr nd h=>?_;obtain⟨r,rows,n,rfl,hR,lr,lt,lz,q⟩:=h;obtain⟨as,h1,pa⟩:=id hR;have la:=j7 pa;refine⟨_,(jQ (j4 (nh [("rows",0)] ["column"] (mC jI T.b_range (kL (nQ T.b_len (pv 0)))) (fun C s H fp=>⟨(nT 1),kq,(kf (uq T) hr (ko (pv 0) (pv 1)))⟩)))),?_⟩;refine⟨_,Z,r,_,Z,.inl (j6.of h1),n,by rw[aa,la,lr],J,J,?_⟩;refine Au (n:=n) (Rx.xH n rows) (by unfold Rx.xH;rw[List.length_map,List.length_range]) lz ?_ fun D H2 sm n hD=>q D H2 sm n hD;intro i H2 hi sm R k;exact⟨_,Z,_,Z,r,rows,i,Z,hR.same sm,fun row lE=>by rw[lt row lE];exact hi,J,fun t H3 k9 _ h3=>k H3 t _ k9 (by unfold Rx.xH;rw[List.getElem?_map,List.getElem?_range hi];rfl) h3⟩
inductive PQ (K:PySem.W.Frag)(vs:List V)(H:Hp)(Q:VK)(E_:XK):Prop
 | mk (n:Nat)(r s:Addr)(ps:List Nat)(xs:List Int)(_:vs=[.int n,.ref r,.ref s])(_:H r=some (.lst ((ni ps).map V.int)))(_:H s=some (.lst (xs.map V.int)))(_:ps.length=xs.length)(_:∀p∈ps,p<n)(_:n<=20000)(_:∀t H',jU H H'->H t=none->H' t=some (.lst ((Rx.uT n ps xs).map V.int))->Q (.ref t) H')
theorem yh (T:Txt K mg CF tL tF tM):Df P w K mg base 1 "spread" ["size","places","numbers"] (PQ K):=by
 refine kR T.d_spread E8 fun f cdv A outer s H vs Q E hr nd h=>?_;obtain⟨n,r,s',ps,xs,rfl,h1,h2,l,lt,lz,q⟩:=h;refine⟨_,(jK (kh 3 nd (jV p9 (lR (kL jM)) (pv 0))) (jK (kZ aJ Z (m7 jI T.b_zip (ko (pv 1) (pv 2))) (mv Z (kg (lX 4 nd) (kg (lX 5 nd) lO))) (jQ (oM (pv 5) (oH (pv 3) (pv 4) set_list)))) (jQ (j4 (pv 3))))),?_⟩;refine⟨jS,fun lo yK=>⟨_,Z,lo,_,_,Z,Z,jO,J,J,zgW,fun p hp=>?_⟩⟩;rw[rep0];have Fp:jU H (upd (upd H lo (.lst [V.int 0])) p (.lst ((List.replicate n (0:Int)).map V.int))):=jR (jR (jU.refl _) yK) hp;have pn:H p=none:=(jR (jU.refl _) yK).free hp;have hP:upd (upd H lo (.lst [V.int 0])) p (.lst ((List.replicate n (0:Int)).map V.int)) p=some (.lst ((List.replicate n (0:Int)).map V.int)):=jO;generalize upd (upd H lo (.lst [V.int 0])) p (.lst ((List.replicate n (0:Int)).map V.int))=H0 at Fp hP ⊢;refine⟨_,Z,_,Z,r,s',Z,⟨_,j6.of (Fp _ _ h1)⟩,⟨_,j6.of (Fp _ _ h2)⟩,tO (K:=K) (xs:=(ni ps).map V.int) (ys:=xs.map V.int) (by rw[aa,aa,aa,l]) (fun i σ H2=>jU H H2/\(∃o1 o2:Option V,σ=[some (.int n),some (.ref r),some (.ref s'),some (.ref p),o1,o2])/\H2 p=some (.lst ((Rx.uT n (ps.take i) (xs.take i)).map V.int))) ⟨Fp,⟨none,none,Z⟩,by rw[hP];rfl⟩ (fun i σ H2 _ z=>⟨z.1.seq (j6.of h1),z.1.seq (j6.of h2)⟩) ?_ ?_⟩
 .rintro i x y σ H2 pa hx hy ⟨sm,⟨o1,o2,rfl⟩,Iq⟩ ZX;obtain⟨c,rfl,hc⟩:=FM hx;obtain⟨v,rfl,hv⟩:=int_at hy;have cl:=lt c (ak hc);have pne:p≠pa:=j8 Iq ZX;refine⟨pa,_,Z,kQ.of jO,Z,_,_,Z,_,_,Z,Z,?_⟩;refine⟨_,Z,_,Z,_,Z,p,_,_,_,Z,Z,(j5 pne).trans Iq,oX J zgZ,?_⟩;refine⟨kK (jR sm ZX) pn,⟨_,_,Z⟩,?_⟩;rw[jO,ae,set_int];have e1:ps.take (i+1)=ps.take i++[c]:=by rw[de,hc];rfl
  have e2:xs.take (i+1)=xs.take i++[v]:=by rw[de,hv];rfl
  rw[e1,e2];unfold Rx.uT;rw[Rx.yd _ _ _ _ _ (by rw[cJ,cJ,l])]
 .rintro σ H2 ⟨sm,⟨o1,o2,rfl⟩,Iq⟩;rw[aa,aa,bV,l,bV] at Iq;exact⟨_,Z,q p H2 sm pn Iq⟩
def KN (H:Hp)(a:Addr)(x:Rx.Fd):Prop:=∃b,H a=some (.tup [.int x.1,.int x.2.1,.ref b])/\H b=some (.lst (x.2.2.map V.int))
def rE (H:Hp)(r:Addr)(fs:List Rx.Fd):Prop:=∃as:List Addr,H r=some (.lst (as.map V.ref))/\Paired (KN H) as fs
theorem nC {α β:Type}{F G:α->β->Prop}:∀{a:List α}{b:List β},Paired F a b->(∀x y,F x y->G x y)->Paired G a b
 | _,_,.nil,_=>.nil
 | _,_,.cons h t,i=>.cons (i _ _ h) (nC t i)
theorem rE.same {H H':Hp}(sm:jU H H'){fs:List Rx.Fd}(h:rE H r fs):rE H' r fs :=
 let ⟨as,h1,h2⟩:=h;⟨as,sm _ _ h1,nC h2 fun _ _ ⟨b,u,v⟩=>⟨b,sm _ _ u,sm _ _ v⟩⟩
theorem rE.push {H:Hp}{F t b:Addr}{fs:List Rx.Fd}{f:Rx.Fd}(hF:H F=some (.lst (as.map V.ref)))(pa:Paired (KN H) as fs)(ht:H t=some (.tup [.int f.1,.int f.2.1,.ref b]))(hb:H b=some (.lst (f.2.2.map V.int)))(nb:b≠F):rE (upd H F (.lst (as.map V.ref++[.ref t]))) F (fs++[f]):=by
 have old:Paired (KN (upd H F (.lst (as.map V.ref++[.ref t])))) as fs:=by
  have ne:∀(a:Addr)(x:Rx.Fd),a∈as->KN H a x->KN (upd H F (.lst (as.map V.ref++[.ref t]))) a x:=fun a x ha ⟨c,u,v⟩=>by
   refine⟨c,(j5 (nV u hF (by intro z;cases z))).trans u,(j5 (nV v hF fun z=>?_)).trans v⟩;injection z with z;cases as with
   | nil=>cases ha
   | cons a0 Sk=>cases e:x.2.2 with
    | nil=>rw[e] at z;cases z
    | cons y ys=>rw[e] at z;injection z with z1;cases z1
  have go:∀{sH:List Addr}{CZ:List Rx.Fd},(∀a∈sH,a∈as)->Paired (KN H) sH CZ->Paired (KN (upd H F (.lst (as.map V.ref++[.ref t])))) sH CZ:=fun {sH CZ} sub p=>by
   induction p with
   | nil=>exact .nil
   | cons h _ ih=>exact .cons (ne _ _ (sub _ aq) h) (ih fun a ha=>sub a (ar _ ha))
  exact go (fun a h=>h) pa
 refine⟨as++[t],by rw[jO,aO];rfl,L2.Paired.Cs old (.cons ⟨b,(j5 (nV ht hF (by intro z;cases z))).trans ht,(j5 nb).trans hb⟩ .nil)⟩
theorem vY {p:Int}{N:Nat}(pN:p<2^N)(h:Rx.In p l):Bd N l:=fun x hx=>by
 have:=h x hx;have e:=n9 N;lia
inductive P1 (vs:List V)(H:Hp)(Q:VK)(E_:XK):Prop
 | mk (r s:Addr)(step:List Int)(fs:List Rx.Fd)(p:Int)(w N:Nat)(_:vs=[.ref r,.ref s,.int p])(_:H r=some (.lst (step.map V.int)))(_:rE H s fs)(_:Rx.OR p w fs)(_:step.length=w)(_:w<=20000)(_:0<p)(_:p<2^N)(_:N<=1000000)(_:∀t H',jU H H'->H' t=some (.lst ((Rx.pC p fs step).map V.int))->Q (.ref t) H')
theorem wC (T:Txt K mg CF tL tF tM):Df P w K mg base 2 "cleared" ["step","found","prime"] P1:=by
 refine kR T.d_cleared Cn fun f cdv A outer s H vs Q E hr nd h=>?_;obtain⟨r,s',step,fs,p,w',N,rfl,h1,hF,rk,l,lz,p0,pN,N1,q⟩:=h;obtain⟨as,h2,pa⟩:=id hF;have la:=j7 pa;refine⟨_,(jK (tj 3 [("prime",2)] ["weight"] nd (kG (pv 0)) (fun C s H fp=>⟨(nT 1),kq,(jV kJ (pv 1) (pv 0))⟩)) (jK (kZ aJ Z (kG (pv 1)) (mv Z (kg (lX 4 nd) (kg (lX 5 nd) (kg (lX 6 nd) lO)))) (jQ (kh 3 nd (kf (r9 T) hr (jL (pv 3) (jL (ki kN (pv 3) (pv 5)) (jL (pv 6) (jL (pv 2) ke)))))))) (jQ (j4 (pv 3))))),?_⟩;refine⟨_,Z,r,Z,⟨_,j6.of h1⟩,?_⟩;refine lJ (K:=K) (xs:=step.map V.int) (step.map fun x=>x%p) zgX zgU (j6.of h1) ?_ ?_
 .intro i x H2 hx sm R k;obtain⟨u,rfl,hu⟩:=int_at hx;exact⟨_,Z,_,Z,_,_,Z,Z,p0,k _ _ (jU.refl _) (by rw[af,hu];rfl)⟩
 .intro D H0 qZ _ hD;refine⟨_,Z,s',Z,⟨_,j6.of (qZ _ _ h2)⟩,mI (K:=K) (xs:=as.map V.ref) (fun i σ H2=>jU H H2/\∃(tl:Addr)(o1 o2 o3:Option V),σ=[some (.ref r),some (.ref s'),some (.int p),some (.ref tl),o1,o2,o3]/\H2 tl=some (.lst ((Rx.pC p (fs.take i) step).map V.int))) ⟨qZ,D,none,none,none,Z,hD⟩ (fun i σ H2 _ z=>z.1.seq (j6.of h2)) ?_ ?_⟩
  .rintro i x σ H2 hx ⟨sm,tl,o1,o2,o3,rfl,hl⟩;obtain⟨a,rfl,ha⟩:=oK hx;obtain⟨f,hf,b,ht,hb⟩:=kU pa ha;have rf:=rk f (ak hf);have ok:=Rx.sY p0 l (fs:=fs.take i) Z fun f hf=>rk f (fZ hf);refine⟨a,_,Z,kQ.of (sm _ _ ht),Z,_,_,Z,_,_,Z,_,_,Z,Z,?_⟩;have cg:me ((Rx.pC p (fs.take i) step).map V.int) (f.2.1:Int)=some (.int (Lt.g (Rx.pC p (fs.take i) step) f.2.1)):=lP zgV;have big:=ok.2.g p0 f.2.1;have e:=n9 N;refine⟨_,Z,_,Z,_,Z,tl,_,_,_,Z,Z,j6.of hl,cg,_,Z,_,Z,tl,b,_,f.2.2,_,p,N,N,Z,hl,sm _ _ hb,by rw[ok.1,rf.1],J,p0,J,vY pN rf.2.1,N1,N1,fun t H3 k9 h3=>?_⟩;refine⟨sm.trans k9,t,_,_,_,Z,?_⟩;have e1:fs.take (i+1)=fs.take i++[f]:=by rw[de,hf];rfl
   rw[e1,Rx.wS];exact h3
  .rintro σ H2 ⟨sm,tl,o1,o2,o3,rfl,hl⟩;rw[aa,la,bV] at hl;exact⟨_,Z,q tl H2 sm hl⟩
inductive M5 (vs:List V)(H:Hp)(Q:VK)(E_:XK):Prop
 | mk (r:Addr)(steps:List (List Int))(p:Int)(w N:Nat)(_:vs=[.ref r,.int p])(_:lH H r steps)(_:∀x∈steps,x.length=w)(_:w<=20000)(_:steps.length<=20000)(_:Pt.m9 p)(_:p<2^N)(_:1<=N)(_:N<=9000)(_:∀t H' fs,jU H H'->H t=none->rE H' t fs->Rx.qI p w steps steps.length fs->Q (.ref t) H')
theorem Ci (T:Txt K mg CF tL tF tM):Df P w K mg base 5 "corners" ["steps","prime"] M5:=by
 refine kR T.d_corners BF fun f cdv A outer s H vs Q E hr nd h=>?_;obtain⟨r,steps,p,w',N,rfl,⟨as,h1,pa⟩,lw,lz,ls,hp,pN,N1,N2,q⟩:=h;have la:=j7 pa;have p2:=hp.1;refine⟨_,(jK (kh 2 nd (lR ke)) (jK (kZ aJ Z (oQ jI T.b_enumerate (kL (pv 0))) (mv Z (kg (lX 3 nd) (kg (lX 4 nd) lO))) (jK (kh 5 nd (kf (wC T) hr (jL (pv 4) (jL (pv 2) (jL (pv 1) ke))))) (jK (kh 6 nd (kf (re T) hr (kL (pv 5)))) (jQ (kY (lI Ka (pv 6) rH) (jQ (mR (t6 cM cD cF mS (pv 2) (kL (lL (jL (pv 3) (jL (pv 6) (jL (kf (sw T) hr (jL (pv 5) (jL (kf (zM T) hr (ko (ki kN (pv 5) (pv 6)) (pv 1))) (jL (pv 1) ke)))) ke)))))))) kD))))) (jQ (j4 (pv 2))))),?_⟩;refine⟨nF O,fun F hF=>?_⟩;have IM:jU H (upd H F (.lst [])):=jR (jU.refl _) hF;refine⟨_,Z,r,Z,⟨_,j6.of (IM _ _ h1)⟩,pH (K:=K) (xs:=as.map V.ref) (fun i σ H2=>jU H H2/\∃(fs:List Rx.Fd)(o1 o2 o3 o4:Option V),σ=[some (.ref r),some (.int p),some (.ref F),o1,o2,o3,o4]/\rE H2 F fs/\fs.length<=i/\Rx.qI p w' steps i fs) ⟨IM,[],none,none,none,none,Z,⟨[],jO,.nil⟩,aH _,.start ..⟩ (fun i σ H2 _ z=>z.1.seq (j6.of h1)) ?_ ?_⟩
 .rintro i x σ H2 pp hx ⟨sm,fs,o1,o2,o3,o4,rfl,fo,fl,cn⟩ xz;obtain⟨a,step,rfl,ha,uv,hh⟩:=mK pa hx;have il:i<as.length:=(aF.mp ha).1;have l:=lw step (ak uv);have pT:=jR (o:=.tup [.int (i:Nat),.ref a]) (jU.refl H2) xz;refine⟨pp,_,Z,kQ.of jO,Z,_,_,Z,_,_,Z,Z,?_⟩;refine⟨_,Z,_,Z,_,Z,a,F,step,fs,p,w',N,Z,pT _ _ (sm _ _ hh),fo.same pT,cn.rok,l,lz,J,pN,J,fun tl H3 k9 hl=>?_⟩;have ok:=Rx.sY (show 0<p by lia) l Z cn.rok;have QX:=(sm.trans pT).trans k9;have ZY:=(fo.same pT).same k9;refine⟨_,Z,tl,_,Z,hl,by rw[ok.1];exact lz,fun c H4 mi hc nz=>?_,fun H4 mi z=>?_⟩
  .rw[ok.1] at hc;have gb:=ok.2.g (show 0<p by lia) c;have Sy:=mi _ _ hl;have cg:me ((Rx.pC p fs step).map V.int) (c:Int)=some (.int (Lt.g (Rx.pC p fs step) c)):=lP zgV;refine⟨_,Z,Z,_,Z,qx jH ?_⟩;obtain⟨ZZ,fh,Z0⟩:=ZY.same mi;refine⟨_,Z,.inl ⟨Z,_,j6.of fh⟩,_,Z,_,Z,_,Z,_,Z,_,Z,tl,_,_,_,Z,Z,j6.of Sy,cg,_,Z,_,p,N,Z,J,N1,N2,pN,fun d d1 dp dg=>?_,fun u H5 u1 u2 hu mL=>?_⟩
   .rcases Int.lt_or_le d p with c' | c'
    .rcases Int.lt_or_le d 2 with c'' | c''
     .lia
     .exact absurd dp (hp.2 d c'' c')
    .have:=aU (show 0<Lt.g (Rx.pC p fs step) c by lia) dg;lia
   have e:=n9 N;refine⟨_,Z,tl,_,u,p,N,N,Z,mL _ _ Sy,by rw[ok.1];exact lz,J,J,vY pN ok.2,J,J,fun tr H6 sx h6=>?_⟩;refine⟨jY,fun tt qG=>?_⟩;have Km:=jR (o:=.tup [.int (i:Nat),.int (c:Nat),.ref tr]) (jU.refl H6) qG;have ux:=(mL.trans sx).trans Km;refine⟨F,_,_,Z,Z,ux _ _ fh,?_,?_⟩
   .rw[aa,j7 Z0];exact mH J
   .have Sz:=nC Z0 fun _ _ ⟨b,u,v⟩=>(⟨b,ux _ _ u,ux _ _ v⟩:KN _ _ _);have Fn:H6 F=some (.lst (ZZ.map V.ref)):=sx _ _ (mL _ _ fh);have nb:tr≠F:=fun z=>by
     rw[z] at h6;rw[Fn] at h6;injection h6 with h6;injection h6 with h6;have l6:=cQ List.length h6;rw[aa,aa,aa,ok.1] at l6;cases e1:ZZ with
     | nil=>rw[e1] at l6;simp at l6;lia
     | cons a0 Sk=>cases e2:(Rx.pC p fs step) with
      | nil=>rw[e2] at ok;have:=ok.1;simp at this;lia
      | cons y ys=>rw[e1,e2] at h6;injection h6 with z1;cases z1
    refine⟨kK (((QX.trans mi).trans (mL.trans sx)).trans Km) hF,fs++[((i:Nat),c,(Rx.pC p fs step).map fun x=>x*u%p)],_,_,_,_,Z,rE.push (f:=((i:Nat),c,(Rx.pC p fs step).map fun x=>x*u%p)) (ux _ _ fh) Sz jO (Km _ _ h6) nb,by rw[aI];show fs.length+1<=_;lia,cn.some hp uv l hc nz hu⟩
  .refine⟨_,Z,Z,_,Z,mB jH ?_⟩;exact⟨QX.trans mi,fs,_,_,_,_,Z,ZY.same mi,J,cn.none J uv l (by rw[<-ok.1];exact z)⟩
 .rintro σ H2 ⟨sm,fs,o1,o2,o3,o4,rfl,fo,fl,cn⟩;rw[aa,la] at cn;exact⟨_,Z,q F H2 fs sm hF fo cn⟩
theorem vI {n i:Nat}(h:i<n)(x:Int):Ld.MZ n i x=Rx.tR n i x:=by
 unfold Ld.MZ Rx.tR;have:((i:Int)%n).toNat=i:=by rw[aR J J];lia
 rw[this]
theorem Gf {N:Nat}{row other:List Int}{many:Int}(m0:0<m)(mN:m<2^N)(h:Bd N row):Bd N (Rx.tN row many other m):=by
 unfold Rx.tN;split
 .exact h
 .exact vY mN (Rx.In.zip m0 _ _ fun x y=>x-many*y)
inductive Qs (vs:List V)(H:Hp)(Q:VK)(E_:XK):Prop
 | mk (r:Addr)(rows:List (List Int))(k E N:Nat)(p:Int)(_:vs=[.ref r,.int (p^E)])(_:lH H r rows)(_:rows.length=k)(_:∀row∈rows,row.length=k/\Bd N row)(_:k<=420)(_:1<=E)(_:Pt.m9 p)(_:p^E<2^N)(_:1<=N)(_:N<=9000)(_:∀c,c<=k->Mx.vz p c (Rx.mt rows))(_:∀t H' us,jU H H'->H t=none->lH H' t us->us.length=k->(∀u∈us,u.length=k/\Bd N u)->Mx.LI (p^E) k (Rx.mt us) (Rx.mt rows)->Q (.ref t) H')
theorem wN (T:Txt K mg CF tL tF tM):Df P w K mg base 5 "undone_rows" ["rows","modulus"] Qs:=by
 refine kR T.d_undone_rows wL fun f cdv A outer s H vs Q E hr nd h=>?_;obtain⟨r,rows,k,E',N,p,rfl,⟨as,h1,pa⟩,lr,lw,k4,E1,hp,mN,N1,N2,ind,q⟩:=h;have la:=j7 pa;have p2:=hp.1;have m0:0<p^E':=fO J;have pm:p∣p^E':=by
  obtain⟨e,rfl⟩:∃e,E'=e+1:=⟨E'-1,J⟩;exact⟨p^e,by rw[bx,aB]⟩
 have eN:=n9 N;have N2':2<=2^N:=bY (n:=2) O N1;generalize hm:p^E'=m at *;refine⟨_,(jK (kh 2 nd (nQ T.b_len (pv 0))) (jK (tj 3 [("size",2)] ["number","row"] nd (oQ jI T.b_enumerate (kL (pv 0))) (fun C s H fp=>⟨(sJ 1 2),kq,(jV sZ (pv 2) (kf (vM T) hr (jL (pv 0) (jL (pv 1) (jL jM ke)))))⟩)) (jK (kZ aJ Z (mC jI T.b_range (kL (pv 2))) (lX 4 nd) (jK (kh 5 nd (kf (sw T) hr (jL (ki kN (pv 3) (pv 4)) (jL (kf (zM T) hr (ko (ki kN (ki kN (pv 3) (pv 4)) (pv 4)) (pv 1))) (jL (pv 1) ke))))) (jK (tj 3 [("lead",5),("modulus",1),("column",4)] ["row"] nd (kG (pv 3)) (fun C s H fp=>⟨(nT 3),kq,(kf (r9 T) hr (jL (pv 3) (jL (ki (oC (K:=K) Z) (pv 3) (pv 2)) (jL (pv 0) (jL (pv 1) ke)))))⟩)) (jQ (oM (pv 5) (oH (pv 3) (pv 4) set_list)))))) (jQ (j4 (nh [("size",2)] ["row"] (kG (pv 3)) (fun C s H fp=>⟨(nT 1),kq,(uo (Hl (K:=K) Z) (pv 1) (sy (pv 0)) Dc)⟩))))))),?_⟩;refine⟨_,Z,r,_,Z,.inl (j6.of h1),?_⟩;rw[aa,la,lr];refine⟨_,Z,r,Z,⟨_,j6.of h1⟩,?_⟩;refine HD (K:=K) (xs:=as.map V.ref) (Rx.aug k rows) (by unfold Rx.aug;rw[List.length_mapIdx,List.length_map,la]) (by rw[List.length_map,la];lia) (j6.of h1) ?_ ?_
 .intro i x H2 pp hx sm xz R kk;obtain⟨a,row,rfl,ha,lE,hh⟩:=mK pa hx;have il:i<k:=by rw[<-lr];exact(aF.mp lE).1
  have rl:=lw row (ak lE);have pT:=jR (o:=.tup [.int (i:Nat),.ref a]) (jU.refl H2) xz;refine⟨pp,_,Z,kQ.of jO,Z,_,_,Z,_,_,Z,Z,?_⟩;refine⟨_,Z,_,Z,_,Z,k,(i:Nat),1,Z,J,J,fun ht H3 k9 _ h3=>?_⟩;rw[vI il] at h3;refine⟨a,ht,_,_,Z,Z,k9 _ _ (pT _ _ (sm _ _ hh)),h3,?_,fun c hc=>?_⟩
  .rw[aa,aa,Rx.oR,rl.1];exact nF J
  .rw[<-aO];exact kk _ c (row++Rx.tR k i 1) (jR (pT.trans k9) hc) (by unfold Rx.aug;rw[List.getElem?_mapIdx,lE];rfl) jO
 intro D H0 qZ nD hD;have gj0:=Rx.Mb (m:=m) lr fun row h=>(lw row h).1;have au:(Rx.aug k rows).length=k/\∀row∈Rx.aug k rows,row.length=k+k/\Bd N row:=by
  refine⟨by unfold Rx.aug;rw[List.length_mapIdx,lr],fun row lE=>?_⟩;obtain⟨i,hi,e⟩:=List.getElem_of_mem lE;unfold Rx.aug at e hi;rw[List.getElem_mapIdx] at e;rw[List.length_mapIdx] at hi;have rl:=lw _ (b9 hi);rw[<-e];refine⟨by rw[aI,Rx.oR,rl.1],fun x hx=>?_⟩;rcases List.mem_append.mp hx with c | c
  .exact rl.2 x c
  .obtain⟨j,hj,ej⟩:=Rx.sO c;rw[Rx.ph J] at ej;split at ej<;>(rw[<-ej];lia)
 refine⟨_,Z,k,Z,J,J,oe (n:=k) (fun i σ H2=>jU H H2/\∃(tl:Addr)(ls:List (List Int))(o1 o2:Option V),σ=[some (.ref r),some (.int m),some (.int k),some (.ref tl),o1,o2]/\lH H2 tl ls/\ls.length=k/\(∀row∈ls,row.length=k+k/\Bd N row)/\Mx.Gj m k (Rx.mt rows) i (Rx.wl k ls) (Rx.wr k ls)) ⟨qZ,D,_,none,none,Z,hD,au.1,au.2,gj0⟩ ?_ ?_⟩
 .rintro c σ H2 hc ⟨sm,tl,ls,o1,o2,rfl,⟨bs,t1,pb⟩,ll,lb,gj⟩;have Ko:=j7 pb;have lE:=Rx.lZ (rows:=ls) (i:=c) J;have rl:=lb _ (Rx.k5 (rows:=ls) (i:=c) J);obtain⟨a,Kq,ha⟩:=xl pb lE;have cg:me ((ls.getD c []).map V.int) (c:Int)=some (.int (Lt.g (ls.getD c []) c)):=lP zgV;have piv:¬p∣Lt.g (ls.getD c []) c:=by
   have:=gj.Qo p2 pm hc (ind (c+1) hc);unfold Rx.wl at this;rwa [ae] at this
  refine⟨_,Z,_,Z,tl,_,_,_,Z,Z,j6.of t1,Kq,_,Z,_,Z,tl,_,_,_,Z,Z,j6.of t1,Kq,_,Z,a,_,_,_,Z,Z,j6.of ha,cg,_,Z,_,m,N,Z,J,N1,N2,mN,fun d d1 dm dg=>Rx.JQ hp piv d1 (by rw[hm];exact dm) dg,fun u H3 u1 u2 hu k9=>?_⟩;refine⟨_,Z,a,_,u,m,N,N,Z,k9 _ _ ha,J,m0,J,rl.2,J,J,fun le H4 mi h4=>?_⟩;obtain⟨lead,pK⟩:∃lead:List Int,lead=(ls.getD c []).map fun x=>x*u%m:=⟨_,Z⟩;rw[<-pK] at h4;have lel:lead.length=k+k:=by rw[pK,aa,rl.1]
  have Z1:Bd N lead:=by rw[pK];exact vY mN (Rx.In.mod m0 _ fun x=>x*u)
  have t4:=mi _ _ (k9 _ _ t1);have Yc:=kT (k9.trans mi) pb;refine⟨_,Z,tl,Z,⟨_,j6.of t4⟩,?_⟩;refine qy (K:=K) (xs:=bs.map V.ref) (ls.map fun row=>Rx.tN row (Lt.g row c) lead m) (by rw[aa,aa,Ko]) zgU (j6.of t4) ?_ ?_
  .intro i x H5 hx mL R kk;obtain⟨b,row,rfl,hb,On,SA⟩:=mK Yc hx;have Z2:=lb row (ak On);have cg5:me (row.map V.int) (c:Int)=some (.int (Lt.g row c)):=lP zgV;have gb:=Z2.2 _ (Rx.nH (l:=row) (i:=c) J);exact⟨_,Z,_,Z,_,Z,b,_,_,_,Z,Z,j6.of (mL _ _ SA),cg5,_,Z,_,Z,b,le,row,lead,_,m,N,N,Z,mL _ _ SA,mL _ _ h4,by rw[Z2.1,lel],J,m0,gb,Z1,J,J,fun t H6 sx h6=>kk H6 t _ sx (by rw[af,On];rfl) h6⟩
  intro D2 H5 mL Yd ⟨es,e1,pe⟩;have tN:=j7 pe;rw[aa] at tN;refine⟨_,Z,_,Z,_,Z,D2,_,_,_,Z,Z,e1,oX J zgU,?_⟩;have QY:=(sm.trans k9).trans mi;have Z3:=Rx.HR (m:=m) (v:=u) ll hc fun row h=>(lb row h).1;have eq:(ls.map fun row=>Rx.tN row (Lt.g row c) lead m).set c lead=Rx.tG m c u ls:=by unfold Rx.tG;rw[pK]
  refine⟨kK (QY.trans mL) (QY.free Yd),D2,Rx.tG m c u ls,_,_,Z,?_,Z3.1,fun row lE=>⟨Z3.2 row lE,?_⟩,Rx.IY ll (fun row h=>(lb row h).1) gj hc hu⟩
  .rw[<-eq,ae];exact lH.put e1 pe (fun z=>by rw[z] at tN;simp at tN;lia) (mL _ _ h4)
  .rw[<-eq] at lE;rcases List.mem_or_eq_of_mem_set lE with z | z
   .obtain⟨y,hy,rfl⟩:=List.mem_map.mp z;exact Gf m0 mN (lb y hy).2
   .rw[z];exact Z1
 .rintro σ H2 ⟨sm,tl,ls,o1,o2,rfl,⟨bs,t1,pb⟩,ll,lb,gj⟩;have Ko:=j7 pb;refine⟨_,Z,tl,Z,⟨_,j6.of t1⟩,?_⟩;refine qy (K:=K) (xs:=bs.map V.ref) (ls.map fun row=>row.drop k) (by rw[aa,aa,Ko]) zgU (j6.of t1) ?_ ?_
  .intro i x H5 hx mL R kk;obtain⟨b,row,rfl,hb,On,SA⟩:=mK pb hx;refine⟨_,Z,_,Z,_,Z,b,_,Z,j6.of (mL _ _ SA),fun c hc=>?_⟩;rw[AC];exact kk _ c (row.drop k) (jR (jU.refl _) hc) (by rw[af,On];rfl) jO
  .intro D2 H5 mL Yd Ye;refine q D2 H5 _ (sm.trans mL) (sm.free Yd) Ye (by rw[aa,ll]) (fun u hu=>?_) (Rx.Je ll gj);obtain⟨y,hy,rfl⟩:=List.mem_map.mp hu;exact⟨by rw[cx,(lb y hy).1];lia,fun x hx=>(lb y hy).2 x (gT hx)⟩
theorem t8 {X:Cx}{K:PySem.W.Frag}(h:X.K=K):N5 X (PZ K):=by subst h;exact j9
theorem zJ {x:Int}(x0:0<=x)(m0:0<=m)(h:tQ x<=m):x<2^m.toNat:=by
 have e:=n9 m.toNat;unfold tQ Builtin.Int.intBits at h
 by_cases z:x=0
 .rw[z];exact fO O
 .rw[ao (by simpa using z)] at h;have:=(ia (show x.natAbs≠0 by lia)).mp (show x.natAbs.log2<m.toNat by lia);lia
theorem Dk {x:Int}(x0:0<=x)(m0:0<=m)(h:m<tQ x):2^m.toNat<=x:=GH x0 m0 h
theorem EB {sc bits:Int}(s0:64<=sc)(e:bits=(tQ sc-2)/2):0<=bits/\2<=(2:Int)^bits.toNat/\2*((2:Int)^bits.toNat*2^bits.toNat)<=sc/\sc<8*((2:Int)^bits.toNat*2^bits.toNat):=by
 have b6:6<tQ sc:=by
  rcases Int.lt_or_le 6 (tQ sc) with c | c
  .exact c
  .have:=zJ J (show (0:Int)<=6 by decide) c;have e6:(2:Int)^(6:Int).toNat=64:=O;lia
 have lo:=Dk (x:=sc) (m:=tQ sc-1) J J J;have hi:=zJ (x:=sc) (m:=tQ sc) J J (dY _);have p1:(2:Int)^bits.toNat*2^bits.toNat=2^(bits.toNat+bits.toNat):=by rw[eD]
 have b2:bits.toNat=(bits.toNat-1)+1:=J;refine⟨J,?_,?_,?_⟩
 .rw[b2,bx];have:(1:Int)<=2^(bits.toNat-1):=fO O;lia
 .rw[p1];have a:(2:Int)^(bits.toNat+bits.toNat+1)<=2^(tQ sc-1).toNat:=by
   have n1:=n9 (bits.toNat+bits.toNat+1);have n2:=n9 (tQ sc-1).toNat;have:=bY (n:=2) O (show bits.toNat+bits.toNat+1<=(tQ sc-1).toNat by lia);lia
  rw[bx] at a;lia
 .rw[p1];have a:(2:Int)^(tQ sc).toNat<=2^(bits.toNat+bits.toNat+3):=by
   have n1:=n9 (bits.toNat+bits.toNat+3);have n2:=n9 (tQ sc).toNat;have:=bY (n:=2) O (show (tQ sc).toNat<=bits.toNat+bits.toNat+3 by lia);lia
  rw[show bits.toNat+bits.toNat+3=bits.toNat+bits.toNat+1+1+1 from Z,bx,bx,bx] at a;lia
inductive VM (vs:List V)(H:Hp)(Q:VK)(E_:XK):Prop
 | mk (x sc bits:Int)(N:Nat)(_:vs=[.int x,.int sc,.int bits])(_:0<=x)(_:x<sc)(_:0<=bits)(_:2^bits.toNat<=sc)(_:1<=N)(_:N<=9000)(_:sc<2^N)(_:∀H' r0 r1 c0 c1,jU H H'->Eb.St sc x r0 r1 c0 c1->2^bits.toNat<=r0->r1<2^bits.toNat->(c1.natAbs:Int)<=sc->Q (.int c1.natAbs) H')
theorem vw (T:Txt K mg CF tL tF tM):Df P w K mg base 4 "least_bottom" ["number","scale","bits"] VM:=by
 refine kR T.d_least_bottom vD fun f cdv A outer s H vs Q E hr nd h=>?_;obtain⟨x,sc,bits,N,rfl,x0,x1,b0,bs,N1,N2,fN,q⟩:=h;refine⟨_,(jQ (j4 (kP px jI T.b_abs L2.tu (kL (ki j9 (kf (uB T) hr (jL (pv 1) (jL (pv 0) (jL (pv 2) ke)))) jM))))),?_⟩;refine⟨_,Z,_,Z,_,Z,sc,x,bits,N,Z,J,x0,b0,N1,N2,fN,J,fun t H1 r0 c0 r1 c1 sm h1 S p0 bz big _=>?_⟩;have i3:me [V.int r0,V.int c0,V.int r1,V.int c1] 3=some (.int c1):=Z;refine⟨t,_,_,_,Z,Z,kQ.of h1,i3,_,Z,?_⟩;have e:(if c1<0 then -c1 else c1)=(c1.natAbs:Int):=by split<;>lia
 rw[e];exact q H1 r0 r1 c0 c1 sm S (by rcases big with z | z<;>lia) (zJ S.p1 b0 bz) (S.c1 J p0)
inductive MA (K:PySem.W.Frag)(vs:List V)(H:Hp)(Q:VK)(E_:XK):Prop
 | mk (r:Addr)(l:List Int)(sc:Int)(N:Nat)(_:vs=[.ref r,.int sc])(_:H r=some (.lst (l.map V.int)))(_:l.length<=20000)(_:Rx.In sc l)(_:64<=sc)(_:1<=N)(_:N<=9000)(_:sc<2^N)(_:∀Hh:Int,2<=Hh->2*(Hh*Hh)<=sc->sc<8*(Hh*Hh)->(∀H' l1 l2 b,jU H H'->l=l1++l2->Rx.Am sc Hh l1 b->Hh<=b->Q .non H')/\∀t tt H' b,jU H H'->H' t=some (.tup [.ref tt,.int b])->H' tt=some (.lst ((l.map fun x=>Rx.cn (x*b) sc).map V.int))->Rx.Am sc Hh l b->b<Hh->Q (.ref t) H')
theorem yZ (T:Txt K mg CF tL tF tM):Df P w K mg base 5 "fractions" ["rests","scale"] (MA K):=by
 refine kR T.d_fractions zH fun f cdv A outer s H vs Q E hr nd h=>?_;obtain⟨r,l,sc,N,rfl,h1,lz,li,s6,N1,N2,fN,q⟩:=h;have eN:=n9 N;refine⟨_,(jK (kh 2 nd (jV ky (jV mw (wq eO dW dX ua (pv 1)) jM) jM)) (jK (kh 3 nd jM) (jK (kZ aJ Z (kG (pv 0)) (lX 4 nd) (jK (kh 3 nd (jV ks (pv 3) (kf (vw T) hr (jL (jV kJ (jV ks (pv 4) (pv 3)) (pv 1)) (jL (pv 1) (jL (pv 2) ke)))))) (jQ (kY (lI t7 (wq eO dW dX ua (pv 3)) (pv 2)) (jQ (j4 rH)) kD)))) (jQ (j4 (lL (ko (nh [("scale",1),("bottom",3)] ["number"] (kG (pv 0)) (fun C s H fp=>⟨(nT 2),kq,(kf (wb T) hr (ko (jV ks (pv 2) (pv 1)) (pv 0)))⟩)) (pv 3)))))))),?_⟩;refine⟨_,Z,Z,_,Z,Z,_,_,Z,Z,_,_,Z,Z,kO O O,?_⟩;obtain⟨bits,hb⟩:∃bits:Int,bits=(tQ sc-2)/2:=⟨_,Z⟩;dsimp only;rw[<-hb];have hf:=EB s6 hb;have qq:=q _ hf.2.1 hf.2.2.1 hf.2.2.2;obtain⟨Hh,QZ⟩:∃Hh:Int,Hh=2^bits.toNat:=⟨_,Z⟩;rw[<-QZ] at hf qq;have So:Hh<=Hh*Hh:=by have:=av (show 1<=Hh by lia) (show 0<=Hh by lia);lia
 have HN:Hh<2^N:=J;refine⟨_,Z,r,Z,⟨_,j6.of h1⟩,mI (K:=K) (xs:=l.map V.int) (fun i σ H2=>jU H H2/\∃(b:Int)(o:Option V),σ=[some (.ref r),some (.int sc),some (.int bits),some (.int b),o]/\Rx.Am sc Hh (l.take i) b/\b<Hh) ⟨jU.refl _,1,none,Z,.nil,J⟩ (fun i σ H2 _ z=>z.1.seq (j6.of h1)) ?_ ?_⟩
 .rintro i x σ H2 hx ⟨sm,b,o,rfl,fr,bH⟩;obtain⟨u,rfl,hu⟩:=int_at hx;have um:=li u (ak hu);have b0:=fr.pos J;have m0:=aC (u*b) (show sc≠0 by lia);have m1:=az (u*b) (show 0<sc by lia);refine⟨_,Z,_,Z,_,Z,_,_,Z,Z,rQ (N:=N) (M:=N) J J J J,_,Z,_,_,Z,Z,(show 0<sc by lia),_,Z,_,Z,_,sc,bits,N,Z,m0,m1,hf.1,by rw[<-QZ];lia,N1,N2,fN,fun H3 r0 r1 c0 c1 k9 S h0 Q0 cb=>?_⟩;rw[<-QZ] at h0 Q0;refine⟨_,_,Z,Z,rQ (N:=N) (M:=N) J J J J,?_⟩;have Yg:Rx.Am sc Hh (l.take (i+1)) (b*c1.natAbs):=by
   rw[de,hu];exact fr.snoc S h0 Q0
  have b20:=Yg.pos J;refine⟨_,Z,Z,_,Z,Z,_,Z,_,_,Z,Z,_,Z,mZ (fun c=>?_) (fun c=>?_)⟩
  .have gt:=dec c;have:=Dk J hf.1 gt;rw[<-QZ] at this;exact qq.1 H3 (l.take (i+1)) (l.drop (i+1)) _ (sm.trans k9) (List.take_append_drop ..).symm Yg this
  .have le:=xk c;have:=zJ (x:=b*c1.natAbs) J hf.1 J;rw[<-QZ] at this;exact⟨sm.trans k9,_,_,Z,Yg,this⟩
 .rintro σ H2 ⟨sm,b,o,rfl,fr,bH⟩;rw[aa,bV] at fr;have b0:=fr.pos J;refine⟨_,Z,r,Z,⟨_,j6.of (sm _ _ h1)⟩,?_⟩;refine lJ (K:=K) (xs:=l.map V.int) (l.map fun x=>Rx.cn (x*b) sc) zgX (by rw[aa];exact lz) (j6.of (sm _ _ h1)) ?_ ?_
  .intro i x H3 hx k9 R k;obtain⟨u,rfl,hu⟩:=int_at hx;have um:=li u (ak hu);exact⟨_,Z,_,Z,_,_,Z,Z,rQ (N:=N) (M:=N) J J J J,_,Z,_,sc,Z,J,k _ _ (jU.refl _) (by rw[af,hu];rfl)⟩
  .intro D H3 k9 _ hD;refine⟨_,Z,jP,fun t ht=>?_⟩;exact qq.2 t D _ b (jR (sm.trans k9) ht) jO (jR (jU.refl _) ht _ _ hD) fr bH
def Ht (H:Hp)(rows:List (List Int))(goal:List Int)(k:Nat)(tv:V)(Q:VK):Prop :=
 ((tv=.non/\∀H',jU H H'->Q (.bl false) H')\/∃(t tt:Addr)(tops:List Int)(b:Int),tv=.ref t/\H t=some (.tup [.ref tt,.int b])/\H tt=some (.lst (tops.map V.int))/\tops.length=k/\Bd 20000 tops/\b.natAbs<2^20000 /\
  (∀H',jU H H'->(∀i,i<k->Rx.dot (rows.getD i []) tops=b*Lt.g goal i)->Q (.bl true) H')/\∀H',jU H H'->¬(∀i,i<k->Rx.dot (rows.getD i []) tops=b*Lt.g goal i)->Q (.bl false) H')
inductive Va (K:PySem.W.Frag)(vs:List V)(H:Hp)(Q:VK)(E_:XK):Prop
 | mk (r s:Addr)(rows:List (List Int))(goal:List Int)(k:Nat)(tv:V)(_:vs=[.ref r,.ref s,tv])(_:lH H r rows)(_:H s=some (.lst (goal.map V.int)))(_:rows.length=k)(_:∀row∈rows,row.length=k/\Bd 20000 row)(_:goal.length=k)(_:Bd 20000 goal)(_:k<=20000)(_:Ht H rows goal k tv Q)
theorem xm (T:Txt K mg CF tL tF tM):Df P w K mg base 3 "is_solution" ["rows","goal","told"] (Va K):=by
 refine kR T.d_is_solution w5 fun f cdv A outer s H vs Q E hr nd h=>?_;obtain⟨r,s',rows,goal,k,tv,rfl,⟨as,h1,pa⟩,h2,lr,lw,lg,bg,kz,tl⟩:=h;have la:=j7 pa;refine⟨_,(jK (kY (lI zO (pv 2) rH) (jQ (j4 qk)) kD) (jQ (j4 (kP (sE Z) jI T.b_all L2.Aa (kL (nh [("told",2)] ["row","number"] (m7 jI T.b_zip (ko (pv 0) (pv 1))) (fun C s H fp=>⟨(sJ 1 2),kq,(ol nS (kf (oZ T) hr (ko (pv 1) (ki (t8 (K:=K) Z) (pv 0) jM))) (jV ks (ki (t8 (K:=K) Z) (pv 0) jM) (pv 2)) (pJ _))⟩))))))),?_⟩;refine⟨_,Z,Z,_,Z,?_⟩;rcases tl with ⟨rfl,q⟩ | ⟨t,tt,tops,b,rfl,ht,qG,lt,bt,bb,qt,qf⟩
 .exact qx jH (q H (jU.refl _))
 refine mB jH ?_;have i0:me [V.ref tt,V.int b] 0=some (.ref tt):=Z;have i1:me [V.ref tt,V.int b] 1=some (.int b):=Z;refine⟨_,Z,_,Z,r,s',Z,⟨_,j6.of h1⟩,⟨_,j6.of h2⟩,?_⟩;obtain⟨zs,SB⟩:∃zs:List Bool,zs=(List.range k).map fun i=>decide (Rx.dot (rows.getD i []) tops=b*Lt.g goal i):=⟨_,Z⟩;have lzs:zs.length=k:=by rw[SB,aa,gn]
 refine Ep (K:=K) (xs:=as.map V.ref) (ys:=goal.map V.int) zs (by rw[aa,aa,la,lr,lg]) (by rw[lzs,aa,la,lr]) zgU (j6.of h1) (j6.of h2) ?_ ?_
 .intro i x y H2 p hx hy sm hp R kk;obtain⟨a,row,rfl,ha,lE,hh⟩:=mK pa hx;obtain⟨v,rfl,hv⟩:=int_at hy;have il:i<k:=by rw[<-lr];exact(aF.mp lE).1
  have rl:=lw row (ak lE);have pT:=jR (o:=.tup [.ref a,.int v]) (jU.refl H2) hp;have Ir:=sm.trans pT;refine⟨p,_,Z,kQ.of jO,Z,_,_,Z,_,_,Z,Z,?_⟩;refine⟨_,Z,_,Z,t,_,_,_,Z,Z,kQ.of (Ir _ _ ht),i0,a,tt,row,tops,20000,20000,Z,j6.of (Ir _ _ hh),j6.of (Ir _ _ qG),by rw[rl.1,lt],J,rl.2,bt,O,O,fun H3 k9=>?_⟩;refine⟨_,Z,t,_,_,_,Z,Z,kQ.of (k9 _ _ (Ir _ _ ht)),i1,_,Z,_,_,Z,Z,rQ (N:=20000) (M:=20000) bb (bg v (ak hv)) O O,Z,?_⟩;refine kk _ _ (pT.trans k9) ?_;rw[SB,af,dC il];show some _=_
  dsimp only;rw[Rx.uc lE,Rx.lB hv];congr 1;exact decide_eq_decide.mpr ⟨fun e=>by rw[e],fun e=>by injection e⟩
 .intro D H2 sm _ hD;refine⟨D,zs,Z,j6.of hD,?_⟩
  by_cases al:∀i,i<k->Rx.dot (rows.getD i []) tops=b*Lt.g goal i
  .have:zs.all id=true:=by
    rw[dE];intro z hz;rw[SB] at hz;obtain⟨i,hi,rfl⟩:=List.mem_map.mp hz;exact cm (al i (dZ.mp hi))
   rw[this];exact qt H2 sm al
  .have:zs.all id=false:=by
    rcases e:zs.all id with _ | _
    .rfl
    .exfalso;rw[dE] at e;refine al fun i hi=>?_;have:=e (decide (Rx.dot (rows.getD i []) tops=b*Lt.g goal i)) (by rw[SB];exact dI.mpr ⟨i,dZ.mpr hi,Z⟩);exact eU this
   rw[this];exact qf H2 sm al
theorem qM {N M:Nat}(h:Bd N l)(le:N<=M):Bd M l:=fun x hx=>bp (h x hx) (bY O le)
inductive Pr (K:PySem.W.Frag)(vs:List V)(H:Hp)(Q:VK)(E_:XK):Prop
 | mk (r u s:Addr)(rows us:List (List Int))(goal:List Int)(k E N D B:Nat)(p:Int)(_:vs=[.ref r,.ref u,.int (p^E),.ref s])(_:lH H r rows)(_:lH H u us)(_:H s=some (.lst (goal.map V.int)))(_:rows.length=k)(_:∀row∈rows,row.length=k/\Bd N row)(_:us.length=k)(_:∀row∈us,row.length=k/\Bd N row)(_:goal.length=k)(_:Bd N goal)(_:k<=420)(_:1<=N)(_:N<=9000)(_:64<=p^E)(_:Rx.Sc p k (Rx.mt rows) (Rx.fn goal) D B)(_:Mx.RI (p^E) k (Rx.mt rows) (Rx.mt us))(_:1<=B)(_:128*((B:Int)*B)*(128*((B:Int)*B))*p^E<=2^N)(_:∀t tt H' tops b,jU H H'->H' t=some (.tup [.ref tt,.int b])->H' tt=some (.lst (tops.map V.int))->tops.length=k->1<=b->b∣(D:Int)->b<2^N->Bd N tops->(∀i:Nat,i<k->(Ld.S k fun t=>Rx.mt rows i t*Rx.fn tops t)=b*Rx.fn goal i)->Q (.ref t) H')
theorem yu (T:Txt K mg CF tL tF tM):Df P w K mg base 6 "solved" ["rows","undoing","modulus","goal"] (Pr K):=by
 refine kR T.d_solved EA fun f cdv A outer s H vs Q E hr nd h=>?_;obtain⟨r,u,s',rows,us,goal,k,E',N,D,B,p,rfl,hR,hU,hG,lr,lw,lu,lv,lg,bg,k4,N1,N2,m6,S,ri,B1,lim,q⟩:=h;obtain⟨as,h1,pa⟩:=id hR;obtain⟨bs,h2,pb⟩:=id hU;have la:=j7 pa;have lb:=j7 pb;have eN:=n9 N;have p2:=S.hp.1;obtain⟨m,hm⟩:∃m:Int,m=p^E':=⟨_,Z⟩;rw[<-hm] at m6 ri lim ⊢;obtain⟨Lm,Yh⟩:∃Lm:Int,Lm=128*((B:Int)*B):=⟨_,Z⟩;rw[<-Yh] at lim;have Lm1:1<Lm:=by
  have:(1:Int)*1<=(B:Int)*B:=cS J J J J;lia
 have mN:m<2^N:=by
  have a:(2:Int)*2<=Lm*Lm:=cS J J J J;have:=av a (show 0<=m by lia);lia
 have pw:∀d:Nat,m^d=p^(E'*d):=fun d=>by rw[hm,Int.pow_mul]
 have mp:∀d:Nat,1<=m^d:=fun d=>fO J;have rb:∀i t:Nat,i<k->t<k->(Rx.mt rows i t).natAbs<=2^N:=fun i t hi ht=>by
  rw[Rx.uS];have l:=lw _ (Rx.k5 (rows:=rows) (i:=i) J);exact d6 (l.2 _ (Rx.nH J))
 have gb:∀i:Nat,i<k->(Rx.fn goal i).natAbs<=2^N:=fun i hi=>by
  unfold Rx.fn;rw[ae];exact d6 (bg _ (Rx.nH J))
 have lfb:∀(d:Nat)(rests left:List Int),left.length=k->Mx.zB k (Rx.mt rows) (Rx.fn goal) (m^d) (Rx.fn rests) (Rx.fn left)->Bd (N+10) left:=fun d rests left ll lif x hx=>by
  obtain⟨i,hi,e⟩:=Rx.sO hx;have:=Rx.J1 (mp d) lif rb gb i J;unfold Rx.fn at this;rw[ae,e] at this;have e10:2^(N+10)=2^N*1024:=by rw[gS]
  have:k*2^N<=420*2^N:=cB _ k4;have:=e9 (n:=N) (show 0<2 by decide);lia
 have Z4:∀(d:Nat)(rests left:List Int),rests.length=k->Mx.zB k (Rx.mt rows) (Rx.fn goal) (m^d) (Rx.fn rests) (Rx.fn left)->Rx.In (m^d) rests:=fun d rests left ll lif x hx=>by
  obtain⟨i,hi,e⟩:=Rx.sO hx;have:=lif.rg i J;unfold Rx.fn at this;rwa [ae,e] at this
 have NC:∀d j:Nat,m^d<Lm->j<=d+1->m^(d+j)<2^N/\d<N:=fun d j lt le=>by
  have a:m^(d+j)<=m^(d+(d+1)):=by
   rw[show d+(d+1)=d+j+(d+1-j) by lia,eD m (d+j)];have:=aA (mp (d+1-j)) (show 0<=m^(d+j) by have:=mp (d+j);lia);lia
  have b:m^(d+(d+1))=m^d*m^d*m:=by rw[eD,bx,aK]
  have c:m^d*m^d<=(Lm-1)*(Lm-1):=cS J J (by have:=mp d;lia) J;have c2:(Lm-1)*(Lm-1)=Lm*Lm-2*Lm+1:=by grind
  have c3:=av (show m^d*m^d<=Lm*Lm-1 by lia) (show 0<=m by lia);rw[cU] at c3;refine⟨J,?_⟩;have e1:m^d<=m^(d+(d+1)):=by
   rw[eD];have:=aA (mp (d+1)) (show 0<=m^d by have:=mp d;lia);lia
  have e2:(2:Int)^d<=m^d:=by
   have:=gV (show 2<=m.toNat by lia) d;have e3:((m.toNat^d:Nat):Int)=m^d:=by rw[dQ,show ((m.toNat:Nat):Int)=m by lia]
   have e4:=n9 d;lia
  have e4:=n9 d;exact(Nat.pow_lt_pow_iff_right (a:=2) O).mp J
 refine⟨_,(jK (kh 4 nd (jV p9 (lR (kL jM)) (nQ T.b_len (pv 3)))) (jK (kh 5 nd (lL (ko (pv 4) jM))) (jK (kh 6 nd (pv 3)) (jK (kh 7 nd jM) (jK (kh 8 nd jM) (jK (mP aJ (nB (mY (kf (xm T) hr (jL (pv 0) (jL (pv 3) (jL (pv 5) ke)))))) (jK (kZ aJ Z (mC jI T.b_range (kL (pv 8))) (lX 9 nd) (jK (kh 10 nd (nh [("modulus",2),("left",6)] ["row"] (kG (pv 1)) (fun C s H fp=>⟨(nT 2),kq,(jV kJ (kf (oZ T) hr (ko (pv 2) (pv 1))) (pv 0))⟩))) (jK (kh 6 nd (nh [("modulus",2),("more",10)] ["row","number"] (m7 jI T.b_zip (ko (pv 0) (pv 6))) (fun C s H fp=>⟨(sJ 2 3),kq,(jV ky (jV mw (pv 3) (kf (oZ T) hr (ko (pv 2) (pv 1)))) (pv 0))⟩))) (jK (tj 4 [("scale",7)] ["number","beyond"] nd (m7 jI T.b_zip (ko (pv 4) (pv 10))) (fun C s H fp=>⟨(sJ 1 2),kq,(jV kM (pv 1) (jV ks (pv 0) (pv 2)))⟩)) (jQ (kh 7 nd (jV ks (pv 7) (pv 2)))))))) (jK (kh 5 nd (kf (yZ T) hr (ko (pv 4) (pv 7)))) (jQ (kh 8 nd (jV kM (jV kM (pv 8) (jV ky (pv 8) jM)) jM)))))) (jQ (j4 (pv 5))))))))),?_⟩;refine⟨jS,fun lo yK=>⟨_,Z,s',_,Z,.inl (j6.of (jR (jU.refl _) yK _ _ hG)),?_⟩⟩;rw[aa,lg];refine⟨lo,_,_,Z,Z,jO,J,J,zgW,fun tr SC=>?_⟩;rw[rep0];refine⟨_,Z,jP,fun t0 Kl=>?_⟩;have Oo:=jR (o:=.lst [V.int 0]) (jU.refl H) yK;have smR:=jR (o:=.lst ((List.replicate k (0:Int)).map V.int)) Oo SC;have qZ:=jR (o:=.tup [V.ref tr,V.int 1]) smR Kl;have yc:=jR (o:=.tup [V.ref tr,V.int 1]) (jU.refl _) Kl _ _ (jO (H:=upd H lo (.lst [V.int 0])) (a:=tr) (o:=.lst ((List.replicate k (0:Int)).map V.int)));have Z5:upd (upd (upd H lo (.lst [V.int 0])) tr (.lst ((List.replicate k (0:Int)).map V.int))) t0 (.tup [V.ref tr,V.int 1]) t0=some (.tup [V.ref tr,V.int 1]):=jO;generalize upd (upd (upd H lo (.lst [V.int 0])) tr (.lst ((List.replicate k (0:Int)).map V.int))) t0 (.tup [V.ref tr,V.int 1])=H0 at qZ yc Z5 ⊢;refine⟨_,Z,?_⟩;have Yi:Mx.zB k (Rx.mt rows) (Rx.fn goal) (m^0) (Rx.fn (List.replicate k (0:Int))) (Rx.fn goal):=by
  have z:Rx.fn (List.replicate k (0:Int))=fun _=>0:=by
   funext c;unfold Rx.fn;rcases Nat.lt_or_ge c.toNat k with y | y
   .exact Rx.Bb y
   .exact Rx.AN (by rw[aV];exact y)
  rw[z,eL];exact Mx.zB.start ..
 refine⟨fun mm σ H'=>jU H H'/\∃(d many:Nat)(tr tl:Addr)(rests left:List Int)(tv:V)(o1 o2:Option V),σ=[some (.ref r),some (.ref u),some (.int m),some (.ref s'),some (.ref tr),some tv,some (.ref tl),some (.int (m^d)),some (.int many),o1,o2]/\H' tr=some (.lst (rests.map V.int))/\H' tl=some (.lst (left.map V.int))/\rests.length=k/\left.length=k/\Mx.zB k (Rx.mt rows) (Rx.fn goal) (m^d) (Rx.fn rests) (Rx.fn left)/\1<=many/\many<=d+1/\mm=(Lm-m^d).toNat /\
   ((tv=.non/\m^d<Lm)\/∃(t tt:Addr)(tops:List Int)(b:Int),tv=.ref t/\H' t=some (.tup [.ref tt,.int b])/\H' tt=some (.lst (tops.map V.int))/\tops.length=k/\Bd N tops/\1<=b/\b<2^N /\
    ((∀i:Nat,i<k->(Ld.S k fun t=>Rx.mt rows i t*Rx.fn tops t)=b*Rx.fn goal i)->b∣(D:Int))/\(¬(∀i:Nat,i<k->(Ld.S k fun t=>Rx.mt rows i t*Rx.fn tops t)=b*Rx.fn goal i)->m^d<Lm)),
  ⟨_,qZ,0,1,tr,s',List.replicate k 0,goal,.ref t0,none,none,by rw[eL];rfl,yc,qZ _ _ hG,aV,lg,Yi,aH 1,aH 1,Z,.inr ⟨t0,tr,List.replicate k 0,1,Z,Z5,yc,aV,fun x hx=>by rw[(fH.mp hx).2];exact e9 O,dY 1,J,fun _=>fY _,fun _=>by rw[eL];exact Lm1⟩⟩,?_⟩
 rintro mm σ H' ⟨sm,d,many,tr,tl,rests,left,tv,o1,o2,rfl,IL,hl',C3,ll,lif,mn1,mn2,rfl,tok⟩;have eqs:∀(tops:List Int)(b:Int),tops.length=k->((∀i,i<k->Rx.dot (rows.getD i []) tops=b*Lt.g goal i)↔∀i:Nat,i<k->(Ld.S k fun t=>Rx.mt rows i t*Rx.fn tops t)=b*Rx.fn goal i):=fun tops b lt=>by
  have e:∀i,i<k->(Rx.dot (rows.getD i []) tops=b*Lt.g goal i↔(Ld.S k fun t=>Rx.mt rows i t*Rx.fn tops t)=b*Rx.fn goal i):=fun i hi=>by
   rw[Rx.BN lr (fun row h=>(lw row h).1) hi lt];unfold Rx.fn;rw[ae]
  exact⟨fun h i hi=>(e i hi).mp (h i hi),fun h i hi=>(e i hi).mpr (h i hi)⟩
 have ND:∀row∈rows,row.length=k/\Bd 20000 row:=fun row h=>⟨(lw row h).1,qM (lw row h).2 J⟩;have NE:Bd 20000 goal:=qM bg J;have C4:∀Qq:VK,(∀H1,jU H' H1->m^d<Lm->Qq (.bl false) H1)->(∀H1 t tt tops b,jU H' H1->tv=.ref t->H' t=some (.tup [.ref tt,.int b])->H' tt=some (.lst (tops.map V.int))->tops.length=k->Bd N tops->1<=b->b<2^N->b∣(D:Int)->(∀i:Nat,i<k->(Ld.S k fun t=>Rx.mt rows i t*Rx.fn tops t)=b*Rx.fn goal i)->Qq (.bl true) H1) ->
   Ht H' rows goal k tv Qq:=fun Qq F Y=>by
  rcases tok with ⟨e,lt⟩ | ⟨t,tt,tops,b,e,ht,qG,lt,bt,b1,b2,y,n⟩
  .exact .inl ⟨e,fun H1 s1=>F H1 s1 lt⟩
  .exact .inr ⟨t,tt,tops,b,e,ht,qG,lt,qM bt J,bp (show b.natAbs<2^N by lia) (bY O J),fun H1 s1 al=>Y H1 t tt tops b s1 e ht qG lt bt b1 b2 (y ((eqs tops b lt).mp al)) ((eqs tops b lt).mp al),fun H1 s1 al=>F H1 s1 (n fun z=>al ((eqs tops b lt).mpr z))⟩
 clear tok;refine⟨_,Z,_,Z,_,Z,r,s',rows,goal,k,tv,Z,hR.same sm,sm _ _ hG,lr,ND,lg,NE,J,C4 _ (fun H1 lU lt=>?_) (fun H1 t tt tops b lU e ht qG lt bt b1 b2 bD sol=>?_)⟩
 rotate_left
 .refine⟨_,Z,mB O ?_⟩;subst e;exact⟨_,Z,q t tt H1 tops b (sm.trans lU) (lU _ _ ht) (lU _ _ qG) lt b1 bD b2 bt sol⟩
 refine⟨_,Z,qx O ⟨_,fun _ _ h=>h,?_⟩⟩;have Kr:=sm.trans lU;have dN:=(NC d 0 lt J).2;refine⟨_,Z,many,Z,J,J,oe (n:=many) (fun j σ H2=>jU H H2/\∃(tr tl:Addr)(rests left:List Int)(o1 o2:Option V),σ=[some (.ref r),some (.ref u),some (.int m),some (.ref s'),some (.ref tr),some tv,some (.ref tl),some (.int (m^(d+j))),some (.int many),o1,o2]/\H2 tr=some (.lst (rests.map V.int))/\H2 tl=some (.lst (left.map V.int))/\rests.length=k/\left.length=k/\Mx.zB k (Rx.mt rows) (Rx.fn goal) (m^(d+j)) (Rx.fn rests) (Rx.fn left)) ⟨Kr,tr,tl,rests,left,o1,o2,Z,lU _ _ IL,lU _ _ hl',C3,ll,lif⟩ ?_ ?_⟩
 .rintro j σ H2 hj ⟨lQ,tr,tl,rests,left,o1,o2,rfl,IL,hl',C3,ll,lif⟩;have SD:=lfb (d+j) rests left ll lif;have Z6:=Z4 (d+j) rests left C3 lif;have Z7:=NC d j lt J;have Z8:=lQ _ _ h2;refine⟨_,Z,u,Z,⟨_,j6.of Z8⟩,?_⟩;obtain⟨more,Eg⟩:∃more:List Int,more=us.map fun u=>Rx.dot u left%m:=⟨_,Z⟩;have lm:more.length=k:=by rw[Eg,aa,lu]
  have Yj:Rx.In m more:=by rw[Eg];intro x hx;obtain⟨y,_,rfl⟩:=List.mem_map.mp hx;exact⟨Int.emod_nonneg _ J,Int.emod_lt_of_pos _ J⟩
  refine lJ (K:=K) (xs:=bs.map V.ref) more (by rw[lm,aa,lb,lu]) zgU (j6.of Z8) ?_ ?_
  .intro i x H3 hx k9 R kk;obtain⟨a,row,rfl,ha,lE,hh⟩:=mK pb hx;have rl:=lv row (ak lE);exact⟨_,Z,_,Z,a,tl,row,left,N,N+10,Z,j6.of (k9 _ _ (lQ _ _ hh)),j6.of (k9 _ _ hl'),by rw[rl.1,ll],J,rl.2,SD,J,J,fun H4 mi=>⟨_,Z,_,_,Z,Z,(show 0<m by lia),kk _ _ mi (by rw[Eg,af,lE];rfl)⟩⟩
  intro tm H3 k9 _ Z9;have Q0:=k9 _ _ (lQ _ _ h1);have NF:=k9 _ _ hl';have mb:Bd N more:=fun x hx=>by have:=Yj x hx;lia
  refine⟨_,Z,_,Z,r,tl,Z,⟨_,j6.of Q0⟩,⟨_,j6.of NF⟩,?_⟩;obtain⟨oa,Iu⟩:∃oa:List Int,oa=List.zipWith (fun row x=>(x-Rx.dot row more)/m) rows left:=⟨_,Z⟩;have ll':oa.length=k:=by rw[Iu,dS,lr,ll,fS]
  refine n5 (K:=K) (xs:=as.map V.ref) (ys:=left.map V.int) oa (by rw[aa,aa,la,lr,ll]) (by rw[ll',aa,la,lr]) zgU (j6.of Q0) (j6.of NF) ?_ ?_
  .intro i x y H4 pp hx hy mi xz R kk;obtain⟨a,row,rfl,ha,lE,hh⟩:=mK pa hx;obtain⟨v,rfl,hv⟩:=int_at hy;have rl:=lw row (ak lE);have pT:=jR (o:=.tup [.ref a,.int v]) (jU.refl H4) xz;refine⟨pp,_,Z,kQ.of jO,Z,_,_,Z,_,_,Z,Z,?_⟩;exact⟨_,Z,_,Z,_,Z,a,tm,row,more,N,N,Z,j6.of (pT _ _ (mi _ _ (k9 _ _ (lQ _ _ hh)))),j6.of (pT _ _ (mi _ _ Z9)),by rw[rl.1,lm],J,rl.2,mb,J,J,fun H5 mL=>⟨_,_,Z,Z,_,Z,_,_,Z,Z,tD J (show m.natAbs<2^N by lia) N2,kk _ _ (pT.trans mL) (by rw[Iu,bU,lE,hv])⟩⟩
  intro tl2 H4 mi _ Sy;have hr4:=mi _ _ (k9 _ _ IL);have SE:=mi _ _ Z9;refine⟨_,Z,_,Z,tr,tm,Z,⟨_,j6.of hr4⟩,⟨_,j6.of SE⟩,?_⟩;obtain⟨xA,C5⟩:∃xA:List Int,xA=List.zipWith (fun r y=>r+m^(d+j)*y) rests more:=⟨_,Z⟩;have Q1:xA.length=k:=by rw[C5,dS,C3,lm,fS]
  refine n5 (K:=K) (xs:=rests.map V.int) (ys:=more.map V.int) xA (by rw[aa,aa,C3,lm]) (by rw[Q1,aa,C3]) zgU (j6.of hr4) (j6.of SE) ?_ ?_
  .intro i x y H5 pp hx hy mL xz R kk;obtain⟨v1,rfl,hv1⟩:=int_at hx;obtain⟨v2,rfl,hv2⟩:=int_at hy;refine⟨pp,_,Z,kQ.of jO,Z,_,_,Z,_,_,Z,Z,?_⟩;have:=mp (d+j);exact⟨_,Z,_,Z,_,Z,_,_,Z,Z,rQ (N:=N+1) (M:=N) (by rw[dH];lia) (mb v2 (ak hv2)) J J,_,_,Z,Z,kk _ _ (jR (jU.refl _) xz) (by rw[C5,bU,hv1,hv2])⟩
  intro Yk H5 mL _ On;have:=mp (d+j);refine⟨_,Z,_,Z,_,_,Z,Z,rQ (N:=N+1) (M:=N+1) (by rw[dH];lia) (by rw[dH];lia) J J,?_⟩;refine⟨((lQ.trans k9).trans mi).trans mL,Yk,tl2,xA,oa,some (V.int j),some (V.ref tm),?_,On,mL _ _ Sy,Q1,ll',?_⟩
  .rw[show d+(j+1)=d+j+1 from Z,bx];rfl
  .rw[show d+(j+1)=d+j+1 from Z,bx,Iu,C5];exact Rx.HV J (mp (d+j)) lr (fun row h=>(lw row h).1) lu (fun row h=>(lv row h).1) C3 ll ri lif Eg
 .rintro σ H2 ⟨lQ,tr,tl,rests,left,o1,o2,rfl,IL,hl',C3,ll,lif⟩;have Z7:=NC d many lt mn2;have Z6:=Z4 (d+many) rests left C3 lif;have RY:64<=m^(d+many):=by
   rw[show d+many=d+many-1+1 by lia,bx];have:=av (mp (d+many-1)) (show 0<=m by lia);lia
  have grow:m^d<m^(d+many):=by
   rw[eD];have a:m<=m^many:=by
    rw[show many=many-1+1 by lia,bx];have:=av (mp (many-1)) (show 0<=m by lia);lia
   have:=aA (show 2<=m^many by lia) (show 0<=m^d by have:=mp d;lia);have:=mp d;lia
  have ew:=pw (d+many);have Ks:=lif;rw[ew] at Ks;have em:(many:Int)+(many:Int)/2+1=((many+many/2+1:Nat):Int):=J;have hm2:many+many/2+1<=d+many+1:=J;have fnm:∀(b:Int),Rx.fn (rests.map fun x=>Rx.cn (x*b) (m^(d+many)))=fun t=>if t.toNat<k then Rx.cn (Rx.fn rests t*b) (m^(d+many)) else 0:=fun b=>by
   funext t;unfold Rx.fn
   by_cases c:t.toNat<k
   .rw[aD c,Rx.rA J]
   .rw[ao c,Rx.AN zgU]
  refine⟨_,Z,_,Z,tr,rests,m^(d+many),N,Z,IL,J,Z6,RY,N1,N2,Z7.1,fun Hh h2h HH H8=>⟨fun H3 l1 l2 b k9 el fr Hb=>?_,fun t tt H3 b k9 ht qG fr bH=>?_⟩⟩
  .have lt':m^(d+many)<Lm:=by
    rw[Yh,ew];rw[ew] at fr HH H8;exact S.none Ks C3 el fr Hb J HH H8
   refine⟨_,Z,_,Z,_,_,Z,Z,kO O O,_,_,Z,Z,_,_,Z,Z,?_⟩;exact⟨(Lm-m^(d+many)).toNat,J,lQ.trans k9,d+many,many+many/2+1,tr,tl,rests,left,.non,o1,o2,(by rw[<-em];rfl),k9 _ _ IL,k9 _ _ hl',C3,ll,lif,J,hm2,Z,.inl ⟨Z,lt'⟩⟩
  .have So:Hh<=Hh*Hh:=by have:=av (show 1<=Hh by lia) (show 0<=Hh by lia);lia
   have b0:=fr.pos J;have sc0:0<m^(d+many):=J;have key:(∀i:Nat,i<k->(Ld.S k fun t=>Rx.mt rows i t*Rx.fn (rests.map fun x=>Rx.cn (x*b) (m^(d+many))) t)=b*Rx.fn goal i)↔∀i:Nat,i<k->(Ld.S k fun t=>Rx.mt rows i t*Rx.cn (Rx.fn rests t*b) (p^(E'*(d+many))))=b*Rx.fn goal i:=by
    have e:∀i:Nat,(Ld.S k fun t=>Rx.mt rows i t*Rx.fn (rests.map fun x=>Rx.cn (x*b) (m^(d+many))) t)=Ld.S k fun t=>Rx.mt rows i t*Rx.cn (Rx.fn rests t*b) (p^(E'*(d+many))):=fun i=>Ld.jT fun t ht=>by
     rw[fnm,<-ew];dsimp only;rw[aD J]
    exact⟨fun h i hi=>by rw[<-e];exact h i hi,fun h i hi=>by rw[e];exact h i hi⟩
   refine⟨_,Z,_,Z,_,_,Z,Z,kO O O,_,_,Z,Z,_,_,Z,Z,?_⟩;refine⟨(Lm-m^(d+many)).toNat,J,lQ.trans k9,d+many,many+many/2+1,tr,tl,rests,left,.ref t,o1,o2,(by rw[<-em];rfl),k9 _ _ IL,k9 _ _ hl',C3,ll,lif,J,hm2,Z,.inr ⟨t,tt,_,b,Z,ht,qG,by rw[aa,C3],fun x hx=>?_,J,J,fun sol=>?_,fun nsol=>?_⟩⟩
   .obtain⟨y,_,rfl⟩:=List.mem_map.mp hx;have r0:=aC (y*b) (show m^(d+many)≠0 by lia);have r1:=az (y*b) sc0;unfold Rx.cn;split<;>lia
   .have Yl:=key.mp sol;rw[ew] at fr HH;exact S.bot Ks C3 fr bH J HH Yl
   .rw[Yh,ew];rw[ew] at fr HH H8;exact S.not Ks C3 fr J HH H8 fun z=>nsol (key.mpr z)
theorem Jz {X:Cx}{K:PySem.W.Frag}{e:Expr}{f:Str}{pos:Pos}{ta:TE}(h:X.K=K)(he:PE X e ta)(hb:attributeBase e f X.env (eval e X.env)=eval e X.env):PE X (.Attribute e f pos) (P9 K ta f):=by subst h;exact mF he hb
theorem oz (f:Str)(v:V):∀{fs:List (Str×V)}{n:Nat},fs.length<=n->(mW f v fs).length<=n+1
 | [],n,_=>by show 1<=n+1;lia
 | (g,x)::r,n,h=>by
  show (if g=f then (g,v)::r else (g,x)::mW f v r).length<=n+1
  rw[bj] at h;split
  .rw[bj];lia
  .rw[bj];have:=oz f v (fs:=r) (n:=n-1) J;lia
def F1 (w:Int):List (Str×V):=mW "size" (.int w) []
theorem GJ (w:Int):(F1 w).length<=1:=by
 unfold F1;exact oz _ _ (aH 0)
def F2 (w:Int)(p:Int):List (Str×V):=mW "prime" (.int p) (F1 w)
theorem G5 (w:Int)(p:Int):(F2 w p).length<=2:=by
 unfold F2;exact oz _ _ (GJ w)
def F3 (w:Int)(p:Int)(fo:Addr):List (Str×V):=mW "found" (.ref fo) (F2 w p)
theorem HX (w:Int)(p:Int)(fo:Addr):(F3 w p fo).length<=3:=by
 unfold F3;exact oz _ _ (G5 w p)
def F4 (w:Int)(p:Int)(fo:Addr)(ch:Addr):List (Str×V):=mW "chosen" (.ref ch) (F3 w p fo)
theorem FO (w:Int)(p:Int)(fo:Addr)(ch:Addr):(F4 w p fo ch).length<=4:=by
 unfold F4;exact oz _ _ (HX w p fo)
def F5 (w:Int)(p:Int)(fo:Addr)(ch:Addr)(co:Addr):List (Str×V):=mW "columns" (.ref co) (F4 w p fo ch)
theorem GT (w:Int)(p:Int)(fo:Addr)(ch:Addr)(co:Addr):(F5 w p fo ch co).length<=5:=by
 unfold F5;exact oz _ _ (FO w p fo ch)
def F6 (w:Int)(p:Int)(fo:Addr)(ch:Addr)(co:Addr)(ro:Addr):List (Str×V):=mW "rows" (.ref ro) (F5 w p fo ch co)
theorem Gv (w:Int)(p:Int)(fo:Addr)(ch:Addr)(co:Addr)(ro:Addr):(F6 w p fo ch co ro).length<=6:=by
 unfold F6;exact oz _ _ (GT w p fo ch co)
def F7 (w:Int)(p:Int)(fo:Addr)(ch:Addr)(co:Addr)(ro:Addr)(md:Int):List (Str×V):=mW "modulus" (.int md) (F6 w p fo ch co ro)
theorem MI (w:Int)(p:Int)(fo:Addr)(ch:Addr)(co:Addr)(ro:Addr)(md:Int):(F7 w p fo ch co ro md).length<=7:=by
 unfold F7;exact oz _ _ (Gv w p fo ch co ro)
def F8 (w:Int)(p:Int)(fo:Addr)(ch:Addr)(co:Addr)(ro:Addr)(md:Int)(un:Addr):List (Str×V):=mW "undoing" (.ref un) (F7 w p fo ch co ro md)
theorem HQ (w:Int)(p:Int)(fo:Addr):(F3 w p fo).lookup ("found":Str)=some (.ref fo):=by
 unfold F3;rw[jX,aD Z]
theorem He (w:Int)(p:Int)(fo:Addr)(ch:Addr):(F4 w p fo ch).lookup ("found":Str)=some (.ref fo):=by
 unfold F4;rw[jX,ao L];unfold F3;rw[jX,aD Z]
theorem EX (w:Int)(p:Int)(fo:Addr)(ch:Addr)(co:Addr):(F5 w p fo ch co).lookup ("chosen":Str)=some (.ref ch):=by
 unfold F5;rw[jX,ao L];unfold F4;rw[jX,aD Z]
theorem Ca (w:Int)(p:Int)(fo:Addr)(ch:Addr)(co:Addr):(F5 w p fo ch co).lookup ("columns":Str)=some (.ref co):=by
 unfold F5;rw[jX,aD Z]
theorem Jc (w:Int)(p:Int)(fo:Addr)(ch:Addr)(co:Addr)(ro:Addr)(md:Int):(F7 w p fo ch co ro md).lookup ("rows":Str)=some (.ref ro):=by
 unfold F7;rw[jX,ao L];unfold F6;rw[jX,aD Z]
theorem Cu (w:Int)(p:Int)(fo:Addr)(ch:Addr)(co:Addr)(ro:Addr)(md:Int):(F7 w p fo ch co ro md).lookup ("modulus":Str)=some (.int md):=by
 unfold F7;rw[jX,aD Z]
theorem Jn (w:Int)(p:Int)(fo:Addr)(ch:Addr)(co:Addr)(ro:Addr)(md:Int)(un:Addr):(F8 w p fo ch co ro md un).lookup ("size":Str)=some (.int w):=by
 unfold F8;rw[jX,ao L];unfold F7;rw[jX,ao L];unfold F6;rw[jX,ao L];unfold F5;rw[jX,ao L];unfold F4;rw[jX,ao L];unfold F3;rw[jX,ao L];unfold F2;rw[jX,ao L];unfold F1;rw[jX,aD Z]
theorem GA (w:Int)(p:Int)(fo:Addr)(ch:Addr)(co:Addr)(ro:Addr)(md:Int)(un:Addr):(F8 w p fo ch co ro md un).lookup ("prime":Str)=some (.int p):=by
 unfold F8;rw[jX,ao L];unfold F7;rw[jX,ao L];unfold F6;rw[jX,ao L];unfold F5;rw[jX,ao L];unfold F4;rw[jX,ao L];unfold F3;rw[jX,ao L];unfold F2;rw[jX,aD Z]
theorem Ia (w:Int)(p:Int)(fo:Addr)(ch:Addr)(co:Addr)(ro:Addr)(md:Int)(un:Addr):(F8 w p fo ch co ro md un).lookup ("found":Str)=some (.ref fo):=by
 unfold F8;rw[jX,ao L];unfold F7;rw[jX,ao L];unfold F6;rw[jX,ao L];unfold F5;rw[jX,ao L];unfold F4;rw[jX,ao L];unfold F3;rw[jX,aD Z]
theorem yz (w:Int)(p:Int)(fo:Addr)(ch:Addr)(co:Addr)(ro:Addr)(md:Int)(un:Addr):(F8 w p fo ch co ro md un).lookup ("chosen":Str)=some (.ref ch):=by
 unfold F8;rw[jX,ao L];unfold F7;rw[jX,ao L];unfold F6;rw[jX,ao L];unfold F5;rw[jX,ao L];unfold F4;rw[jX,aD Z]
theorem wn (w:Int)(p:Int)(fo:Addr)(ch:Addr)(co:Addr)(ro:Addr)(md:Int)(un:Addr):(F8 w p fo ch co ro md un).lookup ("columns":Str)=some (.ref co):=by
 unfold F8;rw[jX,ao L];unfold F7;rw[jX,ao L];unfold F6;rw[jX,ao L];unfold F5;rw[jX,aD Z]
theorem DE (w:Int)(p:Int)(fo:Addr)(ch:Addr)(co:Addr)(ro:Addr)(md:Int)(un:Addr):(F8 w p fo ch co ro md un).lookup ("rows":Str)=some (.ref ro):=by
 unfold F8;rw[jX,ao L];unfold F7;rw[jX,ao L];unfold F6;rw[jX,aD Z]
theorem xp (w:Int)(p:Int)(fo:Addr)(ch:Addr)(co:Addr)(ro:Addr)(md:Int)(un:Addr):(F8 w p fo ch co ro md un).lookup ("modulus":Str)=some (.int md):=by
 unfold F8;rw[jX,ao L];unfold F7;rw[jX,aD Z]
theorem wP (w:Int)(p:Int)(fo:Addr)(ch:Addr)(co:Addr)(ro:Addr)(md:Int)(un:Addr):(F8 w p fo ch co ro md un).lookup ("undoing":Str)=some (.ref un):=by
 unfold F8;rw[jX,aD Z]
theorem EO (w:Int)(p:Int)(fo:Addr)(ch:Addr)(co:Addr)(ro:Addr)(md:Int)(un:Addr):(F8 w p fo ch co ro md un).lookup ("missed":Str)=none:=by
 unfold F8;rw[jX,ao L];unfold F7;rw[jX,ao L];unfold F6;rw[jX,ao L];unfold F5;rw[jX,ao L];unfold F4;rw[jX,ao L];unfold F3;rw[jX,ao L];unfold F2;rw[jX,ao L];unfold F1;rw[jX,ao L];rfl
theorem yg (w:Int)(p:Int)(fo:Addr)(ch:Addr)(co:Addr)(ro:Addr)(md:Int)(un:Addr):(F8 w p fo ch co ro md un).lookup ("counts":Str)=none:=by
 unfold F8;rw[jX,ao L];unfold F7;rw[jX,ao L];unfold F6;rw[jX,ao L];unfold F5;rw[jX,ao L];unfold F4;rw[jX,ao L];unfold F3;rw[jX,ao L];unfold F2;rw[jX,ao L];unfold F1;rw[jX,ao L];rfl
theorem w9 (w:Int)(p:Int)(fo:Addr)(ch:Addr)(co:Addr)(ro:Addr)(md:Int)(un:Addr):(F8 w p fo ch co ro md un).lookup ("weights":Str)=none:=by
 unfold F8;rw[jX,ao L];unfold F7;rw[jX,ao L];unfold F6;rw[jX,ao L];unfold F5;rw[jX,ao L];unfold F4;rw[jX,ao L];unfold F3;rw[jX,ao L];unfold F2;rw[jX,ao L];unfold F1;rw[jX,ao L];rfl
structure vX (C:Addr)(H:Hp)(x:Addr)(p:Int)(w:Nat)(steps:List (List Int))(fs:List Rx.Fd)(us:List (List Int)):Prop where
 ex:∃dx fo ch co ro un,H x=some (.ins C dx (F8 w p fo ch co ro (p^16) un))/\rE H fo fs/\H ch=some (.lst ((ni (Rx.numsOf fs)).map V.int))/\H co=some (.lst ((ni (Rx.kC fs)).map V.int))/\lH H ro (Rx.rowsOf steps fs)/\lH H un us
theorem vX.same {C:Addr}{H H':Hp}(sm:jU H H'){x:Addr}{p:Int}{w:Nat}{steps:List (List Int)}{fs:List Rx.Fd}{us:List (List Int)}(h:vX C H x p w steps fs us):vX C H' x p w steps fs us:=by
 obtain⟨dx,fo,ch,co,ro,un,a,b,c,d,e,f⟩:=h.ex;exact⟨dx,fo,ch,co,ro,un,sm _ _ a,b.same sm,sm _ _ c,sm _ _ d,e.same sm,f.same sm⟩
theorem mT {H:Hp}{x b C dx:Addr}{fs:List (Str×V)}{l:List V}{o:HO}(hx:H x=some (.ins C dx fs))(hb:H b=some (.lst l)):upd H x o b=some (.lst l):=(j5 (nV hb hx (by intro z;cases z))).trans hb
theorem qR {H:Hp}{x C dx:Addr}{fs:List (Str×V)}{o:HO}(hx:H x=some (.ins C dx fs))(h:lH H r rows):lH (upd H x o) r rows :=
 let ⟨as,h1,h2⟩:=h;⟨as,mT hx h1,nC h2 fun _ _ z=>mT hx z⟩
theorem rE.N6 {H:Hp}{x C dx:Addr}{fl:List (Str×V)}{o:HO}(hx:H x=some (.ins C dx fl)){fs:List Rx.Fd}(h:rE H r fs):rE (upd H x o) r fs :=
 let ⟨as,h1,h2⟩:=h;⟨as,mT hx h1,nC h2 fun _ _ ⟨b,u,v⟩=>⟨b,(j5 (nV u hx (by intro z;cases z))).trans u,mT hx v⟩⟩
def Kx (x:Addr)(H H':Hp):Prop:=∀b o,H b=some o->b≠x->H' b=some o
theorem Kx.upd {x:Addr}{H H':Hp}(h:Kx x H H')(o:HO):Kx x H (upd H' x o):=fun b u e ne=>by rw[j5 ne];exact h b u e ne
theorem Kx.same {x:Addr}{H H' H'':Hp}(h:Kx x H H')(sm:jU H' H''):Kx x H H'':=fun b u e ne=>sm _ _ (h b u e ne)
structure Lg (p:Int)(w N:Nat)(steps:List (List Int))(fs:List Rx.Fd)(us:List (List Int)):Prop where
 crn:Rx.qI p w steps steps.length fs
 ul:us.length=fs.length
 uw:∀u∈us,u.length=fs.length/\Bd N u
 li:Mx.LI (p^16) fs.length (Rx.mt us) (Rx.mt (Rx.rowsOf steps fs))
theorem yV {p:Int}{w N:Nat}{steps:List (List Int)}{fs:List Rx.Fd}(h:Rx.qI p w steps steps.length fs)(lw:∀x∈steps,x.length=w/\Bd N x):∀row∈Rx.rowsOf steps fs,row.length=fs.length/\Bd N row:=fun row lE=>by
 refine⟨Rx.mj.2 row lE,fun y hy=>?_⟩;unfold Rx.rowsOf at lE;obtain⟨f,hf,rfl⟩:=List.mem_map.mp lE;obtain⟨c,hc,rfl⟩:=List.mem_map.mp hy;have l:=lw _ (Rx.k5 (rows:=steps) (h.lt f hf));exact l.2 _ (Rx.nH (by rw[l.1];exact Rx.n8 h c hc))
inductive Mz (C:Addr)(vs:List V)(H:Hp)(Q:VK)(E_:XK):Prop
 | mk (x s dx:Addr)(steps:List (List Int))(p:Int)(w N:Nat)(_:vs=[.ref x,.ref s,.int w,.int p])(_:H x=some (.ins C dx []))(_:lH H s steps)(_:∀y∈steps,y.length=w/\Bd N y)(_:w<=420)(_:steps.length<=20000)(_:Pt.m9 p)(_:p<2^30)(_:480<=N)(_:N<=9000)(_:∀H' fs us,Kx x H H'->vX C H' x p w steps fs us->Lg p w N steps fs us->Q .non H')
theorem ya (T:Txt K mg CF tL tF tM):Kf P w K mg base 6 CF "Frame" ["self","steps","size","prime"] (Mz CF):=by
 refine T.m_Frame_init.ok sM (fun vs H Q E h=>?_) (fun f cdv A outer s H vs Q E hr h=>?_)
 .obtain⟨_,_,_,_,_,_,_,rfl,_⟩:=h;rfl
 obtain⟨x,s',dx,steps,p,w',N,rfl,hx,hS,lw,w4,ls,hp,IN,N4,N9,q⟩:=h;have p2:=hp.1;have nd:=sM.nd;have p16:p^16<2^N:=by
  have a:=i6 (show p.toNat<2^30 by lia) (show 16≠0 by decide);have b:=bY (n:=2) O N4;have c:((p.toNat^16:Nat):Int)=p^16:=by rw[dQ,show ((p.toNat:Nat):Int)=p by lia]
  have d:(2^30)^16=2^480:=by rw[<-Nat.pow_mul]
  rw[d] at a;have e:=n9 N;have:=bp a b;lia
 refine⟨_,(jK (rJ (pv 0) (pv 2) Z) (jK (rJ (pv 0) (pv 3) Z) (jK (rJ (pv 0) (kf (Ci T) hr (ko (pv 1) (pv 3))) Z) (jK (rJ (pv 0) (nh [] ["number","column","row"] (kG (mF (pv 0) Z)) (fun C s H fp=>⟨(mv Z (kg (oq (i:=0) (show (["number","column","row"]:List Str).Nodup by decide +kernel) Z (Or.inl Z) (Or.inr Z)) (kg (oq (i:=1) (show (["number","column","row"]:List Str).Nodup by decide +kernel) Z (Or.inl Z) (Or.inr Z)) (kg (oq (i:=2) (show (["number","column","row"]:List Str).Nodup by decide +kernel) Z (Or.inl Z) (Or.inr Z)) lO)))),kq,(pv 0)⟩) (hl:=(pP O O O))) Z) (jK (rJ (pv 0) (nh [] ["number","column","row"] (kG (mF (pv 0) Z)) (fun C s H fp=>⟨(mv Z (kg (oq (i:=0) (show (["number","column","row"]:List Str).Nodup by decide +kernel) Z (Or.inl Z) (Or.inr Z)) (kg (oq (i:=1) (show (["number","column","row"]:List Str).Nodup by decide +kernel) Z (Or.inl Z) (Or.inr Z)) (kg (oq (i:=2) (show (["number","column","row"]:List Str).Nodup by decide +kernel) Z (Or.inl Z) (Or.inr Z)) lO)))),kq,(pv 1)⟩) (hl:=(pP O O O))) Z) (jK (rJ (pv 0) (nh [("steps",1),("self",0)] ["number"] (kG (mF (pv 0) Z)) (fun C s H fp=>⟨(nT 2),kq,(kf (u7 T) hr (ko (ki (oC (K:=K) Z) (pv 0) (pv 2)) (Jz (K:=K) Z (pv 1) Z)))⟩)) Z) (jK (rJ (pv 0) (jV qU (pv 3) jM) Z) (jQ (rJ (pv 0) (kf (wN T) hr (ko (mF (pv 0) Z) (mF (pv 0) Z))) Z))))))))),?_⟩
 -- size,prime
 refine⟨_,Z,_,Z,x,CF,dx,[],Z,hx,T.cl_Frame,T.na_size,(by show 0<1000;decide),?_⟩;have k1:Kx x H (upd H x (.ins CF dx (F1 w'))):=Kx.upd (fun b o e _=>e) _;have x1:upd H x (.ins CF dx (F1 w')) x=some (.ins CF dx (F1 w')):=jO;have S1:lH (upd H x (.ins CF dx (F1 w'))) s' steps:=qR hx hS;show _
 have e1:upd H x (.ins CF dx (mW "size" (.int w') []))=upd H x (.ins CF dx (F1 w')):=Z;rw[e1];generalize upd H x (.ins CF dx (F1 w'))=H1 at k1 x1 S1 ⊢;refine⟨_,Z,_,Z,x,CF,dx,_,Z,x1,T.cl_Frame,T.na_prime,b3 (GJ _) O,?_⟩;have k2:Kx x H (upd H1 x (.ins CF dx (F2 w' p))):=k1.upd _;have x2:upd H1 x (.ins CF dx (F2 w' p)) x=some (.ins CF dx (F2 w' p)):=jO;have S2:lH (upd H1 x (.ins CF dx (F2 w' p))) s' steps:=qR x1 S1;have e2:upd H1 x (.ins CF dx (mW "prime" (.int p) (F1 w')))=upd H1 x (.ins CF dx (F2 w' p)):=Z;rw[e2];generalize upd H1 x (.ins CF dx (F2 w' p))=H2 at k2 x2 S2 ⊢
 -- found
 refine⟨_,Z,_,Z,s',steps,p,w',N,Z,S2,fun y hy=>(lw y hy).1,J,ls,hp,by have e:=n9 N;have:=bY (n:=2) O (show 30<=N by lia);lia,J,N9,fun fo H3 fs k9 nfo hfo crn=>?_⟩;have kl:=crn.fr.EM hp;have x3:=k9 _ _ x2;refine⟨_,Z,x,CF,dx,_,Z,x3,T.cl_Frame,T.na_found,b3 (G5 _ _) O,?_⟩;have k4:Kx x H (upd H3 x (.ins CF dx (F3 w' p fo))):=(k2.same k9).upd _;have x4:upd H3 x (.ins CF dx (F3 w' p fo)) x=some (.ins CF dx (F3 w' p fo)):=jO;have S4:lH (upd H3 x (.ins CF dx (F3 w' p fo))) s' steps:=qR x3 (S2.same k9);have f4:rE (upd H3 x (.ins CF dx (F3 w' p fo))) fo fs:=hfo.N6 x3;have e3:upd H3 x (.ins CF dx (mW "found" (.ref fo) (F2 w' p)))=upd H3 x (.ins CF dx (F3 w' p fo)):=Z;rw[e3];generalize upd H3 x (.ins CF dx (F3 w' p fo))=H4 at k4 x4 S4 f4 ⊢
 -- chosen
 obtain⟨as,fa,fp⟩:=id f4;have la:=j7 fp;refine⟨_,Z,x,CF,dx,_,_,Z,x4,T.cl_Frame,T.na_found,HQ _ _ _,fo,Z,⟨_,j6.of fa⟩,?_⟩;refine lJ (K:=K) (xs:=as.map V.ref) (ni (Rx.numsOf fs)) (by rw[aa,aa];unfold Rx.numsOf;rw[List.length_map,la]) (by rw[List.length_map];lia) (j6.of fa) ?_ ?_
 .intro i y H5 hy mL R kk;obtain⟨a,rfl,ha⟩:=oK hy;obtain⟨f,hf,b,ht,hb⟩:=kU fp ha;exact⟨a,_,Z,kQ.of (mL _ _ ht),Z,_,_,Z,_,_,Z,_,_,Z,Z,_,Z,kk _ _ (jU.refl _) (by unfold Rx.numsOf;rw[List.getElem?_map,List.getElem?_map,hf];rfl)⟩
 intro ch H5 mL _ Ao;have x5:=mL _ _ x4;refine⟨_,Z,x,CF,dx,_,Z,x5,T.cl_Frame,T.na_chosen,b3 (HX _ _ _) O,?_⟩;have k6:Kx x H (upd H5 x (.ins CF dx (F4 w' p fo ch))):=(k4.same mL).upd _;have x6:upd H5 x (.ins CF dx (F4 w' p fo ch)) x=some (.ins CF dx (F4 w' p fo ch)):=jO;have S6:lH (upd H5 x (.ins CF dx (F4 w' p fo ch))) s' steps:=qR x5 (S4.same mL);have f6:rE (upd H5 x (.ins CF dx (F4 w' p fo ch))) fo fs:=(f4.same mL).N6 x5;have c6:upd H5 x (.ins CF dx (F4 w' p fo ch)) ch=some (.lst ((ni (Rx.numsOf fs)).map V.int)):=mT x5 Ao;have e4:upd H5 x (.ins CF dx (mW "chosen" (.ref ch) (F3 w' p fo)))=upd H5 x (.ins CF dx (F4 w' p fo ch)):=Z;rw[e4];generalize upd H5 x (.ins CF dx (F4 w' p fo ch))=H6 at k6 x6 S6 f6 c6 ⊢
 -- columns
 obtain⟨as,fa,fp⟩:=id f6;have la:=j7 fp;refine⟨_,Z,x,CF,dx,_,_,Z,x6,T.cl_Frame,T.na_found,He _ _ _ _,fo,Z,⟨_,j6.of fa⟩,?_⟩;refine lJ (K:=K) (xs:=as.map V.ref) (ni (Rx.kC fs)) (by rw[aa,aa];unfold Rx.kC;rw[List.length_map,la]) (by rw[List.length_map];lia) (j6.of fa) ?_ ?_
 .intro i y H7 hy uu R kk;obtain⟨a,rfl,ha⟩:=oK hy;obtain⟨f,hf,b,ht,hb⟩:=kU fp ha;exact⟨a,_,Z,kQ.of (uu _ _ ht),Z,_,_,Z,_,_,Z,_,_,Z,Z,_,Z,kk _ _ (jU.refl _) (by unfold Rx.kC;rw[List.getElem?_map,List.getElem?_map,hf];rfl)⟩
 intro co H7 uu _ Q3;have x7:=uu _ _ x6;refine⟨_,Z,x,CF,dx,_,Z,x7,T.cl_Frame,T.na_columns,b3 (FO _ _ _ _) O,?_⟩;have k8:Kx x H (upd H7 x (.ins CF dx (F5 w' p fo ch co))):=(k6.same uu).upd _;have x8:upd H7 x (.ins CF dx (F5 w' p fo ch co)) x=some (.ins CF dx (F5 w' p fo ch co)):=jO;have S8:lH (upd H7 x (.ins CF dx (F5 w' p fo ch co))) s' steps:=qR x7 (S6.same uu);have f8:rE (upd H7 x (.ins CF dx (F5 w' p fo ch co))) fo fs:=(f6.same uu).N6 x7;have c8:upd H7 x (.ins CF dx (F5 w' p fo ch co)) ch=some (.lst ((ni (Rx.numsOf fs)).map V.int)):=mT x7 (uu _ _ c6);have o8:upd H7 x (.ins CF dx (F5 w' p fo ch co)) co=some (.lst ((ni (Rx.kC fs)).map V.int)):=mT x7 Q3;have e5:upd H7 x (.ins CF dx (mW "columns" (.ref co) (F4 w' p fo ch)))=upd H7 x (.ins CF dx (F5 w' p fo ch co)):=Z;rw[e5];generalize upd H7 x (.ins CF dx (F5 w' p fo ch co))=H8 at k8 x8 S8 f8 c8 o8 ⊢
 -- rows
 obtain⟨ss,sa,sp⟩:=id S8;have lss:=j7 sp;have Kt:(Rx.numsOf fs).length=fs.length:=by unfold Rx.numsOf;rw[List.length_map]
 refine⟨_,Z,x,CF,dx,_,_,Z,x8,T.cl_Frame,T.na_chosen,EX _ _ _ _ _,ch,Z,⟨_,j6.of c8⟩,?_⟩;refine qy (K:=K) (xs:=(ni (Rx.numsOf fs)).map V.int) (Rx.rowsOf steps fs) (by rw[Rx.mj.1,aa,aa,Kt]) (by rw[aa,aa,Kt];lia) (j6.of c8) ?_ ?_
 .intro i y H9 hy vU R kk;obtain⟨n,rfl,hn⟩:=FM hy;have il:i<fs.length:=by rw[<-Kt];exact(aF.mp hn).1
  obtain⟨f,hf⟩:∃f,fs[i]?=some f:=⟨_,List.getElem?_eq_getElem il⟩;have en:n=f.1:=by
   unfold Rx.numsOf at hn;rw[af,hf] at hn;exact(bK hn).symm
  subst en;have fl:=crn.lt f (ak hf);obtain⟨a,Kq,ha⟩:=xl sp (Rx.lZ fl);have ll:=lw _ (Rx.k5 (rows:=steps) fl);refine⟨_,Z,_,Z,s',_,_,_,Z,Z,j6.of (vU _ _ sa),Kq,_,Z,x,CF,dx,_,_,Z,vU _ _ x8,T.cl_Frame,T.na_columns,Ca _ _ _ _ _,a,co,_,Rx.kC fs,Z,j6.of (vU _ _ ha),vU _ _ o8,fun c hc=>by rw[aa,ll.1];exact Rx.n8 crn c hc,by unfold Rx.kC;rw[List.length_map];lia,fun t Aj xC _ Q4=>?_⟩;rw[FP _ _ fun c hc=>by rw[ll.1];exact Rx.n8 crn c hc] at Q4;exact kk Aj t _ xC (by unfold Rx.rowsOf;rw[List.getElem?_map,hf];rfl) Q4
 intro ro H9 vU _ Fq;have x9:=vU _ _ x8;refine⟨_,Z,x,CF,dx,_,Z,x9,T.cl_Frame,T.na_rows,b3 (GT _ _ _ _ _) O,?_⟩;have k10:Kx x H (upd H9 x (.ins CF dx (F6 w' p fo ch co ro))):=(k8.same vU).upd _;have Op:upd H9 x (.ins CF dx (F6 w' p fo ch co ro)) x=some (.ins CF dx (F6 w' p fo ch co ro)):=jO;have f10:rE (upd H9 x (.ins CF dx (F6 w' p fo ch co ro))) fo fs:=(f8.same vU).N6 x9;have Ym:upd H9 x (.ins CF dx (F6 w' p fo ch co ro)) ch=some (.lst ((ni (Rx.numsOf fs)).map V.int)):=mT x9 (vU _ _ c8);have NG:upd H9 x (.ins CF dx (F6 w' p fo ch co ro)) co=some (.lst ((ni (Rx.kC fs)).map V.int)):=mT x9 (vU _ _ o8);have Sq:lH (upd H9 x (.ins CF dx (F6 w' p fo ch co ro))) ro (Rx.rowsOf steps fs):=qR x9 Fq;have e6:upd H9 x (.ins CF dx (mW "rows" (.ref ro) (F5 w' p fo ch co)))=upd H9 x (.ins CF dx (F6 w' p fo ch co ro)):=Z;rw[e6];generalize upd H9 x (.ins CF dx (F6 w' p fo ch co ro))=Aj at k10 Op f10 Ym NG Sq ⊢
 -- modulus
 refine⟨_,Z,_,_,Z,Z,⟨O,O,J⟩,_,Z,x,CF,dx,_,Z,Op,T.cl_Frame,T.na_modulus,b3 (Gv _ _ _ _ _ _) O,?_⟩;have k11:Kx x H (upd Aj x (.ins CF dx (F7 w' p fo ch co ro (p^16)))):=k10.upd _;have SF:upd Aj x (.ins CF dx (F7 w' p fo ch co ro (p^16))) x=some (.ins CF dx (F7 w' p fo ch co ro (p^16))):=jO;have f11:rE (upd Aj x (.ins CF dx (F7 w' p fo ch co ro (p^16)))) fo fs:=f10.N6 Op;have c11:upd Aj x (.ins CF dx (F7 w' p fo ch co ro (p^16))) ch=some (.lst ((ni (Rx.numsOf fs)).map V.int)):=mT Op Ym;have NH:upd Aj x (.ins CF dx (F7 w' p fo ch co ro (p^16))) co=some (.lst ((ni (Rx.kC fs)).map V.int)):=mT Op NG;have Yn:lH (upd Aj x (.ins CF dx (F7 w' p fo ch co ro (p^16)))) ro (Rx.rowsOf steps fs):=qR Op Sq;have e7:upd Aj x (.ins CF dx (mW "modulus" ((fun (i j:Int)=>V.int (i^j.toNat)) p 16) (F6 w' p fo ch co ro)))=upd Aj x (.ins CF dx (F7 w' p fo ch co ro (p^16))):=Z;rw[e7];generalize upd Aj x (.ins CF dx (F7 w' p fo ch co ro (p^16)))=Lk at k11 SF f11 c11 NH Yn ⊢
 -- undoing
 refine⟨_,Z,x,CF,dx,_,_,Z,SF,T.cl_Frame,T.na_rows,Jc _ _ _ _ _ _ _,_,Z,x,CF,dx,_,_,Z,SF,T.cl_Frame,T.na_modulus,Cu _ _ _ _ _ _ _,ro,Rx.rowsOf steps fs,fs.length,16,N,p,Z,Yn,Rx.mj.1,yV crn lw,J,O,hp,p16,J,N9,fun c hc=>crn.ind c hc,fun un Yo us nw _ tR ul uw li=>?_⟩;have Oq:=nw _ _ SF;refine⟨_,Z,x,CF,dx,_,Z,Oq,T.cl_Frame,T.na_undoing,b3 (MI _ _ _ _ _ _ _) O,?_⟩;refine q _ fs us ((k11.same nw).upd _) ⟨dx,fo,ch,co,ro,un,jO,(f11.same nw).N6 Oq,mT Oq (nw _ _ c11),mT Oq (nw _ _ NH),qR Oq (Yn.same nw),qR Oq tR⟩ ⟨crn,ul,uw,li⟩
structure Nb (p:Int)(k D C G B N:Nat):Prop where
 DB:D<=B
 big:k*(D*(Sg.uH k C*G))<=B
 B1:1<=B
 lim:128*((B:Int)*B)*(128*((B:Int)*B))*p^16<=2^N
 GN:G<2^N
 N1:480<=N
 N2:N<=9000
theorem FN {N k:Nat}(lr:rows.length=k)(lw:∀row∈rows,row.length=k/\Bd N row):∀row∈Rx.xH k rows,row.length=k/\Bd N row:=fun row h=>by
 refine⟨(Rx.zR lr).2 row h,fun x hx=>?_⟩;unfold Rx.xH at h;obtain⟨c,hc,rfl⟩:=List.mem_map.mp h;obtain⟨y,hy,rfl⟩:=List.mem_map.mp hx;exact(lw y hy).2 _ (Rx.nH (by rw[(lw y hy).1];exact dZ.mp hc))
inductive Ng (C:Addr)(vs:List V)(H:Hp)(Q:VK)(E_:XK):Prop
 | mk (x s:Addr)(steps:List (List Int))(fs:List Rx.Fd)(us:List (List Int))(goal:List Int)(p:Int)(w N:Nat)(_:vs=[.ref x,.ref s])(_:vX C H x p w steps fs us)(_:Lg p w N steps fs us)(_:Pt.m9 p)(_:p<2^30)(_:480<=N)(_:N<=9000)(_:w<=420)(_:H s=some (.lst (goal.map V.int)))(_:goal.length=w)(_:∀(c:Nat) H',jU H H'->c<w->Lt.g (Rx.pC p fs goal) c≠0->Q (.int c) H')(_:∀H',jU H H'->(∀c,c<w->Lt.g (Rx.pC p fs goal) c=0)->Q .non H')
theorem vB (T:Txt K mg CF tL tF tM):Mf P w K mg base 3 CF "missed" ["self","goal"] (Ng CF):=by
 refine T.m_Frame_missed.ok rp (fun vs H Q E h=>?_) (fun f cdv A outer s H vs Q E hr h=>?_)
 .obtain⟨_,_,_,_,_,_,_,_,_,rfl,_⟩:=h;rfl
 obtain⟨x,s',steps,fs,us,goal,p,w',N,rfl,fa,fo,hp,IN,N4,N9,w4,hg,lg,q1,q2⟩:=h;obtain⟨dx,ff,ch,co,ro,un,hx,hf,_⟩:=fa.ex;have p2:=hp.1;have nd:=rp.nd;refine⟨_,(jQ (j4 (kf (re T) hr (kL (kf (wC T) hr (jL (pv 1) (jL (mF (pv 0) Z) (jL (mF (pv 0) Z) ke)))))))),?_⟩;refine⟨_,Z,_,Z,x,CF,dx,_,_,Z,hx,T.cl_Frame,T.na_found,Ia _ _ _ _ _ _ _ _,_,Z,x,CF,dx,_,_,Z,hx,T.cl_Frame,T.na_prime,GA _ _ _ _ _ _ _ _,s',ff,goal,fs,p,w',30,Z,hg,hf,fo.crn.rok,lg,J,J,IN,O,fun t H1 lU h1=>?_⟩;have ok:=Rx.sY (show 0<p by lia) lg Z fo.crn.rok;refine⟨t,_,Z,h1,J,fun c H2 lQ hc nz=>q1 c H2 (lU.trans lQ) J nz,fun H2 lQ z=>q2 H2 (lU.trans lQ) fun c hc=>z c J⟩
inductive ON (C:Addr)(vs:List V)(H:Hp)(Q:VK)(E_:XK):Prop
 | mk (x s:Addr)(steps:List (List Int))(fs:List Rx.Fd)(us:List (List Int))(goal:List Int)(p:Int)(w N D Cc G B:Nat)(_:vs=[.ref x,.ref s])(_:vX C H x p w steps fs us)(_:Lg p w N steps fs us)(_:Rx.xM p w steps fs us D Cc)(_:Nb p fs.length D Cc G B N)(_:∀y∈steps,y.length=w/\Bd N y)(_:w<=420)(_:1000<=p)(_:H s=some (.lst (goal.map V.int)))(_:goal.length=w)(_:∀c,c<w->(Lt.g goal c).natAbs<=G)(_:∀t tt H' tops b,jU H H'->H' t=some (.tup [.ref tt,.int b])->H' tt=some (.lst (tops.map V.int))->tops.length=fs.length->1<=b->b∣(D:Int)->b<2^N->Bd N tops->(∀i:Nat,i<fs.length->(Ld.S fs.length fun t=>Rx.st steps (Rx.nm fs t.toNat) (Rx.cl fs i)*Rx.fn tops t)=b*Lt.g goal (Rx.cl fs i))->Q (.ref t) H')
theorem RY {p:Int}(p2:1000<=p):64<=p^16:=by
 rw[bx];have:1<=p^15:=fO J;have:=av this (show 0<=p by lia);lia
theorem rh (T:Txt K mg CF tL tF tM):Mf P w K mg base 7 CF "counts" ["self","goal"] (ON CF):=by
 refine T.m_Frame_counts.ok rq (fun vs H Q E h=>?_) (fun f cdv A outer s H vs Q E hr h=>?_)
 .obtain⟨_,_,_,_,_,_,_,_,_,_,_,_,_,rfl,_⟩:=h;rfl
 obtain⟨x,s',steps,fs,us,goal,p,w',N,D,Cc,G,B,rfl,fa,fo,fm,nb,lw,w4,xD,hg,lg,gb,q⟩:=h;obtain⟨dx,ff,ch,co,ro,un,hx,hf,Ao,Q3,Fq,tR⟩:=fa.ex;have nd:=rq.nd;have kl:=fo.crn.fr.EM fm.hp;have rb:=yV fo.crn lw;have N1:=nb.N1;have N2:=nb.N2;refine⟨_,(jQ (j4 (kf (yu T) hr (jL (kf (v4 T) hr (kL (mF (pv 0) Z))) (jL (kf (v4 T) hr (kL (mF (pv 0) Z))) (jL (mF (pv 0) Z) (jL (kf (u7 T) hr (ko (pv 1) (mF (pv 0) Z))) ke))))))),?_⟩;refine⟨_,Z,x,CF,dx,_,_,Z,hx,T.cl_Frame,T.na_rows,DE _ _ _ _ _ _ _ _,ro,Rx.rowsOf steps fs,fs.length,Z,Fq,Rx.mj.1,Rx.mj.2,J,fun r1 H1 lU _ h1=>?_⟩;refine⟨_,Z,x,CF,dx,_,_,Z,lU _ _ hx,T.cl_Frame,T.na_undoing,wP _ _ _ _ _ _ _ _,un,us,fs.length,Z,tR.same lU,fo.ul,fun u hu=>(fo.uw u hu).1,J,fun u1 H2 lQ _ h2=>?_⟩;have nw:=lU.trans lQ;refine⟨_,Z,x,CF,dx,_,_,Z,nw _ _ hx,T.cl_Frame,T.na_modulus,xp _ _ _ _ _ _ _ _,_,Z,_,Z,x,CF,dx,_,_,Z,nw _ _ hx,T.cl_Frame,T.na_columns,wn _ _ _ _ _ _ _ _,s',co,_,Rx.kC fs,Z,j6.of (nw _ _ hg),nw _ _ Q3,fun c hc=>by rw[aa,lg];exact Rx.n8 fo.crn c hc,by unfold Rx.kC;rw[List.length_map];lia,fun g1 H3 k9 _ h3=>?_⟩;rw[FP _ _ fun c hc=>by rw[lg];exact Rx.n8 fo.crn c hc] at h3;have lc:(Rx.kC fs).length=fs.length:=by unfold Rx.kC;rw[List.length_map]
 have gat:∀i:Nat,i<fs.length->Rx.fn ((Rx.kC fs).map fun c=>Lt.g goal c) i=Lt.g goal (Rx.cl fs i):=fun i hi=>by
  unfold Rx.fn;rw[ae];exact Rx.lB (by rw[af,Rx.Ad hi];rfl)
 have gB:∀i:Nat,i<fs.length->(Rx.fn ((Rx.kC fs).map fun c=>Lt.g goal c) i).natAbs<=G:=fun i hi=>by
  rw[gat i hi];exact gb _ (fo.crn.cor.colw i hi)
 have fl:=Rx.zR (k:=fs.length) (rows:=Rx.rowsOf steps fs) Rx.mj.1;have fu:=Rx.zR (k:=fs.length) (rows:=us) fo.ul;refine⟨r1,u1,g1,Rx.xH fs.length (Rx.rowsOf steps fs),Rx.xH fs.length us,_,fs.length,16,N,D,B,p,Z,h1.same (lQ.trans k9),h2.same k9,h3,fl.1,FN Rx.mj.1 rb,fu.1,FN fo.ul fo.uw,by rw[aa,lc],fun y hy=>?_,J,J,N2,RY xD,fm.sc1 gB nb.DB nb.big,fm.ri1,nb.B1,nb.lim,fun t tt H4 tops b mi ht qG lt b1 bD bN bt sol=>?_⟩
 .obtain⟨c,hc,rfl⟩:=List.mem_map.mp hy;have:=gb c (Rx.n8 fo.crn c hc);have:=nb.GN;lia
 .refine q t tt H4 tops b ((nw.trans k9).trans mi) ht qG lt b1 bD bN bt fun i hi=>?_;rw[<-gat i hi,<-sol i hi];refine Ld.jT fun j hj=>?_;rw[Rx.uI Rx.mj.1 hi hj,Rx.ur hj hi,ae]
inductive OT (C:Addr)(vs:List V)(H:Hp)(Q:VK)(E_:XK):Prop
 | mk (x s:Addr)(steps:List (List Int))(fs:List Rx.Fd)(us:List (List Int))(am:List Int)(p:Int)(w N D Cc G B:Nat)(_:vs=[.ref x,.ref s])(_:vX C H x p w steps fs us)(_:Lg p w N steps fs us)(_:Rx.xM p w steps fs us D Cc)(_:Nb p fs.length D Cc G B N)(_:∀y∈steps,y.length=w/\Bd N y)(_:w<=420)(_:1000<=p)(_:H s=some (.lst (am.map V.int)))(_:am.length=fs.length)(_:∀c,c<fs.length->(Lt.g am c).natAbs<=G)(_:∀t tt H' tops b,jU H H'->H' t=some (.tup [.ref tt,.int b])->H' tt=some (.lst ((Rx.uT w (Rx.kC fs) tops).map V.int))->H tt=none->tops.length=fs.length->1<=b->b∣(D:Int)->b<2^N->Bd N tops->(∀i:Nat,i<fs.length->(Ld.S fs.length fun t=>Rx.st steps (Rx.nm fs i) (Rx.cl fs t.toNat)*Rx.fn tops t)=b*Lt.g am i)->Q (.ref t) H')
theorem qo (T:Txt K mg CF tL tF tM):Mf P w K mg base 7 CF "weights" ["self","amounts"] (OT CF):=by
 refine T.m_Frame_weights.ok qC (fun vs H Q E h=>?_) (fun f cdv A outer s H vs Q E hr h=>?_)
 .obtain⟨_,_,_,_,_,_,_,_,_,_,_,_,_,rfl,_⟩:=h;rfl
 obtain⟨x,s',steps,fs,us,am,p,w',N,D,Cc,G,B,rfl,fa,fo,fm,nb,lw,w4,xD,hg,lg,gb,q⟩:=h;obtain⟨dx,ff,ch,co,ro,un,hx,hf,Ao,Q3,Fq,tR⟩:=fa.ex;have nd:=qC.nd;have kl:=fo.crn.fr.EM fm.hp;have rb:=yV fo.crn lw;have N1:=nb.N1;have N2:=nb.N2;have GN:=nb.GN;have lc:(Rx.kC fs).length=fs.length:=by unfold Rx.kC;rw[List.length_map]
 have gB:∀i:Nat,i<fs.length->(Rx.fn am i).natAbs<=G:=fun i hi=>by
  unfold Rx.fn;rw[ae];exact gb i hi
 refine⟨_,(jK (kh 2 nd (kf (yu T) hr (jL (mF (pv 0) Z) (jL (mF (pv 0) Z) (jL (mF (pv 0) Z) (jL (pv 1) ke)))))) (jQ (j4 (lL (ko (kf (yh T) hr (jL (mF (pv 0) Z) (jL (mF (pv 0) Z) (jL (ki j9 (pv 2) jM) ke)))) (ki j9 (pv 2) jM)))))),?_⟩;refine⟨_,Z,x,CF,dx,_,_,Z,hx,T.cl_Frame,T.na_rows,DE _ _ _ _ _ _ _ _,_,Z,x,CF,dx,_,_,Z,hx,T.cl_Frame,T.na_undoing,wP _ _ _ _ _ _ _ _,_,Z,x,CF,dx,_,_,Z,hx,T.cl_Frame,T.na_modulus,xp _ _ _ _ _ _ _ _,_,Z,ro,un,s',Rx.rowsOf steps fs,us,am,fs.length,16,N,D,B,p,Z,Fq,tR,hg,Rx.mj.1,rb,fo.ul,fo.uw,lg,fun y hy=>?_,J,J,N2,RY xD,fm.sc2 gB nb.DB nb.big,fm.ri2,nb.B1,nb.lim,fun t tt H1 tops b lU ht qG lt b1 bD bN bt sol=>?_⟩
 .obtain⟨c,hc,rfl⟩:=Rx.sO hy;have:=gb c J;lia
 have i0:me [V.ref tt,V.int b] 0=some (.ref tt):=Z;have i1:me [V.ref tt,V.int b] 1=some (.int b):=Z;refine⟨_,Z,x,CF,dx,_,_,Z,lU _ _ hx,T.cl_Frame,T.na_size,Jn _ _ _ _ _ _ _ _,_,Z,x,CF,dx,_,_,Z,lU _ _ hx,T.cl_Frame,T.na_columns,wn _ _ _ _ _ _ _ _,_,Z,t,_,_,_,Z,Z,kQ.of ht,i0,w',co,tt,Rx.kC fs,tops,Z,lU _ _ Q3,qG,by rw[lc,lt],Rx.n8 fo.crn,J,fun sp H2 lQ nsp h2=>?_⟩;refine⟨_,Z,t,_,_,_,Z,Z,kQ.of (lQ _ _ ht),i1,jP,fun rt hrt=>?_⟩;refine q rt sp _ tops b (jR (lU.trans lQ) hrt) jO (jR (jU.refl _) hrt _ _ h2) (lU.free nsp) lt b1 bD bN bt fun i hi=>?_;have:=sol i hi;unfold Rx.fn at this;rw[ae] at this;rw[<-this];refine Ld.jT fun j hj=>?_;rw[Rx.ur hi hj,ae];rfl
inductive OC (vs:List V)(H:Hp)(Q:VK)(E_:XK):Prop
 | mk (a b:Int)(_:vs=[.int a,.int b])(_:Q (.int (Eh.G a b)) H)
theorem Ch (T:Txt K mg CF tL tF tM):Df P w K mg base 1 "divisor" ["one","other"] OC:=by
 refine kR T.d_divisor BW fun f cdv A outer s H vs Q E hr nd h=>?_;obtain⟨a,b,rfl,q⟩:=h;refine⟨_,(jK (kh 2 nd (kP px jI T.b_abs L2.tu (kL (pv 0)))) (jK (kh 3 nd (kP px jI T.b_abs L2.tu (kL (pv 1)))) (jK (mP aJ (lI ox (pv 3) jM) (jK (kh 4 nd (jV kJ (pv 2) (pv 3))) (jK (kh 2 nd (pv 3)) (jQ (kh 3 nd (pv 4)))))) (jQ (j4 (pv 2)))))),?_⟩;refine⟨_,Z,_,Z,?_⟩;refine⟨_,Z,_,Z,?_⟩;have st:=Eh.start a b;refine⟨fun m σ H'=>H'=H/\∃(g s:Int)(lv:Option V),σ=[some (.int a),some (.int b),some (.int g),some (.int s),lv]/\0<=g/\0<=s/\Eh.G g s=Eh.G a b/\m=s.toNat,
  ⟨_,Z,Eh.ab a,Eh.ab b,none,Z,st.1,st.2.1,st.2.2,Z⟩,?_⟩
 rintro m σ H' ⟨rfl,g,s,lv,rfl,g0,s0,e,rfl⟩;refine⟨_,Z,Z,_,Z,?_⟩;refine mZ (fun c=>?_) (fun c=>?_)
 .have ne:=Mi c;have t:=Eh.P5 g0 s0 e ne;refine⟨_,fun _ _ h=>h,?_⟩;refine⟨_,Z,_,Z,_,_,Z,Z,(show 0<s by omega),?_⟩;refine⟨_,Z,?_⟩;refine⟨_,Z,?_⟩;exact⟨(g%s).toNat,t.2.2,Z,_,_,_,Z,s0,t.1,t.2.1,Z⟩
 .have z:=Ic c;refine⟨_,Z,?_⟩;rw[Eh.out g0 e z];exact q
inductive JF (vs:List V)(H:Hp)(Q:VK)(E_:XK):Prop
 | mk (a b:Int)(N:Nat)(_:vs=[.int a,.int b])(_:1<=a)(_:1<=b)(_:a<2^N)(_:b<2^N)(_:N<=9000)(_:∀j:Int,1<=j->a∣j->b∣j->(∀D:Int,a∣D->b∣D->j∣D)->Q (.int j) H)
theorem Hy (T:Txt K mg CF tL tF tM):Df P w K mg base 2 "joint" ["one","other"] JF:=by
 refine kR T.d_joint GS fun f cdv A outer s H vs Q E hr nd h=>?_;obtain⟨a,b,N,rfl,a1,b1,aN,bN,N2,q⟩:=h;have eN:=n9 N;obtain⟨G1,Ga,j1,d1,d2,al⟩:=Rx.Mr a1 b1 (G:=Eh.G a b) Z;have q0:=cR (show 0<=a by lia) (show 0<=Eh.G a b by lia);have q1:=b8 (Eh.G a b) (show 0<=a by lia);refine⟨_,(jQ (j4 (jV ks (jV ky (pv 0) (kf (Ch T) hr (ko (pv 0) (pv 1)))) (pv 1)))),?_⟩;refine⟨_,Z,_,Z,_,Z,_,_,Z,_,_,Z,Z,tD J (show (Eh.G a b).natAbs<2^N by lia) N2,_,Z,_,_,Z,Z,rQ (N:=N) (M:=N) J J J J,?_⟩;exact q _ j1 d1 d2 al
inductive O8 (vs:List V)(H:Hp)(Q:VK)(E_:XK):Prop
 | mk (r s:Addr)(one other:List Int)(a b m:Int)(N:Nat)(_:vs=[.ref r,.int a,.ref s,.int b,.int m])(_:H r=some (.lst (one.map V.int)))(_:H s=some (.lst (other.map V.int)))(_:one.length=other.length)(_:one.length<=20000)(_:0<m)(_:a.natAbs<2^N)(_:b.natAbs<2^N)(_:Bd N one)(_:Bd N other)(_:N<=1000000)(_:∀t H',jU H H'->H t=none->H' t=some (.lst ((Lt.mix one a other b m).map V.int))->Q (.ref t) H')
theorem AJ (T:Txt K mg CF tL tF tM):Df P w K mg base 1 "mixed" ["one","many","other","more","modulus"] O8:=by
 refine kR T.d_mixed Gu fun f cdv A outer s H vs Q E hr nd h=>?_;obtain⟨r,s',one,other,a,b,m,N,rfl,h1,h2,l,lz,m0,aN,bN,b1,b2,N1,q⟩:=h;refine⟨_,(jQ (j4 (nh [("modulus",4),("many",1),("more",3)] ["number","beyond"] (m7 jI T.b_zip (ko (pv 0) (pv 2))) (fun C s H fp=>⟨(sJ 3 4),kq,(jV kJ (jV kM (jV ks (pv 3) (pv 1)) (jV ks (pv 4) (pv 2))) (pv 0))⟩)))),?_⟩;refine⟨_,Z,_,Z,r,s',Z,⟨_,j6.of h1⟩,⟨_,j6.of h2⟩,?_⟩;refine n5 (K:=K) (xs:=one.map V.int) (ys:=other.map V.int) (Lt.mix one a other b m) (by rw[aa,aa,l]) (by rw[Lt.ui Z l.symm,aa]) (by rw[aa];exact lz) (j6.of h1) (j6.of h2) ?_ fun D H2 sm n hD=>q D H2 sm n hD;intro i x y H2 p hx hy sm hp R k;obtain⟨u,rfl,hu⟩:=int_at hx;obtain⟨v,rfl,hv⟩:=int_at hy;refine⟨p,_,Z,kQ.of jO,Z,_,_,Z,_,_,Z,Z,?_⟩;refine⟨_,Z,_,Z,_,_,Z,Z,rQ (b1 u (ak hu)) aN N1 N1,_,Z,_,Z,_,_,Z,Z,rQ (b2 v (ak hv)) bN N1 N1,_,_,Z,Z,_,Z,_,_,Z,Z,m0,?_⟩;exact k _ _ (jR (jU.refl _) hp) (by unfold Lt.mix;rw[List.getElem?_zipWith,hu,hv])
theorem Dv {H:Hp}{zgS a:Addr}(hO:H zgS=some (.lst (as.map V.ref)))(pa:Paired (fun a (x:List Int)=>H a=some (.lst (x.map V.int))) as rows)(ha:H a=some (.lst (l.map V.int)))(nl:l≠[]):lH (upd H zgS (.lst (as.map V.ref++[.ref a]))) zgS (rows++[l]):=by
 have ne1:∀(b:Addr)(x:List Int),H b=some (.lst (x.map V.int))->(as≠[]\/x≠[])->b≠zgS:=fun b x hb o=>nV hb hO fun z=>by
  injection z with z;cases as with
  | nil=>cases x with
   | nil=>rcases o with o | o<;>exact o rfl
   | cons y ys=>cases z
  | cons a0 Sk=>cases x with
   | nil=>cases z
   | cons y ys=>injection z with z1;cases z1
 have go:∀{sH:List Addr}{xy:List (List Int)}{o:HO},(sH≠[]->as≠[])->Paired (fun a (x:List Int)=>H a=some (.lst (x.map V.int))) sH xy->Paired (fun a (x:List Int)=>upd H zgS o a=some (.lst (x.map V.int))) sH xy:=fun {sH xy o} im p=>by
  induction p with
  | nil=>exact .nil
  | cons h _ ih =>
   have nn:=im jH;exact .cons ((j5 (ne1 _ _ h (.inl nn))).trans h) (ih fun _=>nn)
 exact⟨as++[a],by rw[jO,aO];rfl,L2.Paired.Cs (go id pa) (.cons ((j5 (ne1 _ _ ha (.inr nl))).trans ha) .nil)⟩
theorem Aw {N:Nat}(mN:m<2^N)(h:Rx.Up m l):Bd N l:=fun x hx=>by
 have:=h x hx;have e:=n9 N;lia
inductive OG (vs:List V)(H:Hp)(Q:VK)(E_:XK):Prop
 | mk (r s:Addr)(ls:List (List Int))(row:List Int)(m:Int)(K N:Nat)(_:vs=[.ref r,.ref s,.int m])(_:lH H r ls)(_:H s=some (.lst (row.map V.int)))(_:Lt.BG m K 0 ls)(_:row.length=K)(_:K<=20000)(_:ls.length<=K)(_:∀l∈ls,Rx.Up m l)(_:1<=m)(_:m<2^N)(_:1<=N)(_:N<=9000)(_:∀t H' ls',jU H H'->H t=none->lH H' t ls'->Lt.Ent m 0 ls (row.map fun x=>x%m) ls'->Q (.ref t) H')
theorem BB (T:Txt K mg CF tL tF tM):Df P w K mg base 4 "entered" ["leads","row","modulus"] OG:=by
 refine kR T.d_entered CQ fun f cdv A outer s H vs Q E hr nd h=>?_;obtain⟨r,s',ls,row,m,K',N,rfl,⟨as,h1,pa⟩,h2,Cp,lr,Kz,lK,up,m1,mN,N1,N2,q⟩:=h;have la:=j7 pa;have eN:=n9 N;refine⟨_,(jK (kh 3 nd (lR ke)) (jK (tj 4 [("modulus",2)] ["number"] nd (kG (pv 1)) (fun C s H fp=>⟨(nT 1),kq,(jV kJ (pv 1) (pv 0))⟩)) (jK (kZ aJ Z (oQ jI T.b_enumerate (kL (pv 0))) (mv Z (kg (lX 5 nd) (kg (lX 6 nd) lO))) (jQ (kY (lI nS (ki kN (pv 4) (pv 5)) jM) (jQ (mR (t6 cM cD cF mS (pv 3) (kL (pv 6))))) (jK (kh 7 nd (kf (uB T) hr (jL (ki kN (pv 6) (pv 5)) (jL (ki kN (pv 4) (pv 5)) (jL jM ke))))) (jK (kh 8 nd (jV ky (jV mw (ki j9 (pv 7) jM) (jV ks (ki j9 (pv 7) jM) (ki kN (pv 4) (pv 5)))) (ki kN (pv 6) (pv 5)))) (jK (mR (t6 cM cD cF mS (pv 3) (kL (kf (AJ T) hr (jL (pv 6) (jL (pv 8) (jL (pv 4) (jL (ki j9 (pv 7) jM) (jL (pv 2) ke))))))))) (jQ (kh 4 nd (kf (AJ T) hr (jL (pv 4) (jL (jV ky (ki kN (pv 6) (pv 5)) (ki j9 (pv 7) jM)) (jL (pv 6) (jL (rM pf (jV ky (ki kN (pv 4) (pv 5)) (ki j9 (pv 7) jM))) (jL (pv 2) ke)))))))))))))) (jQ (j4 (pv 3)))))),?_⟩;refine⟨nF O,fun zgS hO=>?_⟩;have Ku:jU H (upd H zgS (.lst [])):=jR (jU.refl _) hO;refine⟨_,Z,s',Z,⟨_,j6.of (Ku _ _ h2)⟩,?_⟩;refine lJ (K:=K) (xs:=row.map V.int) (row.map fun x=>x%m) zgX zgU (j6.of (Ku _ _ h2)) ?_ ?_
 .intro i x H2 hx sm R k;obtain⟨u,rfl,hu⟩:=int_at hx;exact⟨_,Z,_,Z,_,_,Z,Z,(show 0<m by lia),k _ _ (jU.refl _) (by rw[af,hu];rfl)⟩
 intro t0 H0 qZ _ Kl;have Q5:H0 zgS=some (.lst (([]:List Addr).map V.ref)):=qZ _ _ jO;have Kr:=Ku.trans qZ;have lf0:Lt.Lf m K' 0 (row.map fun x=>x%m):=⟨by rw[aa,lr],fun i hi=>absurd hi (bI _),fun i=>(Rx.In.mod (show 0<m by lia) row fun x=>x).g J i⟩;refine⟨_,Z,r,Z,⟨_,j6.of (Kr _ _ h1)⟩,pH (K:=K) (xs:=as.map V.ref) (fun i σ H2=>jU H H2/\∃(tl:Addr)(left:List Int)(bs:List Addr)(outs:List (List Int))(o1 o2 o3 o4:Option V),σ=[some (.ref r),some (.ref s'),some (.int m),some (.ref zgS),some (.ref tl),o1,o2,o3,o4]/\H2 tl=some (.lst (left.map V.int))/\H2 zgS=some (.lst (bs.map V.ref))/\Paired (fun a (x:List Int)=>H2 a=some (.lst (x.map V.int))) bs outs/\outs.length=i/\Lt.BG m K' i (ls.drop i)/\Lt.Lf m K' i left/\∀ls',Lt.Ent m i (ls.drop i) left ls'->Lt.Ent m 0 ls (row.map fun x=>x%m) (outs++ls'))
  ⟨Kr,t0,_,[],[],none,none,none,none,Z,Kl,Q5,.nil,Z,Cp,lf0,fun ls' e=>e⟩ (fun i σ H2 _ z=>z.1.seq (j6.of h1)) ?_ ?_⟩
 .rintro i x σ H2 pp hx ⟨sm,tl,left,bs,outs,o1,o2,o3,o4,rfl,hl,Os,pb,lo,tr,lf,go⟩ xz;obtain⟨a,l,rfl,ha,pK,hh⟩:=mK pa hx;have il:i<ls.length:=(aF.mp pK).1;have ed:ls.drop i=l::ls.drop (i+1):=by
   rw[gh il];congr 1;rw[ax il] at pK;exact bK pK
  rw[ed] at tr go;obtain⟨⟨ll,lz,l1,ld⟩,tr'⟩:=tr;have Ou:=up l (ak pK);have lm:=Ou _ (Rx.nH (l:=l) (i:=i) J);have AI:=lf.AI i;have pT:=jR (o:=.tup [.int (i:Nat),.ref a]) (jU.refl H2) xz;have Fs:=pT _ _ hl;have Kv:=pT _ _ (sm _ _ hh);have Q6:=pT _ _ Os;have pb1:=kT pT pb;have Yp:l≠[]:=fun z=>by rw[z] at ll;simp at ll;lia
  have fl:left.length=K':=lf.len;have SD:Bd N left:=fun y hy=>by
   obtain⟨j,hj,e⟩:=Rx.sO hy;have:=lf.AI j;lia
  have cg:me (left.map V.int) (i:Int)=some (.int (Lt.g left i)):=lP zgV;have cl:me (l.map V.int) (i:Int)=some (.int (Lt.g l i)):=lP zgV;have lob:bs.length=i:=by rw[j7 pb,lo]
  refine⟨pp,_,Z,kQ.of jO,Z,_,_,Z,_,_,Z,Z,?_⟩;refine⟨_,Z,_,Z,tl,_,_,_,Z,Z,j6.of Fs,cg,Z,_,Z,mZ (fun c=>?_) (fun c=>?_)⟩
  .have z:=uC c;refine⟨_,Z,.inl ⟨Z,_,j6.of Q6⟩,_,Z,zgS,_,_,Z,Z,Q6,by rw[aa,lob];exact mH J,?_⟩;obtain⟨Yq,e1,e2⟩:=Dv Q6 pb1 Kv Yp;refine⟨kK (sm.trans pT) hO,tl,left,Yq,outs++[l],_,_,_,_,Z,(j5 (nV Fs Q6 fun zz=>?_)).trans Fs,e1,e2,by rw[aI,lo];rfl,tr',lf.next z,fun ls' e=>?_⟩
   .injection zz with zz;cases left with
    | nil=>simp at fl;lia
    | cons y ys=>cases bs with
     | nil=>cases zz
     | cons b0 bs0=>injection zz with z1;cases z1
   .rw[gk];exact go _ (.skip z e)
  .have nz:=wF c;refine⟨_,Z,_,Z,a,_,_,_,Z,Z,j6.of Kv,cl,_,Z,_,Z,tl,_,_,_,Z,Z,j6.of Fs,cg,Lt.g l i,Lt.g left i,0,N,Z,l1,AI.1,dY 0,N1,N2,J,J,fun tt H3 r0 c0 r1 c1 k9 ht S p0 bz _ cb=>?_⟩;have z1:r1=0:=A2 J;have dv:=S.dvd z1;rw[z1] at S;have bz':=Rx.TF S l1;have i0:me [V.int r0,V.int c0,V.int r1,V.int c1] 0=some (.int r0):=Z;have i1:me [V.int r0,V.int c0,V.int r1,V.int c1] 1=some (.int c0):=Z;have r0l:=aU (show 0<Lt.g l i by lia) dv.1;have NF:=k9 _ _ Fs;have SG:=k9 _ _ Kv;have hO3:=k9 _ _ Q6;have Yr:=kT k9 pb1;obtain⟨α,Ys⟩:∃α:Int,α=(r0-c0*Lt.g left i)/Lt.g l i:=⟨_,Z⟩;have αb:α.natAbs<2^(2*N+2):=by
    have e:α*Lt.g l i=r0-c0*Lt.g left i:=by rw[Ys];lia
    have n1:(α.natAbs:Int)<=(α*Lt.g l i).natAbs:=by
     rw[aM,aP];have:=aA (show (1:Int)<=(Lt.g l i).natAbs by lia) (show (0:Int)<=α.natAbs by lia);lia
    rw[e] at n1;have n2:((c0*Lt.g left i).natAbs:Int)<=2^N*2^N:=by
     rw[aM,aP];exact cS J J J J
    have e4:((2^(2*N+2):Nat):Int)=2^N*2^N*4:=by
     rw[dQ,eD,show 2*N=N+N by lia,eD];rfl
    have:(1:Int)<=2^N:=fO O;have:(2:Int)^N*1<=2^N*2^N:=aA this J;lia
   refine⟨_,Z,tt,_,_,_,Z,Z,kQ.of ht,i0,_,Z,tt,_,_,_,Z,Z,kQ.of ht,i1,_,Z,_,Z,tl,_,_,_,Z,Z,j6.of NF,cg,_,_,Z,Z,rQ (N:=N) (M:=N) J J J J,_,_,Z,Z,_,Z,_,Z,a,_,_,_,Z,Z,j6.of SG,cl,_,_,Z,Z,tD J (show (Lt.g l i).natAbs<2^N by lia) N2,?_⟩;dsimp only;rw[<-Ys];have Nw:2^N<=2^(2*N+2):=bY O J;refine⟨_,Z,.inl ⟨Z,_,j6.of hO3⟩,_,Z,_,Z,_,Z,_,Z,tt,_,_,_,Z,Z,kQ.of ht,i1,_,Z,a,tl,l,left,α,c0,m,2*N+2,Z,SG,NF,by rw[ll,fl],J,J,αb,J,qM (Aw mN Ou) J,qM SD J,J,fun tm H4 mi _ SE=>?_⟩;have NI:=mi _ _ hO3;have Yc:=kT mi Yr;refine⟨zgS,_,_,Z,Z,NI,by rw[aa,lob];exact mH J,?_⟩;have Yt:Lt.mix l α left c0 m≠[]:=fun z=>by have:=Lt.ui (a:=α) (b:=c0) (m:=m) ll fl;rw[z] at this;simp at this;lia
   obtain⟨Yq,e1,e2⟩:=Dv NI Yc SE Yt;have nO:∀(c:Addr)(y:List Int),y.length=K'->H4 c=some (.lst (y.map V.int))->c≠zgS:=fun c y ly hc=>nV hc NI fun zz=>by
    injection zz with zz;cases y with
    | nil=>simp at ly;lia
    | cons y ys=>cases bs with
     | nil=>cases zz
     | cons b0 bs0=>injection zz with z1;cases z1
   obtain⟨oo,hoo⟩:∃oo:HO,oo=.lst (bs.map V.ref++[.ref tm]):=⟨_,Z⟩;have SH:=(j5 (o:=oo) (nO tl left fl (mi _ _ NF))).trans (mi _ _ NF);have SI:=(j5 (o:=oo) (nO a l ll (mi _ _ SG))).trans (mi _ _ SG);have SJ:=(j5 (o:=oo) (nV (mi _ _ ht) NI (by intro z;cases z))).trans (mi _ _ ht);have Ei:jU H (upd H4 zgS oo):=kK (((sm.trans pT).trans k9).trans mi) hO;rw[hoo] at SH SI SJ Ei;generalize upd H4 zgS (.lst (bs.map V.ref++[.ref tm]))=H5 at e1 e2 SH SI SJ Ei ⊢;have q1:=cR (show 0<=Lt.g l i by lia) (show 0<=r0 by lia);have q2:=b8 r0 (show 0<=Lt.g l i by lia);have q3:=cR AI.1 (show 0<=r0 by lia);have q4:=b8 r0 AI.1;refine⟨_,Z,_,Z,_,Z,a,_,_,_,Z,Z,j6.of SI,cl,_,Z,tt,_,_,_,Z,Z,kQ.of SJ,i0,_,_,Z,Z,tD J (show r0.natAbs<2^N by lia) N2,_,Z,_,Z,_,Z,tl,_,_,_,Z,Z,j6.of SH,cg,_,Z,tt,_,_,_,Z,Z,kQ.of SJ,i0,_,_,Z,Z,tD J (show r0.natAbs<2^N by lia) N2,_,Z,_,Z,tl,a,left,l,_,_,m,N,Z,SH,SI,by rw[ll,fl],J,J,J,J,SD,Aw mN Ou,J,fun tn H6 sx _ hn6=>?_⟩;refine⟨Ei.trans sx,tn,_,Yq,outs++[Lt.mix l α left c0 m],_,_,_,_,Z,hn6,sx _ _ e1,kT sx e2,by rw[aI,lo];rfl,tr',lf.mixed m1 ll lz p0 dv.1 dv.2,fun ls' e=>?_⟩;rw[gk];exact go _ (.mix α c0 r0 nz p0 dv.1 dv.2 (by rw[Ys];exact bz') e)
 .rintro σ H2 ⟨sm,tl,left,bs,outs,o1,o2,o3,o4,rfl,hl,Os,pb,lo,tr,lf,go⟩;rw[aa,la,jx] at go;refine⟨_,Z,q zgS H2 outs sm hO ⟨bs,Os,pb⟩ ?_⟩;have:=go [] .nil;rwa [gI] at this
inductive Qm (K:PySem.W.Frag)(vs:List V)(H:Hp)(Q:VK)(E_:XK):Prop
 | mk (r:Addr)(rows:List (List Int))(k rr N:Nat)(m:Int)(_:vs=[.ref r,.int k,.int m])(_:lH H r rows)(_:rows.length=rr)(_:∀row∈rows,row.length=k)(_:k+rr<=420)(_:1<=m)(_:m<2^N)(_:1<=N)(_:N<=9000)(_:∀t H' ls,jU H H'->lH H' t ls->Rx.J6 m k rr rows rr ls->Q (.ref t) H')
theorem A8 (T:Txt K mg CF tL tF tM):Df P w K mg base 5 "leads_of" ["rows","size","modulus"] (Qm K):=by
 refine kR T.d_leads_of Bn fun f cdv A outer s H vs Q E hr nd h=>?_;obtain⟨r,rows,k,rr,N,m,rfl,⟨as,h1,pa⟩,lr,lw,kr,m1,mN,N1,N2,q⟩:=h;have la:=j7 pa;have eN:=n9 N;refine⟨_,(jK (tj 3 [("modulus",2),("size",1),("rows",0)] ["column"] nd (mC jI T.b_range (kL (pv 1))) (fun C s H fp=>⟨(nT 3),kq,(kf (vM T) hr (jL (jV kM (pv 1) (kP (ES (K:=K) Z) jI T.b_len L2.Gk (kL (pv 2)))) (jL (pv 3) (jL (pv 0) ke))))⟩)) (jK (kZ aJ Z (oQ jI T.b_enumerate (kL (pv 0))) (mv Z (kg (lX 4 nd) (kg (lX 5 nd) lO))) (jQ (kh 3 nd (kf (BB T) hr (jL (pv 3) (jL (jV sZ (pv 5) (kf (vM T) hr (jL (nQ T.b_len (pv 0)) (jL (pv 4) (jL jM ke))))) (jL (pv 2) ke))))))) (jQ (j4 (pv 3))))),?_⟩;refine⟨_,Z,k,Z,J,J,?_⟩;refine Au (n:=k) (Rx.KP m k rr) (by unfold Rx.KP;rw[List.length_map,List.length_range]) J ?_ ?_
 .intro i H2 hi sm R kk;refine⟨_,Z,_,Z,r,_,Z,.inl (sm.seq (j6.of h1)),_,_,Z,Z,_,Z,_,Z,k+rr,(i:Nat),m,(by rw[aa,la,lr];rfl),J,J,fun t H3 k9 _ h3=>?_⟩;rw[vI (show i<k+rr by lia)] at h3;exact kk H3 t _ k9 (by unfold Rx.KP;rw[List.getElem?_map,List.getElem?_range hi];rfl) h3
 intro t0 H0 qZ _ h0;refine⟨_,Z,r,Z,⟨_,j6.of (qZ _ _ h1)⟩,pH (K:=K) (xs:=as.map V.ref) (fun i σ H2=>jU H H2/\∃(tl:Addr)(ls:List (List Int))(o1 o2:Option V),σ=[some (.ref r),some (.int k),some (.int m),some (.ref tl),o1,o2]/\lH H2 tl ls/\Rx.J6 m k rr rows i ls) ⟨qZ,t0,_,none,none,Z,h0,.start m1 k rr rows⟩ (fun i σ H2 _ z=>z.1.seq (j6.of h1)) ?_ ?_⟩
 .rintro i x σ H2 pp hx ⟨sm,tl,ls,o1,o2,rfl,Q7,zgT⟩ xz;obtain⟨a,row,rfl,ha,lE,hh⟩:=mK pa hx;have il:i<rr:=by rw[<-lr];exact(aF.mp lE).1
  have rl:=lw row (ak lE);have pT:=jR (o:=.tup [.int (i:Nat),.ref a]) (jU.refl H2) xz;refine⟨pp,_,Z,kQ.of jO,Z,_,_,Z,_,_,Z,Z,?_⟩;refine⟨_,Z,_,Z,_,Z,r,_,Z,.inl (j6.of (pT _ _ (sm _ _ h1))),_,Z,rr,(i:Nat),1,(by rw[aa,la,lr];rfl),J,J,fun th H3 k9 _ h3=>?_⟩;rw[vI il] at h3;refine⟨a,th,_,_,Z,Z,k9 _ _ (pT _ _ (sm _ _ hh)),h3,?_,fun tc htc=>?_⟩
  .rw[aa,aa,Rx.oR,rl];exact nF J
  have QY:=jR (o:=.lst (row.map V.int++(Rx.tR rr i 1).map V.int)) (jU.refl H3) htc;refine⟨_,Z,tl,tc,ls,row++Rx.tR rr i 1,m,k+rr,N,Z,((Q7.same pT).same k9).same QY,by rw[jO,aO],zgT.Cp,by rw[aI,rl,Rx.oR],J,by rw[zgT.len];lia,zgT.up,m1,mN,N1,N2,fun tn H4 ls' mi _ h4 ent=>?_⟩;have er:rows.getD i []=row:=Rx.uc lE;exact⟨(((sm.trans pT).trans k9).trans QY).trans mi,tn,ls',_,_,Z,h4,zgT.enter m1 lr lw il (by rw[er];exact ent)⟩
 .rintro σ H2 ⟨sm,tl,ls,o1,o2,rfl,Q7,zgT⟩;rw[aa,la,lr] at zgT;exact⟨_,Z,q tl H2 ls sm Q7 zgT⟩
theorem DC (ns:List Int){lo hi:Nat}(h:lo<=hi)(h2:hi<=ns.length):uk (ns.map V.int) (some (lo:Int)) (some (hi:Int))=((ns.take hi).drop lo).map V.int:=by
 unfold uk;rw[HT.zA,HT.zA,aa,<-List.map_drop,<-List.map_take];congr 1;rw[io h2,io J,List.drop_take]
inductive M4 (K:PySem.W.Frag)(vs:List V)(H:Hp)(Q:VK)(E_:XK):Prop
 | mk (r:Addr)(rows ls:List (List Int))(k rr j c N:Nat)(m:Int)(_:vs=[.ref r,.int c,.int m])(_:lH H r ls)(_:Rx.J6 m k rr rows j ls)(_:c<k)(_:k+rr<=420)(_:1<=m)(_:m<2^N)(_:1<=N)(_:N<=9000)(_:∀t H' am,jU H H'->H t=none->H' t=some (.lst (am.map V.int))->am.length=k->Rx.Up m am->Lt.EL m k c ls 0 (Rx.fn am)->Q (.ref t) H')
theorem BP (T:Txt K mg CF tL tF tM):Df P w K mg base 3 "barring" ["leads","column","modulus"] (M4 K):=by
 refine kR T.d_barring Co fun f cdv A outer s H vs Q E hr nd h=>?_;obtain⟨r,rows,ls,k,rr,j,c,N,m,rfl,⟨as,h1,pa⟩,zgT,ck,kr,m1,mN,N1,N2,q⟩:=h;have la:=j7 pa;have lk:=zgT.len;have eN:=n9 N;have lead:∀i:Nat,i<k->(ls.getD i []).length=k+rr/\1<=Lt.g (ls.getD i []) i/\Lt.g (ls.getD i []) i∣m/\Lt.g (ls.getD i []) i<=m/\1<=m/Lt.g (ls.getD i []) i/\m/Lt.g (ls.getD i []) i<=m:=fun i hi=>by
  have t:=zgT.Cp.at (Rx.lZ (rows:=ls) (i:=i) J);rw[dU] at t;have le:=aU J t.2.2.2;refine⟨t.1,t.2.2.1,t.2.2.2,le,?_,b8 _ J⟩;obtain⟨x,hx⟩:=t.2.2.2;rw[hx,aG _ J];rcases Int.lt_or_le 0 x with z | z
  .exact z
  .have:=aA z (show 0<=Lt.g (ls.getD i []) i by lia);lia
 obtain⟨ac,hac,Qy⟩:=xl pa (Rx.lZ (rows:=ls) (i:=c) J);have lc:=lead c ck;have cg:me ((ls.getD c []).map V.int) (c:Int)=some (.int (Lt.g (ls.getD c []) c)):=lP zgV;refine⟨_,(jK (kh 3 nd (kf (vM T) hr (jL (nQ T.b_len (pv 0)) (jL (pv 1) (jL (jV ky (pv 2) (ki kN (ki kN (pv 0) (pv 1)) (pv 1))) ke))))) (jK (kZ aJ Z (EU jI T.b_range (jL (jV mw (pv 1) jM) (jL (rM pf jM) (jL (rM pf jM) ke)))) (lX 4 nd) (jK (kh 5 nd (ki kN (pv 0) (pv 4))) (jK (kh 6 nd (kf (oZ T) hr (ko (uo vS (pv 5) (sy (jV kM (pv 4) jM)) (sy (jV kM (pv 1) jM))) (uo vS (pv 3) (sy (jV kM (pv 4) jM)) (sy (jV kM (pv 1) jM)))))) (jQ (oM (jV kJ (rM pf (jV ky (pv 6) (ki kN (pv 5) (pv 4)))) (jV ky (pv 2) (ki kN (pv 5) (pv 4)))) (oH (pv 3) (pv 4) set_list)))))) (jQ (j4 (pv 3))))),?_⟩;refine⟨_,Z,r,_,Z,.inl (j6.of h1),_,Z,_,Z,_,Z,_,Z,r,_,_,_,Z,Z,j6.of h1,hac,_,Z,ac,_,_,_,Z,Z,j6.of Qy,cg,_,_,Z,Z,tD J (show (Lt.g (ls.getD c []) c).natAbs<2^N by lia) N2,k,(c:Nat),_,(by rw[aa,la,lk];rfl),J,J,fun t0 H0 qZ n0 h0=>?_⟩;rw[vI ck] at h0;obtain⟨v0,hv0⟩:∃v0:Int,v0=m/Lt.g (ls.getD c []) c:=⟨_,Z⟩;rw[<-hv0] at h0;have b0:Lt.EL m k c ls c (Rx.fn (Rx.tR k c v0)):=Rx.EL.xh (Lt.UU zgT.Cp ck (Rx.lZ (rows:=ls) (i:=c) J)) fun i=>by
  unfold Rx.fn;rw[ae,Rx.ph ck,hv0]
  by_cases z:i=c
  .rw[aD z,aD J]
  .rw[ao z,ao J]
 have u0:Rx.Up m (Rx.tR k c v0):=fun x hx=>by
  obtain⟨i,hi,rfl⟩:=Rx.sO hx;rw[Rx.ph ck];split<;>lia
 refine⟨_,Z,_,_,Z,Z,_,Z,_,Z,c,Z,J,BE (n:=c) (fun i σ H2=>jU H H2/\∃(am:List Int)(o1 o2 o3:Option V),σ=[some (.ref r),some (.int c),some (.int m),some (.ref t0),o1,o2,o3]/\H2 t0=some (.lst (am.map V.int))/\am.length=k/\Rx.Up m am/\Lt.EL m k c ls (c-i) (Rx.fn am)) ⟨qZ,_,none,none,none,Z,h0,Rx.oR ..,u0,b0⟩ ?_ ?_⟩
 .rintro i σ H2 hi ⟨sm,am,o1,o2,o3,rfl,ha,lam,up,bar⟩;obtain⟨pl,xu⟩:∃pl:Nat,pl=c-1-i:=⟨_,Z⟩;have ep:(c:Int)-1+(i:Int)*(-1)=(pl:Nat):=J;rw[ep];have epc:c-i=pl+1:=J;rw[epc] at bar;have pk':pl<k:=J;obtain⟨ap,hap,xz⟩:=xl pa (Rx.lZ (rows:=ls) (i:=pl) J);have lp:=lead pl pk';have lE:=Rx.lZ (rows:=ls) (i:=pl) J;have pg:me ((ls.getD pl []).map V.int) (pl:Int)=some (.int (Lt.g (ls.getD pl []) pl)):=lP zgV;have Q8:=sm _ _ xz;refine⟨_,Z,_,Z,r,_,_,_,Z,Z,j6.of (sm _ _ h1),hap,?_⟩;have e1:(pl:Int)+1=((pl+1:Nat):Int):=J;have e2:(c:Int)+1=((c+1:Nat):Int):=J;refine⟨_,Z,_,Z,_,_,Z,Z,_,Z,_,Z,_,_,Z,Z,_,Z,ap,_,Z,j6.of Q8,fun s1 Q9=>?_⟩;have lU:=jR (o:=.lst (uk ((ls.getD pl []).map V.int) (some ((pl:Int)+1)) (some ((c:Int)+1)))) (jU.refl H2) Q9;have Ra:upd H2 s1 (.lst (uk ((ls.getD pl []).map V.int) (some ((pl:Int)+1)) (some ((c:Int)+1)))) s1=some (.lst ((((ls.getD pl []).take (c+1)).drop (pl+1)).map V.int)):=by
   rw[jO,e1,e2,DC _ J J]
  dsimp only;generalize upd H2 s1 (.lst (uk ((ls.getD pl []).map V.int) (some ((pl:Int)+1)) (some ((c:Int)+1))))=H3 at lU Ra ⊢;refine⟨_,Z,_,Z,_,_,Z,Z,_,Z,_,Z,_,_,Z,Z,_,Z,t0,_,Z,j6.of (lU _ _ ha),fun s2 hs2=>?_⟩;have lQ:=jR (o:=.lst (uk (am.map V.int) (some ((pl:Int)+1)) (some ((c:Int)+1)))) (jU.refl H3) hs2;have Rb:upd H3 s2 (.lst (uk (am.map V.int) (some ((pl:Int)+1)) (some ((c:Int)+1)))) s2=some (.lst (((am.take (c+1)).drop (pl+1)).map V.int)):=by
   rw[jO,e1,e2,DC _ J J]
  dsimp only;generalize upd H3 s2 (.lst (uk (am.map V.int) (some ((pl:Int)+1)) (some ((c:Int)+1))))=H4 at lQ Rb ⊢;have upl:Bd N (ls.getD pl []):=Aw mN (zgT.up _ (Rx.k5 J));have upa:Bd N am:=Aw mN up;refine⟨s1,s2,((ls.getD pl []).take (c+1)).drop (pl+1),(am.take (c+1)).drop (pl+1),N,N,Z,j6.of (lQ _ _ Ra),j6.of Rb,by rw[cx,cJ,cx,cJ];lia,by rw[cx,cJ];lia,fun x hx=>upl x (fZ (gT hx)),fun x hx=>upa x (fZ (gT hx)),J,J,fun H5 mL=>?_⟩;rw[Rx.IR (k:=k) J lam J J (fun i hi=>by have:=bar.lo i hi;unfold Rx.fn at this;rwa [Int.toNat_natCast] at this) (fun i hi=>by have:=bar.hi i J;unfold Rx.fn at this;rwa [Int.toNat_natCast] at this)];have ux:=(lU.trans lQ).trans mL;have b1:=Lt.Wy m1 zgT.Cp zgT.how ck J bar lE;obtain⟨Yu,hdt⟩:∃Yu:Int,Yu=Lt.dt k (ls.getD pl []) (Rx.fn am):=⟨_,Z⟩;rw[<-hdt] at b1 ⊢;obtain⟨nv,Ll⟩:∃nv:Int,nv=-(Yu/Lt.g (ls.getD pl []) pl)%(m/Lt.g (ls.getD pl []) pl):=⟨_,Z⟩;rw[<-Ll] at b1;have nv0:0<=nv:=by rw[Ll];exact aC _ J
  have nv1:nv<m/Lt.g (ls.getD pl []) pl:=by rw[Ll];exact az _ J
  refine⟨_,Z,_,Z,_,Z,ap,_,_,_,Z,Z,j6.of (ux _ _ Q8),pg,_,_,Z,Z,tD J (show (Lt.g (ls.getD pl []) pl).natAbs<2^N by lia) N2,_,Z,_,Z,_,Z,_,Z,ap,_,_,_,Z,Z,j6.of (ux _ _ Q8),pg,_,_,Z,Z,tD J (show (Lt.g (ls.getD pl []) pl).natAbs<2^N by lia) N2,_,_,Z,Z,(show 0<m/Lt.g (ls.getD pl []) pl by lia),?_⟩;dsimp only;rw[<-Ll];refine⟨_,Z,_,Z,t0,_,_,_,Z,Z,ux _ _ ha,oX J zgU,?_⟩;rw[ae,set_int];refine⟨kK (sm.trans ux) n0,am.set pl nv,_,_,_,Z,jO,by rw[cf,lam],fun x hx=>?_,?_⟩
  .rcases List.mem_or_eq_of_mem_set hx with z | z
   .exact up x z
   .rw[z];lia
  .rw[show c-(i+1)=pl by lia];refine Rx.EL.xh b1.2 fun t=>?_;unfold Rx.fn;rw[ae,Rx.yx J]
   by_cases z:t=pl
   .rw[aD z,aD J]
   .rw[ao z,ao J]
 .rintro σ H2 ⟨sm,am,o1,o2,o3,rfl,ha,lam,up,bar⟩;rw[gE] at bar;exact⟨_,Z,q t0 H2 am sm n0 ha lam up bar⟩
inductive Pi (vs:List V)(H:Hp)(Q:VK)(E_:XK):Prop
 | mk (t tt:Addr)(tops:List Int)(b m:Int)(N:Nat)(_:vs=[.ref t,.int m])(_:H t=some (.tup [.ref tt,.int b]))(_:H tt=some (.lst (tops.map V.int)))(_:tops.length<=20000)(_:1<=b)(_:b<2^N)(_:0<=m)(_:m<2^N)(_:Bd N tops)(_:N<=9000)(_:∀u H',jU H H'->H' u=some (.lst ((Rx.wh tops (m/b)).map V.int))->Q (.ref u) H')
theorem rj (T:Txt K mg CF tL tF tM):Df P w K mg base 1 "whole_counts" ["made","modulus"] Pi:=by
 refine kR T.d_whole_counts vt fun f cdv A outer s H vs Q E hr nd h=>?_;obtain⟨t,tt,tops,b,m,N,rfl,ht,qG,lz,b1,bN,m0,mN,bt,N2,q⟩:=h;have eN:=n9 N;have i0:me [V.ref tt,V.int b] 0=some (.ref tt):=Z;have i1:me [V.ref tt,V.int b] 1=some (.int b):=Z;have q0:=cR m0 (show 0<=b by lia);have q1:=b8 b m0;refine⟨_,(jQ (j4 (nh [("modulus",1),("made",0)] ["top"] (kG (ki j9 (pv 0) jM)) (fun C s H fp=>⟨(nT 2),kq,(jV ks (pv 2) (jV ky (pv 0) (ki (t8 (K:=K) Z) (pv 1) jM)))⟩)))),?_⟩;refine⟨_,Z,t,_,_,_,Z,Z,kQ.of ht,i0,tt,Z,⟨_,j6.of qG⟩,?_⟩;refine lJ (K:=K) (xs:=tops.map V.int) (Rx.wh tops (m/b)) (by rw[Rx.yW,aa]) (by rw[aa];exact lz) (j6.of qG) ?_ fun D H2 sm _ hD=>q D H2 sm hD;intro i x H2 hx sm R k;obtain⟨u,rfl,hu⟩:=int_at hx;exact⟨_,Z,_,Z,_,Z,t,_,_,_,Z,Z,kQ.of (sm _ _ ht),i1,_,_,Z,Z,tD J (show b.natAbs<2^N by lia) N2,_,_,Z,Z,rQ (M:=N) (bt u (ak hu)) J J J,k _ _ (jU.refl _) (by unfold Rx.wh;rw[List.getElem?_map,hu];rfl)⟩
inductive Qb (vs:List V)(H:Hp)(Q:VK)(E_:XK):Prop
 | mk (m n:Int)(_:vs=[.int m,.int n])(_:0<=m)(_:m∣n->Q (.bl true) H)(_:¬m∣n->Q (.bl false) H)
theorem BY (T:Txt K mg CF tL tF tM):Df P w K mg base 1 "divides" ["modulus","number"] Qb:=by
 refine kR T.d_divides CS fun f cdv A outer s H vs Q E hr nd h=>?_;obtain⟨m,n,rfl,m0,q1,q2⟩:=h;have key:∀c:Bool,(c=true↔m∣n)->Q (.bl c) H:=fun c e=>by
  cases c with
  | true=>exact q1 (e.mp Z)
  | false=>exact q2 fun z=>by have:=e.mpr z;cases this
 refine⟨_,(jK (kY (lI nS (pv 0) jM) (jQ (j4 (ol nS (pv 1) jM (pJ _)))) kD) (jQ (j4 (ol nS (jV kJ (pv 1) (pv 0)) jM (pJ _))))),?_⟩;refine⟨_,Z,Z,_,Z,mZ (fun c=>?_) (fun c=>?_)⟩
 .have z:=uC c;subst z;refine⟨_,Z,Z,key _ ⟨fun h=>?_,fun h=>?_⟩⟩
  .rw[uC h];exact aZ _
  .rw[gc.mp h];exact cm Z
 .have z:=wF c;refine⟨_,Z,_,Z,_,_,Z,Z,(show 0<m by lia),Z,key _ ⟨fun h=>?_,fun h=>?_⟩⟩
  .exact bS (uC h)
  .have:n%m=0:=bT h;exact cm (cQ V.int this)
inductive Qh (K:PySem.W.Frag)(vs:List V)(H:Hp)(Q:VK)(E_:XK):Prop
 | mk (r s:Addr)(steps:List (List Int))(counts:List Int)(n qq N M:Nat)(_:vs=[.ref r,.ref s,.int n])(_:lH H r steps)(_:H s=some (.lst (counts.map V.int)))(_:steps.length=qq)(_:counts.length=qq)(_:∀x∈steps,x.length=n/\Bd N x)(_:Bd M counts)(_:n<=20000)(_:qq<=20000)(_:N<=1000000)(_:M<=1000000)(_:∀t H' out,jU H H'->H' t=some (.lst (out.map V.int))->out.length=n->(∀c:Nat,c<n->Lt.g out c=Ld.S qq fun j=>Lt.g counts j.toNat*Lt.g (steps.getD j.toNat []) c)->Q (.ref t) H')
theorem yo (T:Txt K mg CF tL tF tM):Df P w K mg base 1 "summed" ["steps","counts","size"] (Qh K):=by
 refine kR T.d_summed Ew fun f cdv A outer s H vs Q E hr nd h=>?_;obtain⟨r,s',steps,counts,n,qq,N,M,rfl,⟨as,h1,pa⟩,h2,ls,lc,lw,bc,nz,qz,N1,M1,q⟩:=h;have la:=j7 pa;refine⟨_,(jK (kh 3 nd (jV p9 (lR (kL jM)) (pv 2))) (jK (kZ aJ Z (m7 jI T.b_zip (ko (pv 0) (pv 1))) (mv Z (kg (lX 4 nd) (kg (lX 5 nd) lO))) (jQ (tj 3 [("many",5)] ["number","more"] nd (m7 jI T.b_zip (ko (pv 3) (pv 4))) (fun C s H fp=>⟨(sJ 1 2),kq,(jV kM (pv 1) (jV ks (pv 0) (pv 2)))⟩)))) (jQ (j4 (pv 3))))),?_⟩;refine⟨jS,fun lo yK=>⟨_,Z,lo,_,_,Z,Z,jO,J,J,zgW,fun p hp=>?_⟩⟩;rw[rep0];have Fp:jU H (upd (upd H lo (.lst [V.int 0])) p (.lst ((List.replicate n (0:Int)).map V.int))):=jR (jR (jU.refl _) yK) hp;have hP:upd (upd H lo (.lst [V.int 0])) p (.lst ((List.replicate n (0:Int)).map V.int)) p=some (.lst ((List.replicate n (0:Int)).map V.int)):=jO;generalize upd (upd H lo (.lst [V.int 0])) p (.lst ((List.replicate n (0:Int)).map V.int))=H0 at Fp hP ⊢;refine⟨_,Z,_,Z,r,s',Z,⟨_,j6.of (Fp _ _ h1)⟩,⟨_,j6.of (Fp _ _ h2)⟩,tO (K:=K) (xs:=as.map V.ref) (ys:=counts.map V.int) (by rw[aa,aa,la,ls,lc]) (fun i σ H2=>jU H H2/\∃(tl:Addr)(out:List Int)(o1 o2:Option V),σ=[some (.ref r),some (.ref s'),some (.int n),some (.ref tl),o1,o2]/\H2 tl=some (.lst (out.map V.int))/\out.length=n/\∀c:Nat,c<n->Lt.g out c=Ld.S i fun j=>Lt.g counts j.toNat*Lt.g (steps.getD j.toNat []) c)
  ⟨Fp,p,_,none,none,Z,hP,aV,fun c hc=>Rx.Bb hc⟩ (fun i σ H2 _ z=>⟨z.1.seq (j6.of h1),z.1.seq (j6.of h2)⟩) ?_ ?_⟩
 .rintro i x y σ H2 pp hx hy ⟨sm,tl,out,o1,o2,rfl,hl,Re,eq⟩ xz;obtain⟨a,row,rfl,ha,lE,hh⟩:=mK pa hx;obtain⟨v,rfl,hv⟩:=int_at hy;have rl:=lw row (ak lE);have pT:=jR (o:=.tup [.ref a,.int v]) (jU.refl H2) xz;refine⟨pp,_,Z,kQ.of jO,Z,_,_,Z,_,_,Z,Z,?_⟩;refine⟨_,Z,_,Z,tl,a,Z,⟨_,j6.of (pT _ _ hl)⟩,⟨_,j6.of (pT _ _ (sm _ _ hh))⟩,?_⟩;refine n5 (K:=K) (xs:=out.map V.int) (ys:=row.map V.int) (List.zipWith (fun x y=>x+v*y) out row) (by rw[aa,aa,Re,rl.1]) (by rw[dS,aa,Re,rl.1,fS]) zgU (j6.of (pT _ _ hl)) (j6.of (pT _ _ (sm _ _ hh))) ?_ ?_
  .intro i' x' y' H3 p3 CY CW k9 hp3 R k;obtain⟨u1,rfl,hu1⟩:=int_at CY;obtain⟨u2,rfl,hu2⟩:=int_at CW;refine⟨p3,_,Z,kQ.of jO,Z,_,_,Z,_,_,Z,Z,?_⟩;exact⟨_,Z,_,Z,_,Z,_,_,Z,Z,rQ (bc v (ak hv)) (rl.2 u2 (ak hu2)) M1 N1,_,_,Z,Z,k _ _ (jR (jU.refl _) hp3) (by rw[bU,hu1,hu2])⟩
  .intro D H3 k9 _ hD;refine⟨(sm.trans pT).trans k9,D,_,_,_,Z,hD,by rw[dS,Re,rl.1,fS],fun c hc=>?_⟩;rw[Rx.ye J J,eq c hc];show _=(Ld.S i fun j=>Lt.g counts j.toNat*Lt.g (steps.getD j.toNat []) c)+Lt.g counts (i:Int).toNat*Lt.g (steps.getD (i:Int).toNat []) c
   rw[ae,Rx.lB hv,Rx.uc lE]
 .rintro σ H2 ⟨sm,tl,out,o1,o2,rfl,hl,Re,eq⟩;rw[aa,la,ls] at eq;exact⟨_,Z,q tl H2 out sm hl Re eq⟩
inductive OE (K:PySem.W.Frag)(vs:List V)(H:Hp)(Q:VK)(E_:XK):Prop
 | mk (r t wt:Addr)(v0:V)(steps:List (List Int))(W:List Int)(m:Int)(w N M:Nat)(_:vs=[.ref r,.ref t])(_:lH H r steps)(_:H t=some (.tup [v0,.ref wt,.int m]))(_:H wt=some (.lst (W.map V.int)))(_:W.length=w)(_:∀x∈steps,x.length=w/\Bd N x)(_:Bd M W)(_:w<=20000)(_:N<=1000000)(_:M<=1000000)(_:0<=m)(_:∀(i:Nat) H',jU H H'->i<steps.length->¬m∣Rx.dot (steps.getD i []) W->Q (.int i) H')(_:∀H',jU H H'->(∀i,i<steps.length->m∣Rx.dot (steps.getD i []) W)->Q .non H')
theorem nY (T:Txt K mg CF tL tF tM):Df P w K mg base 3 "first_unbarred" ["steps","bar"] (OE K):=by
 refine kR T.d_first_unbarred tX fun f cdv A outer s H vs Q E hr nd h=>?_;obtain⟨r,t,wt,v0,steps,W,m,w',N,M,rfl,⟨as,h1,pa⟩,ht,hw,lW,lw,bW,wz,N1,M1,m0,q1,q2⟩:=h;have la:=j7 pa;have i1:me [v0,V.ref wt,V.int m] 1=some (.ref wt):=Z;have i2:me [v0,V.ref wt,V.int m] 2=some (.int m):=Z;refine⟨_,(jK (kZ aJ Z (oQ jI T.b_enumerate (kL (pv 0))) (mv Z (kg (lX 2 nd) (kg (lX 3 nd) lO))) (jQ (kY (nB (mY (kf (BY T) hr (ko (ki j9 (pv 1) jM) (kf (oZ T) hr (ko (pv 3) (ki j9 (pv 1) jM))))))) (jQ (j4 (pv 2))) kD))) (jQ (j4 rH))),?_⟩;refine⟨_,Z,r,Z,⟨_,j6.of h1⟩,pH (K:=K) (xs:=as.map V.ref) (fun i σ H2=>jU H H2/\(∃o1 o2:Option V,σ=[some (.ref r),some (.ref t),o1,o2])/\∀c,c<i->m∣Rx.dot (steps.getD c []) W) ⟨jU.refl _,⟨none,none,Z⟩,fun c hc=>absurd hc (bI _)⟩ (fun i σ H2 _ z=>z.1.seq (j6.of h1)) ?_ ?_⟩
 .rintro i x σ H2 p hx ⟨sm,⟨o1,o2,rfl⟩,z⟩ hp;obtain⟨a,row,rfl,ha,lE,hh⟩:=mK pa hx;have rl:=lw row (ak lE);have il:i<steps.length:=(aF.mp lE).1;have er:=Rx.uc lE;have pT:=jR (o:=.tup [.int (i:Nat),.ref a]) (jU.refl H2) hp;have Ir:=sm.trans pT;refine⟨p,_,Z,kQ.of jO,Z,_,_,Z,_,_,Z,Z,?_⟩;refine⟨_,Z,t,_,_,_,Z,Z,kQ.of (Ir _ _ ht),i2,_,Z,_,Z,t,_,_,_,Z,Z,kQ.of (Ir _ _ ht),i1,a,wt,row,W,N,M,Z,j6.of (Ir _ _ hh),j6.of (Ir _ _ hw),by rw[rl.1,lW],J,rl.2,bW,N1,M1,fun H3 k9=>?_⟩;refine⟨m,Rx.dot row W,Z,m0,fun dv=>?_,fun ndv=>?_⟩
  .refine⟨_,Z,mB O ?_⟩;refine⟨Ir.trans k9,⟨_,_,Z⟩,fun c hc=>?_⟩;rcases Nat.lt_succ_iff_lt_or_eq.mp hc with e | e
   .exact z c e
   .rw[e,er];exact dv
  .refine⟨_,Z,qx O ?_⟩;exact⟨_,Z,q1 i H3 (Ir.trans k9) il (by rw[er];exact ndv)⟩
 .rintro σ H2 ⟨sm,_,z⟩;rw[aa,la] at z;exact q2 H2 sm z
inductive Qg (C:Addr)(vs:List V)(H:Hp)(Q:VK)(E_:XK):Prop
 | mk (x s:Addr)(steps:List (List Int))(fs:List Rx.Fd)(us:List (List Int))(am:List Int)(p:Int)(w N D Cc G B:Nat)(_:vs=[.ref x,.ref s])(_:vX C H x p w steps fs us)(_:Lg p w N steps fs us)(_:Rx.xM p w steps fs us D Cc)(_:Nb p fs.length D Cc G B N)(_:∀y∈steps,y.length=w/\Bd N y)(_:w<=420)(_:1000<=p)(_:H s=some (.lst (am.map V.int)))(_:am.length=fs.length)(_:∀c,c<fs.length->(Lt.g am c).natAbs<=G)(_:∀t tt H' tops b,jU H H'->H' t=some (.tup [.str "bar",.ref tt,.int b])->H' tt=some (.lst (((Rx.uT w (Rx.kC fs) tops).map fun x=>x%b).map V.int))->tops.length=fs.length->1<=b->b<2^N->(∀i:Nat,i<fs.length->(Ld.S fs.length fun t=>Rx.st steps (Rx.nm fs i) (Rx.cl fs t.toNat)*Rx.fn tops t)=b*Lt.g am i)->Q (.ref t) H')
theorem zg (T:Txt K mg CF tL tF tM):Df P w K mg base 8 "inner_bar" ["frame","amounts"] (Qg CF):=by
 refine kR T.d_inner_bar zN fun f cdv A outer s H vs Q E hr nd h=>?_;obtain⟨x,s',steps,fs,us,am,p,w',N,D,Cc,G,B,rfl,fa,fo,fm,nb,lw,w4,xD,hg,lg,gb,q⟩:=h;obtain⟨dx,ff,ch,co,ro,un,hx,_⟩:=fa.ex;refine⟨_,(jK (kh 2 nd (xn (pv 0) T.cl_Frame (qo T) (hr.mono O) (kL (pv 1)))) (jQ (j4 (lL (jL oG (jL (nh [("told",2)] ["number"] (kG (ki j9 (pv 2) jM)) (fun C s H fp=>⟨(nT 1),kq,(jV kJ (pv 1) (ki (t8 (K:=K) Z) (pv 0) jM))⟩)) (jL (ki j9 (pv 2) jM) ke))))))),?_⟩;refine⟨_,Z,x,dx,_,Z,hx,w9 _ _ _ _ _ _ _ _,_,Z,x,s',steps,fs,us,am,p,w',N,D,Cc,G,B,Z,fa,fo,fm,nb,lw,w4,xD,hg,lg,gb,fun t tt H1 tops b lU ht qG _ lt b1 _ bN _ sol=>?_⟩;have i0:me [V.ref tt,V.int b] 0=some (.ref tt):=Z;have i1:me [V.ref tt,V.int b] 1=some (.int b):=Z;refine⟨_,Z,t,_,_,_,Z,Z,kQ.of ht,i0,tt,Z,⟨_,j6.of qG⟩,?_⟩;refine lJ (K:=K) (xs:=(Rx.uT w' (Rx.kC fs) tops).map V.int) ((Rx.uT w' (Rx.kC fs) tops).map fun x=>x%b) zgX zgZ (j6.of qG) ?_ ?_
 .intro i y H2 hy sm R k;obtain⟨u,rfl,hu⟩:=int_at hy;exact⟨_,Z,_,Z,t,_,_,_,Z,Z,kQ.of (sm _ _ ht),i1,_,_,Z,Z,(show 0<b by lia),k _ _ (jU.refl _) (by rw[af,hu];rfl)⟩
 .intro D2 H2 lQ _ Ye;refine⟨_,Z,t,_,_,_,Z,Z,kQ.of (lQ _ _ ht),i1,jY,fun u hu=>?_⟩;exact q u D2 _ tops b (jR (lU.trans lQ) hu) jO (jR (jU.refl _) hu _ _ Ye) lt b1 bN sol
abbrev Ot:=Nat×List Int×Int
def Gn (H:Hp)(a:Addr)(x:Ot):Prop:=∃t tt,H a=some (.tup [.int x.1,.ref t])/\H t=some (.tup [.ref tt,.int x.2.2])/\H tt=some (.lst (x.2.1.map V.int))
def E6 (H:Hp)(r:Addr)(os:List Ot):Prop:=∃as:List Addr,H r=some (.lst (as.map V.ref))/\Paired (Gn H) as os
theorem AO {H H':Hp}(sm:jU H H'){os:List Ot}(h:Paired (Gn H) as os):Paired (Gn H') as os:=nC h fun _ _ ⟨t,tt,a,b,c⟩=>⟨t,tt,sm _ _ a,sm _ _ b,sm _ _ c⟩
theorem E6.same {H H':Hp}(sm:jU H H'){os:List Ot}(h:E6 H r os):E6 H' r os :=
 let ⟨as,h1,h2⟩:=h;⟨as,sm _ _ h1,AO sm h2⟩
structure K4 (w k N:Nat)(steps:List (List Int))(fs:List Rx.Fd)(os:List Ot)(goal W:List Int)(s:Int):Prop where
 len:W.length=w
 s1:1<=s
 sN:s<2^N
 AI:Rx.In s W
 ch:∀i,i<fs.length->s∣Rx.dot (steps.getD (Rx.nm fs i) []) W
 ot:∀o∈os,s∣Rx.dot (steps.getD o.1 []) W
 go:¬s∣Rx.dot goal W
 k0:0<fs.length
inductive Vw (C:Addr)(vs:List V)(H:Hp)(Q:VK)(E_:XK):Prop
 | mk (r s x gm gt:Addr)(os:List Ot)(steps:List (List Int))(fs:List Rx.Fd)(us:List (List Int))(goal oP:List Int)(gb p:Int)(w N D Cc G B:Nat)(_:vs=[.ref r,.ref s,.ref x,.ref gm])(_:E6 H r os)(_:lH H s steps)(_:vX C H x p w steps fs us)(_:Lg p w N steps fs us)(_:Rx.xM p w steps fs us D Cc)(_:Nb p fs.length D Cc G B N)(_:D<=G)(_:∀y∈steps,y.length=w/\Bd N y)(_:w<=420)(_:1000<=p)(_:steps.length<=20000)(_:fs.length+os.length<=420)(_:H gm=some (.tup [.ref gt,.int gb]))(_:H gt=some (.lst (oP.map V.int)))(_:goal.length=w)(_:Rx.II steps fs D N (Rx.fn goal) oP gb)(_:∀o∈os,o.1<steps.length/\Rx.II steps fs D N (Rx.st steps o.1) o.2.1 o.2.2)(_:(os.map (fun o=>o.1)++Rx.numsOf fs).Nodup)(_:∀t wt H' W s,jU H H'->H' t=some (.tup [.str "bar",.ref wt,.int s])->H' wt=some (.lst (W.map V.int))->K4 w fs.length N steps fs os goal W s->Q (.ref t) H')(_:∀t ct H' cnts,jU H H'->H' t=some (.tup [.str "way",.ref ct])->H' ct=some (.lst (cnts.map V.int))->cnts.length=steps.length->Bd 40000 cnts->(∀i:Nat,i<fs.length->(Ld.S steps.length fun j=>Rx.st steps j.toNat (Rx.cl fs i)*Lt.g cnts j.toNat)=Lt.g goal (Rx.cl fs i))->Q (.ref t) H')
theorem wJ (T:Txt K mg CF tL tF tM):Df P w K mg base 9 "sought_with" ["others","steps","frame","goal_made"] (Vw CF):=by
 refine kR T.d_sought_with xo fun f cdv A outer s H vs Q E hr nd h=>?_;obtain⟨r,s',x,gm,gt,os,steps,fs,us,goal,oP,gb,p,w',N,D,Cc,G,B,rfl,⟨as,h1,pa⟩,hS,fa,fo,fm,nb,DG,lw,w4,xD,sz,k4,Rf,SK,SM,Aq,mo,Rh,qb,qw⟩:=h;obtain⟨sas,Kw,spa⟩:=id hS;have NJ:=j7 spa;have la:=j7 pa;have N1:=nb.N1;have N2:=nb.N2;have GN:=nb.GN;have D1:=fm.D1;have eN:=n9 N;obtain⟨k,hk⟩:∃k,k=fs.length:=⟨_,Z⟩;have gi0:me [V.ref gt,V.int gb] 0=some (.ref gt):=Z;have gi1:me [V.ref gt,V.int gb] 1=some (.int gb):=Z;have leD:∀M:Int,M∣(D:Int)->M<2^N:=fun M h=>by have:=aU J h;lia
 refine⟨_,(jK (kh 4 nd (ki j9 (pv 3) jM)) (jK (kZ aJ Z (kG (pv 0)) (mv Z (kg (lX 5 nd) (kg (lX 6 nd) lO))) (jQ (kh 4 nd (kf (Hy T) hr (ko (pv 4) (ki j9 (pv 6) jM)))))) (jK (tj 7 [("modulus",4)] ["number","made"] nd (kG (pv 0)) (fun C s H fp=>⟨(sJ 1 2),kq,(kf (rj T) hr (ko (pv 2) (pv 0)))⟩)) (jK (kh 8 nd (kf (rj T) hr (ko (pv 3) (pv 4)))) (jK (kh 9 nd (kf (A8 T) hr (jL (pv 7) (jL (nQ T.b_len (pv 8)) (jL (pv 4) ke))))) (jK (kh 10 nd (jV sZ (pv 8) (jV p9 (lR (kL jM)) (nQ T.b_len (pv 7))))) (jK (kZ aJ Z (oQ jI T.b_enumerate (kL (pv 9))) (mv Z (kg (lX 11 nd) (kg (lX 12 nd) lO))) (jK (kY (lI ox (jV kJ (ki kN (pv 10) (pv 11)) (ki kN (pv 12) (pv 11))) jM) (jQ (j4 (kf (zg T) hr (ko (pv 2) (kf (BP T) hr (jL (pv 9) (jL (pv 11) (jL (pv 4) ke)))))))) kD) (jQ (kh 10 nd (kf (r9 T) hr (jL (pv 10) (jL (jV ky (ki kN (pv 10) (pv 11)) (ki kN (pv 12) (pv 11))) (jL (pv 12) (jL (pv 4) ke))))))))) (jK (tj 13 [("modulus",4)] ["many"] nd (kG (uo vS (pv 10) (sy (nQ T.b_len (pv 8))) Dc)) (fun C s H fp=>⟨(nT 1),kq,(kf (wb T) hr (ko (rM pf (pv 1)) (pv 0)))⟩)) (jK (kh 14 nd (kf (yo T) hr (jL (jV sZ (lR (kL (pv 8))) (pv 7)) (jL (jV sZ (lR (kL jM)) (nh [] ["many"] (kG (pv 13)) (fun C s H fp=>⟨(nT 0),kq,(rM pf (pv 0))⟩))) (jL (nQ T.b_len (pv 8)) ke))))) (jK (kh 15 nd (jV sZ (pv 13) (nh [("modulus",4)] ["many"] (kG (pv 14)) (fun C s H fp=>⟨(nT 1),kq,(jV ky (pv 1) (pv 0))⟩)))) (jQ (j4 (lL (ko oG (kf (yh T) hr (jL (nQ T.b_len (pv 1)) (jL (jV sZ (nh [] ["number","made"] (kG (pv 0)) (fun C s H fp=>⟨(sJ 0 1),kq,(pv 0)⟩)) (mF (pv 2) Z)) (jL (pv 15) ke)))))))))))))))))),?_⟩;refine⟨_,Z,gm,_,_,_,Z,Z,kQ.of Rf,gi1,?_⟩;refine⟨_,Z,r,Z,⟨_,j6.of h1⟩,mI (K:=K) (xs:=as.map V.ref) (fun i σ H2=>H2=H/\∃(M:Int)(o1 o2:Option V),σ=[some (.ref r),some (.ref s'),some (.ref x),some (.ref gm),some (.int M),o1,o2,none,none,none,none,none,none,none,none,none]/\1<=M/\gb∣M/\M∣(D:Int)/\∀j o,j<i->os[j]?=some o->o.2.2∣M) ⟨Z,gb,none,none,Z,Aq.b1,c5 _,Aq.bD,fun j o hj=>absurd hj (bI _)⟩ (fun i σ H2 _ z=>by rw[z.1];exact j6.of h1) ?_ ?_⟩
 .rintro i y σ H2 hy ⟨rfl,M,o1,o2,rfl,M1,gM,MD,al⟩;obtain⟨a,rfl,ha⟩:=oK hy;obtain⟨o,ho,t,tt,Kv,ht,qG⟩:=kU pa ha;have m:=(mo o (ak ho)).2;have i1:me [V.ref tt,V.int o.2.2] 1=some (.int o.2.2):=Z;refine⟨a,_,Z,kQ.of Kv,Z,_,_,Z,_,_,Z,Z,?_⟩;refine⟨_,Z,_,Z,t,_,_,_,Z,Z,kQ.of ht,i1,M,o.2.2,N,Z,M1,m.b1,leD M MD,m.bN,N2,fun j j1 d1 d2 alD=>?_⟩;refine⟨Z,j,_,_,Z,j1,bF gM d1,alD _ MD m.bD,fun j' o' Su Ih=>?_⟩;rcases Nat.lt_succ_iff_lt_or_eq.mp Su with e | e
  .exact bF (al j' o' e Ih) d1
  .rw[e,ho] at Ih;cases Ih;exact d2
 rintro σ H2 ⟨rfl,M,o1,o2,rfl,M1,gM,MD,al⟩;have MN:=leD M MD;rw[aa,la] at al;have alM:∀o∈os,o.2.2∣M:=fun o ho=>by
  obtain⟨j,hj⟩:=List.getElem?_of_mem ho;exact al j o (aF.mp hj).1 hj
 -- rows
 obtain⟨rows,yM⟩:∃rows:List (List Int),rows=os.map fun o=>Rx.wh o.2.1 (M/o.2.2):=⟨_,Z⟩;have yN:rows.length=os.length:=by rw[yM,aa]
 refine⟨_,Z,r,Z,⟨_,j6.of h1⟩,?_⟩;refine qy (K:=K) (xs:=as.map V.ref) rows (by rw[yN,aa,la]) zgU (j6.of h1) ?_ ?_
 .intro i y H3 hy k9 R kk;obtain⟨a,rfl,ha⟩:=oK hy;obtain⟨o,ho,t,tt,Kv,ht,qG⟩:=kU pa ha;have m:=(mo o (ak ho)).2;refine⟨a,_,Z,kQ.of (k9 _ _ Kv),Z,_,_,Z,_,_,Z,Z,?_⟩;exact⟨_,Z,_,Z,t,tt,o.2.1,o.2.2,M,N,Z,k9 _ _ ht,k9 _ _ qG,by rw[m.len];lia,m.b1,m.bN,J,MN,m.bd,N2,fun u H4 mi h4=>kk H4 u _ mi (by rw[yM,af,ho];rfl) h4⟩
 intro ro H3 k9 _ Fq
 -- goal
 obtain⟨gw,Ri⟩:∃gw:List Int,gw=Rx.wh oP (M/gb):=⟨_,Z⟩;have Ln:gw.length=k:=by rw[Ri,Rx.yW,Aq.len,hk]
 refine⟨_,Z,_,Z,gm,gt,oP,gb,M,N,Z,k9 _ _ Rf,k9 _ _ SK,by rw[Aq.len];lia,Aq.b1,Aq.bN,J,MN,Aq.bd,N2,fun gl H4 mi QQ=>?_⟩;rw[<-Ri] at QQ;have Iv:=k9.trans mi;have lrw:∀row∈rows,row.length=k:=fun row h=>by
  rw[yM] at h;obtain⟨o,ho,rfl⟩:=List.mem_map.mp h;rw[Rx.yW,((mo o ho).2).len,hk]
 have Yv:∀b:Int,1<=b->0<=M/b/\M/b<=M:=fun b b1=>⟨cR J J,b8 b J⟩;have whb:∀(tops:List Int)(b:Int),1<=b->(∀y∈tops,y.natAbs<2^N)->Bd (2*N) (Rx.wh tops (M/b)):=fun tops b b1 bt y hy=>by
  unfold Rx.wh at hy;obtain⟨z,hz,rfl⟩:=List.mem_map.mp hy;have a:=bt z hz;have q:=Yv b b1;rw[aM,show 2*N=N+N by lia,gS];have n2:(M/b).natAbs<2^N:=J;have:=cL (d6 a) (show (M/b).natAbs<=2^N by lia);rcases Nat.eq_zero_or_pos (M/b).natAbs with c | c
  .rw[c,Nat.mul_zero];exact fM (e9 O) (e9 O)
  .exact bp (Nat.mul_lt_mul_of_pos_right a c) (ef _ J)
 have Yw:Bd (2*N) gw:=by rw[Ri];exact whb _ _ Aq.b1 Aq.bd
 have rwb:∀row∈rows,row.length=k/\Bd (2*N) row:=fun row h=>⟨lrw row h,by
  rw[yM] at h;obtain⟨o,ho,rfl⟩:=List.mem_map.mp h;exact whb _ _ ((mo o ho).2).b1 ((mo o ho).2).bd⟩
 refine⟨_,Z,_,Z,gl,_,Z,.inl (j6.of QQ),_,Z,ro,rows,k,os.length,N,M,(by rw[aa,Ln];rfl),Fq.same mi,yN,lrw,J,M1,MN,J,N2,fun tl H5 ls mL Q7 zgT=>?_⟩;have Iw:=Iv.trans mL;have Rj:=mL _ _ QQ;obtain⟨Rk,Ip,Iq⟩:=(Fq.same mi).same mL;have Rl:=j7 Iq;have lsl:=zgT.len
 -- left
 refine⟨_,Z,jS,fun lo yK=>⟨_,Z,ro,_,Z,.inl (j6.of (jR (jU.refl _) yK _ _ Ip)),?_⟩⟩;rw[aa,Rl,yN];refine⟨lo,_,_,Z,Z,jO,J,J,zgW,fun pz hpz=>?_⟩;rw[rep0];have sx:=jR (o:=.lst ((List.replicate os.length (0:Int)).map V.int)) (jR (o:=.lst [V.int 0]) (jU.refl H5) yK) hpz;have Rm:upd (upd H5 lo (.lst [V.int 0])) pz (.lst ((List.replicate os.length (0:Int)).map V.int)) pz=some (.lst ((List.replicate os.length (0:Int)).map V.int)):=jO;generalize upd (upd H5 lo (.lst [V.int 0])) pz (.lst ((List.replicate os.length (0:Int)).map V.int))=H6 at sx Rm ⊢;refine⟨gl,pz,_,_,Z,Z,sx _ _ Rj,Rm,by rw[aa,aa,aV,Ln];exact nF J,fun lf hlf=>?_⟩;have uu:=jR (o:=.lst (gw.map V.int++(List.replicate os.length (0:Int)).map V.int)) (jU.refl H6) hlf;have Rn:upd H6 lf (.lst (gw.map V.int++(List.replicate os.length (0:Int)).map V.int)) lf=some (.lst ((gw++List.replicate os.length 0).map V.int)):=by rw[jO,aO]
 generalize upd H6 lf (.lst (gw.map V.int++(List.replicate os.length (0:Int)).map V.int))=H7 at uu Rn ⊢;have Ro:=(Iw.trans sx).trans uu;have Rp:=(Q7.same sx).same uu;obtain⟨las,Fs,Kh⟩:=id Rp;have Yx:=j7 Kh;have b0:Bd (2*N) (gw++List.replicate os.length 0):=fun y hy=>by
  rcases List.mem_append.mp hy with c | c
  .exact Yw y c
  .rw[(fH.mp c).2];exact e9 O
 refine⟨_,Z,tl,Z,⟨_,j6.of Fs⟩,pH (K:=K) (xs:=las.map V.ref) (fun c σ H8=>jU H7 H8/\∃(lt:Addr)(left:List Int)(o3 o4:Option V),σ=[some (.ref r),some (.ref s'),some (.ref x),some (.ref gm),some (.int M),o1,o2,some (.ref ro),some (.ref gl),some (.ref tl),some (.ref lt),o3,o4,none,none,none]/\H8 lt=some (.lst (left.map V.int))/\Rx.Gl M k os.length rows gw ls c left/\Bd (2*N) left) ⟨jU.refl _,lf,_,none,none,Z,Rn,.start Ln ls,b0⟩ (fun i σ H8 _ z=>z.1.seq (j6.of Fs)) ?_ ?_⟩
 .rintro c y σ H8 pp hx ⟨vE,lt,left,o3,o4,rfl,pM,Lo,lb⟩ xz;obtain⟨a,l,rfl,ha,pK,hh⟩:=mK Kh hx;have cl:c<k:=by rw[<-lsl];exact(aF.mp pK).1
  have t:=zgT.Cp.at pK;rw[dU] at t;have Ou:=Aw MN (zgT.up l (ak pK));have pT:=jR (o:=.tup [.int (c:Nat),.ref a]) (jU.refl H8) xz;have Rq:=vE.trans pT;have NK:=pT _ _ pM;have Yy:=Rq _ _ hh;have SN:left.length=k+os.length:=Lo.len;have cg:me (left.map V.int) (c:Int)=some (.int (Lt.g left c)):=lP zgV;have Ny:me (l.map V.int) (c:Int)=some (.int (Lt.g l c)):=lP (by rw[af,Rx.lD (by rw[t.1];lia)];rfl);have l1:=t.2.2.1;have lN:=Ou _ (Rx.nH (l:=l) (i:=c) (by rw[t.1];lia));refine⟨pp,_,Z,kQ.of jO,Z,_,_,Z,_,_,Z,Z,?_⟩;refine⟨_,Z,_,Z,lt,_,_,_,Z,Z,j6.of NK,cg,_,Z,_,Z,a,_,_,_,Z,Z,j6.of Yy,Ny,_,_,Z,Z,(show 0<Lt.g l c by lia),Z,_,Z,mZ (fun cc=>?_) (fun cc=>?_)⟩
  .have nz:=Mi cc;have Lp:=(Ro.trans vE).trans pT;refine⟨_,Z,_,Z,_,Z,_,Z,tl,rows,ls,k,os.length,os.length,c,N,M,Z,(Rp.same vE).same pT,zgT,cl,J,M1,MN,J,N2,fun ta H9 am vU _ Rr lam uam bar=>?_⟩;have smC:=Lp.trans vU;have Yz:∀j,j<fs.length->(Lt.g am j).natAbs<=G:=fun j hj=>by
    have:=uam _ (Rx.nH (l:=am) (i:=j) J);have:=aU J MD;lia
   refine⟨x,ta,steps,fs,us,am,p,w',N,D,Cc,G,B,Z,fa.same smC,fo,fm,nb,lw,w4,xD,Rr,by rw[lam,hk],Yz,fun t wt Aj tops b xC YA SO lt10 b1 bN sol=>?_⟩;refine qb t wt Aj _ b (smC.trans xC) YA SO ?_;have kill:Lt.E2 M k (Rx.fn am) ls:=fun l' hl'=>by
    obtain⟨j,hj⟩:=List.getElem?_of_mem hl';exact bar.kl j l' (dJ _) hj
   have main:∀(v:List Int)(T:List Int),v.length=w'->T.length=k->(∀i:Nat,i<k->(Ld.S k fun j=>Rx.st steps (Rx.nm fs j.toNat) (Rx.cl fs i)*Rx.fn T j)=M*Rx.fn v (Rx.cl fs i))->(b∣Rx.dot v ((Rx.uT w' (Rx.kC fs) tops).map fun y=>y%b)↔M∣Lt.dt k T (Rx.fn am)):=fun v T lv lT hT=>by
    have d1:=Rx.JG (s:=b) lv (Rx.ow w' (Rx.kC fs) tops);rw[Rx.DA fm.hp fo.crn lv lt10] at d1;refine(Lt.n4 d1).trans ?_;have e:=Rx.My (k:=k) (U:=fun i t=>Rx.st steps (Rx.nm fs i) (Rx.cl fs t)) (x:=Rx.fn tops) (am:=Rx.fn am) (T:=Rx.fn T) (v:=fun t=>Rx.fn v (Rx.cl fs t.toNat)) (s:=b) (M:=M) (fun i hi=>by
     have:=sol i J;rw[<-hk] at this;unfold Rx.fn at this ⊢;rw[ae];exact this) (fun t ht=>(by rw[ae];exact hT t ht))
    rw[<-hk];refine(Rx.J2 b1 M1 e).trans ?_;unfold Lt.dt Rx.fn;exact Iff.rfl
   refine⟨by rw[aa,Rx.ow],b1,bN,Rx.In.mod J _ fun y=>y,fun i hi=>?_,fun o ho=>?_,fun dg=>?_,?_⟩
   .have nn:=fo.crn.sI hi;have lv:=(lw _ (Rx.k5 (rows:=steps) nn)).1;refine(main _ (Rx.tR k i M) lv (Rx.oR ..) fun c' xt=>?_).mpr ?_
    .have:(Ld.S k fun j=>Rx.st steps (Rx.nm fs j.toNat) (Rx.cl fs c')*Rx.fn (Rx.tR k i M) j)=Ld.S k fun j=>M*Rx.st steps (Rx.nm fs j.toNat) (Rx.cl fs c')*if j=(i:Int) then 1 else 0:=Ld.jT fun j hj=>by
      unfold Rx.fn;rw[ae,Rx.ph J]
      by_cases z:j=i
      .rw[aD z,aD J];grind
      .rw[ao z,ao J];grind
     rw[this,Mx.mf (F:=fun j=>M*Rx.st steps (Rx.nm fs j.toNat) (Rx.cl fs c')) J,ae];rfl
    .unfold Lt.dt;refine Mx.tZ fun j hj=>?_;rw[ae,Rx.ph J];split
     .exact cV ..
     .rw[aY];exact aZ _
   .have m:=mo o ho;have lv:=(lw _ (Rx.k5 (rows:=steps) m.1)).1;refine(main _ (Rx.wh o.2.1 (M/o.2.2)) lv (by rw[Rx.yW,m.2.len,hk]) fun c' xt=>?_).mpr ?_
    .rw[hk];refine Rx.DJ (U:=fun j t=>Rx.st steps (Rx.nm fs j) (Rx.cl fs t)) m.2.len m.2.b1 (alM o ho) ?_;rw[m.2.eq c' J];rfl
    .obtain⟨j,hj⟩:=List.getElem?_of_mem ho;have:=zgT.kill _ kill j (aF.mp hj).1;rwa [Rx.uc (row:=Rx.wh o.2.1 (M/o.2.2)) (by rw[yM,af,hj];rfl)] at this
   .have d2:=(main goal gw SM Ln fun c' xt=>by
     rw[Ri,hk];refine Rx.DJ (U:=fun j t=>Rx.st steps (Rx.nm fs j) (Rx.cl fs t)) Aq.len Aq.b1 gM ?_;exact Aq.eq c' J).mp dg
    have d3:=Lo.dd _ kill;refine bar.not M1 zgT.Cp cl pK Lo.zero (fun z=>nz ?_) ((Lt.n4 d3).mpr d2);exact bT z
   .lia
  .have ze:=Ic cc;have dv:Lt.g l c∣Lt.g left c:=bS ze;have lcb:=lb _ (Rx.nH (l:=left) (i:=c) J);have X4:(Lt.g left c/Lt.g l c).natAbs<2^(2*N):=by
    have e:=ga dv;have n:(Lt.g left c/Lt.g l c).natAbs*(Lt.g l c).natAbs=(Lt.g left c).natAbs:=by rw[<-aM,e]
    have:=ef (Lt.g left c/Lt.g l c).natAbs (show 1<=(Lt.g l c).natAbs by lia);lia
   refine⟨_,Z,_,Z,_,Z,lt,_,_,_,Z,Z,j6.of NK,cg,_,Z,_,Z,a,_,_,_,Z,Z,j6.of Yy,Ny,_,_,Z,Z,tD J lN N2,_,Z,_,Z,lt,a,left,l,_,M,2*N,N,Z,NK,Yy,by rw[SN,t.1],J,J,X4,Ou,J,J,fun t9 H9 vU h9=>?_⟩;refine⟨Rq.trans vU,t9,_,_,_,Z,h9,Lo.step M1 zgT pK dv,?_⟩;have M2:M<2^(2*N):=by
    have:=bY (n:=2) O (show N<=2*N by lia);have e2:=n9 (2*N);lia
   exact Gf J M2 lb
 rintro σ H8 ⟨vE,lt,left,o3,o4,rfl,pM,Lo,lb⟩;rw[aa,Yx,lsl] at Lo;have YB:=Ro.trans vE;have Ru:=vE _ _ (uu _ _ (sx _ _ Rj));have SN:left.length=k+os.length:=Lo.len
 -- taken
 refine⟨_,Z,_,Z,gl,_,Z,.inl (j6.of Ru),_,Z,lt,_,Z,j6.of pM,fun cu hcu=>?_⟩;rw[aa,Ln,AC];have vU:=jR (o:=.lst ((left.drop k).map V.int)) (jU.refl H8) hcu;have NL:upd H8 cu (.lst ((left.drop k).map V.int)) cu=some (.lst ((left.drop k).map V.int)):=jO;generalize upd H8 cu (.lst ((left.drop k).map V.int))=H9 at vU NL ⊢;obtain⟨tk,htk⟩:∃tk:List Int,tk=(left.drop k).map fun y=>Rx.cn (-y) M:=⟨_,Z⟩;have Lq:tk.length=os.length:=by rw[htk,aa,cx,SN];lia
 have tkb:Bd N tk:=fun y hy=>by
  rw[htk] at hy;obtain⟨z,_,rfl⟩:=List.mem_map.mp hy;have:=Rx.P6 (n:=-z) (show 0<M by lia);lia
 refine⟨cu,Z,⟨_,j6.of NL⟩,?_⟩;refine lJ (K:=K) (xs:=(left.drop k).map V.int) tk (by rw[Lq,aa,cx,SN];lia) (by rw[aa,cx];lia) (j6.of NL) ?_ ?_
 .intro i y Aj hy xC R kk;obtain⟨u,rfl,hu⟩:=int_at hy;exact⟨_,Z,_,Z,_,Z,-u,M,Z,J,kk _ _ (jU.refl _) (by rw[htk,af,hu];rfl)⟩
 intro tka Aj xC _ NN;have Rv:=(YB.trans vU).trans xC;have Lr:=xC _ _ (vU _ _ Ru);have YC:=xC _ _ (vU _ _ (vE _ _ (uu _ _ (sx _ _ Ip))));have Rw:=kT ((((sx.trans uu).trans vE).trans vU).trans xC) Iq
 -- pL
 refine⟨_,Z,jS,fun l1 Ry=>⟨_,Z,l1,ro,_,_,Z,Z,jO,jR (jU.refl _) Ry _ _ YC,by rw[aa,Rl,yN];exact nF (by show 1+_<=_;lia),fun l2 YD=>?_⟩⟩;have vF:=jR (o:=.lst ([V.ref gl]++Rk.map V.ref)) (jR (o:=.lst [V.ref gl]) (jU.refl Aj) Ry) YD;have Ls:upd (upd Aj l1 (.lst [V.ref gl])) l2 (.lst ([V.ref gl]++Rk.map V.ref)) l2=some (.lst ((gl::Rk).map V.ref)):=jO;generalize upd (upd Aj l1 (.lst [V.ref gl])) l2 (.lst ([V.ref gl]++Rk.map V.ref))=Lk at vF Ls ⊢;refine⟨jS,fun l3 Rz=>⟨_,Z,tka,Z,⟨_,j6.of (jR (jU.refl _) Rz _ _ (vF _ _ NN))⟩,?_⟩⟩;have nw:=jR (o:=.lst [V.int 1]) (jU.refl Lk) Rz;have Lu:upd Lk l3 (.lst [V.int 1]) l3=some (.lst [V.int 1]):=jO;generalize upd Lk l3 (.lst [V.int 1])=Yo at nw Lu ⊢;refine lJ (K:=K) (xs:=tk.map V.int) (tk.map fun y=>-y) zgX zgU (j6.of (nw _ _ (vF _ _ NN))) ?_ ?_
 .intro i y Ov hy tJ R kk;obtain⟨u,rfl,hu⟩:=int_at hy;exact⟨_,Z,_,Z,kk _ _ (jU.refl _) (by rw[af,hu];rfl)⟩
 intro ng Ov tJ _ hng;refine⟨l3,ng,_,_,Z,Z,tJ _ _ Lu,hng,by rw[aa,aa,Lq];exact nF (by show 1+_<=_;lia),fun l4 YE=>?_⟩;have NO:=jR (o:=.lst ([V.int 1]++(tk.map fun y=>-y).map V.int)) (jU.refl Ov) YE;have Lv:upd Ov l4 (.lst ([V.int 1]++(tk.map fun y=>-y).map V.int)) l4=some (.lst ((1::tk.map fun y=>-y).map V.int)):=jO;generalize upd Ov l4 (.lst ([V.int 1]++(tk.map fun y=>-y).map V.int))=H14 at NO Lv ⊢;have xE:=((vF.trans nw).trans tJ).trans NO;have YF:lH H14 l2 (gw::rows):=⟨gl::Rk,NO _ _ (tJ _ _ (nw _ _ Ls)),.cons (xE _ _ Lr) (kT xE Rw)⟩;have bc:Bd (N+1) (1::tk.map fun y=>-y):=fun y hy=>by
  rcases List.mem_cons.mp hy with e | e
  .rw[e];exact Nat.one_lt_two_pow J
  .obtain⟨z,hz,rfl⟩:=List.mem_map.mp e;have:=tkb z hz;rw[gR,dH];lia
 refine⟨_,Z,gl,_,Z,.inl (j6.of (xE _ _ Lr)),l2,l4,gw::rows,1::tk.map (fun y=>-y),k,os.length+1,2*N,N+1,(by rw[aa,Ln];rfl),YF,Lv,by rw[bj,yN],by rw[bj,aa,Lq],fun y hy=>?_,bc,J,J,J,J,fun sp H15 pL RA hsp lsp eqs=>?_⟩
 .rcases List.mem_cons.mp hy with e | e
  .rw[e];exact⟨Ln,Yw⟩
  .exact rwb y e
 have RB:∀c:Nat,c<k->Lt.g pL c=Lt.g gw c-Ld.S os.length fun j=>Rx.fn tk j*Rx.sL rows j.toNat c:=fun c hc=>by rw[eqs c hc,Rx.sum_cons Lq]
 have spd:∀c:Nat,c<k->M∣Lt.g pL c:=fun c hc=>by
  rw[RB c hc];have:=Lo.end M1 (tk:=fun j=>Rx.fn tk j) (fun j hj=>by
   unfold Rx.fn
   try dsimp only
   rw[ae];have e:Lt.g tk j=Rx.cn (-(Lt.g left (k+j))) M:=by
    rw[htk,Rx.rA (by rw[cx];lia),Rx.B4]
   rw[e];have:=Rx.Mu (-(Lt.g left (k+j))) M;rwa [Int.sub_neg] at this) c hc
  have e2:(Ld.S os.length fun j=>Rx.fn tk (j.toNat:Int)*Rx.sL rows j.toNat c)=Ld.S os.length fun j=>Rx.fn tk j*Rx.sL rows j.toNat c:=Ld.jT fun j _=>by rw[ae]
  rw[e2] at this;exact this
 have spb:Bd (3*N+12) pL:=fun y hy=>by
  obtain⟨c,hc,rfl⟩:=Rx.sO hy;rw[eqs c J];have b:=Sg.xJ (m:=os.length+1) (F:=fun j=>Lt.g (1::tk.map fun y=>-y) j.toNat*Lt.g ((gw::rows).getD j.toNat []) c) (B:=2^(N+1)*2^(2*N)) fun j hj=>by
   show (Lt.g (1::tk.map fun y=>-y) (j:Int).toNat*Lt.g ((gw::rows).getD (j:Int).toNat []) c).natAbs<=_
   rw[ae,aM];refine cL (d6 (bc _ (Rx.nH (by rw[bj,aa,Lq];lia)))) ?_;have rm:(gw::rows).getD j []∈gw::rows:=Rx.k5 (by rw[bj,yN];lia);have rl:((gw::rows).getD j []).length=k/\Bd (2*N) ((gw::rows).getD j []):=by
    rcases List.mem_cons.mp rm with e | e
    .rw[e];exact⟨Ln,Yw⟩
    .exact rwb _ e
   exact d6 (rl.2 _ (Rx.nH J))
  have e3:2^(3*N+12)=2048*(2^(N+1)*2^(2*N)):=by rw[<-gS,show 3*N+12=11+(N+1+2*N) by lia,gS]
  have p3:0<2^(N+1)*2^(2*N):=fM (e9 O) (e9 O);generalize 2^(N+1)*2^(2*N)=zgQ at b e3 p3;have:(os.length+1)*zgQ<=421*zgQ:=cB _ J;rw[e3];lia
 -- counts
 obtain⟨sq,SQ⟩:∃sq:List Int,sq=pL.map fun y=>y/M:=⟨_,Z⟩;have SR:sq.length=k:=by rw[SQ,aa,lsp]
 have RC:=RA _ _ (xE _ _ NN);refine⟨_,Z,_,Z,sp,Z,⟨_,j6.of hsp⟩,?_⟩;refine lJ (K:=K) (xs:=pL.map V.int) sq (by rw[SR,aa,lsp]) zgU (j6.of hsp) ?_ ?_
 .intro i y SS hy NP R kk;obtain⟨u,rfl,hu⟩:=int_at hy;exact⟨_,Z,_,Z,_,_,Z,Z,tD J (show M.natAbs<2^N by lia) N2,kk _ _ (jU.refl _) (by rw[SQ,af,hu];rfl)⟩
 intro sqa SS NP _ YG;refine⟨tka,sqa,_,_,Z,Z,NP _ _ RC,YG,by rw[aa,aa,Lq,SR];exact nF J,fun ca Sx=>?_⟩;have RD:=jR (o:=.lst (tk.map V.int++sq.map V.int)) (jU.refl SS) Sx;have Lw:upd SS ca (.lst (tk.map V.int++sq.map V.int)) ca=some (.lst ((tk++sq).map V.int)):=by rw[jO,aO]
 generalize upd SS ca (.lst (tk.map V.int++sq.map V.int))=H17 at RD Lw ⊢;have Bp:=(((Rv.trans xE).trans RA).trans NP).trans RD
 -- the way
 obtain⟨dx,ff,ch,co,ro',un,hx,hf,Ao,_⟩:=(fa.same Bp).ex;have RE:=Bp _ _ h1;refine⟨_,Z,s',_,Z,.inl (j6.of (Bp _ _ Kw)),_,Z,r,Z,⟨_,j6.of RE⟩,?_⟩;refine lJ (K:=K) (xs:=as.map V.ref) (ni (os.map fun o=>o.1)) (by rw[aa,aa,aa,la]) zgU (j6.of RE) ?_ ?_
 .intro i y SU hy Fg R kk;obtain⟨a,rfl,ha⟩:=oK hy;obtain⟨o,ho,t,tt,Kv,ht,qG⟩:=kU pa ha;exact⟨a,_,Z,kQ.of (Fg _ _ (Bp _ _ Kv)),Z,_,_,Z,_,_,Z,Z,_,Z,kk _ _ (jU.refl _) (by rw[af,af,ho];rfl)⟩
 intro na SU Fg _ hna;refine⟨_,Z,x,CF,dx,_,_,Z,Fg _ _ hx,T.cl_Frame,T.na_chosen,yz _ _ _ _ _ _ _ _,na,ch,_,_,Z,Z,hna,Fg _ _ Ao,by rw[aa,aa,aa,aa,aa];unfold Rx.numsOf;rw[List.length_map];exact nF J,fun Ow YH=>?_⟩;have NQ:=jR (o:=.lst ((ni (os.map fun o=>o.1)).map V.int++(ni (Rx.numsOf fs)).map V.int)) (jU.refl SU) YH;have Lx:upd SU Ow (.lst ((ni (os.map fun o=>o.1)).map V.int++(ni (Rx.numsOf fs)).map V.int)) Ow=some (.lst ((ni (os.map (fun o=>o.1)++Rx.numsOf fs)).map V.int)):=by rw[jO];simp only[ni,List.map_append]
 generalize upd SU Ow (.lst ((ni (os.map fun o=>o.1)).map V.int++(ni (Rx.numsOf fs)).map V.int))=H19 at NQ Lx ⊢;have Kt:(Rx.numsOf fs).length=k:=by unfold Rx.numsOf;rw[List.length_map,hk]
 have plt:∀n∈os.map (fun o=>o.1)++Rx.numsOf fs,n<steps.length:=fun n hn=>by
  rcases List.mem_append.mp hn with c | c
  .obtain⟨o,ho,rfl⟩:=List.mem_map.mp c;exact(mo o ho).1
  .exact Rx.vL fo.crn n c
 refine⟨_,Z,steps.length,Ow,ca,os.map (fun o=>o.1)++Rx.numsOf fs,tk++sq,(by rw[aa,NJ];rfl),Lx,NQ _ _ (Fg _ _ Lw),by rw[aI,aI,aa,Lq,SR,Kt],plt,sz,fun cn H20 YI _ hcn=>?_⟩;refine⟨jP,fun tw htw=>?_⟩;refine qw tw cn _ _ (jR (((Bp.trans Fg).trans NQ).trans YI) htw) jO (jR (jU.refl _) htw _ _ hcn) (Rx.ow ..) (fun y hy=>?_) fun i hi=>?_
 .rcases Rx.DK hy with e | e
  .rw[e];exact e9 O
  .rcases List.mem_append.mp e with c | c
   .exact qM tkb J y c
   .rw[SQ] at c;obtain⟨z,hz,rfl⟩:=List.mem_map.mp c;obtain⟨j,hj,rfl⟩:=Rx.sO hz;have e:=ga (spd j J);have n:(Lt.g pL j/M).natAbs*M.natAbs=(Lt.g pL j).natAbs:=by rw[<-aM,e]
    have:=ef (Lt.g pL j/M).natAbs (show 1<=M.natAbs by lia);have b:=spb _ hz;exact bp (show (Lt.g pL j/M).natAbs<2^(3*N+12) by lia) (bY O J)
 .have e:=Rx.OY (n:=steps.length) (F:=fun j=>Rx.st steps j.toNat (Rx.cl fs i)) (os:=os.map fun o=>o.1) (cs:=Rx.numsOf fs) (by rw[aa]) Kt Lq SR Rh plt;rw[e];have we:=Rx.Nh (k:=k) (r:=os.length) (U:=fun j t=>Rx.st steps (Rx.nm fs j) (Rx.cl fs t)) (M:=M) (gv:=Rx.fn goal (Rx.cl fs i)) (t:=i) (goalw:=Rx.fn gw) (R:=Rx.sL rows) (sv:=fun j=>Rx.st steps ((os.map fun o=>o.1).getD j 0) (Rx.cl fs i)) (tk:=Rx.fn tk) (sp:=Rx.fn sq) M1 (by
    rw[Ri,hk];exact Rx.DJ (U:=fun j t=>Rx.st steps (Rx.nm fs j) (Rx.cl fs t)) Aq.len Aq.b1 gM (Aq.eq i hi)) (fun j hj=>by
    obtain⟨o,ho⟩:∃o,os[j]?=some o:=⟨_,List.getElem?_eq_getElem hj⟩;have m:=mo o (ak ho);have er:rows.getD j []=Rx.wh o.2.1 (M/o.2.2):=Rx.uc (by rw[yM,af,ho];rfl);have en:(os.map fun o=>o.1).getD j 0=o.1:=by rw[ah,af,ho];rfl
    have a:(Ld.S k fun i'=>Rx.st steps (Rx.nm fs i'.toNat) (Rx.cl fs i)*Rx.sL rows j i')=Ld.S k fun i'=>Rx.st steps (Rx.nm fs i'.toNat) (Rx.cl fs i)*Rx.fn (Rx.wh o.2.1 (M/o.2.2)) i':=Ld.jT fun i' _=>by
     unfold Rx.sL Rx.fn;rw[er]
    try dsimp only
    rw[a,en,hk];exact Rx.DJ (U:=fun j t=>Rx.st steps (Rx.nm fs j) (Rx.cl fs t)) m.2.len m.2.b1 (alM o (ak ho)) (m.2.eq i hi)) (fun c hc=>by
    have e1:Rx.fn sq c=Lt.g pL c/M:=by
     unfold Rx.fn;rw[ae,SQ,Rx.rA J]
    have e2:Rx.fn gw c=Lt.g gw c:=by unfold Rx.fn;rw[Int.toNat_natCast]
    rw[e1,e2,cZ (spd c hc),RB c hc])
  have f1:Rx.fn goal (Rx.cl fs i)=Lt.g goal (Rx.cl fs i):=by unfold Rx.fn;rw[Int.toNat_natCast]
  rw[<-f1,<-we];congr 1
  .refine Ld.jT fun j hj=>?_;unfold Rx.fn
   try dsimp only
   rw[ae,ae,aB]
  .refine Ld.jT fun j hj=>?_;unfold Rx.fn
   try dsimp only
   rw[ae,ae,aB,ah,Rx.D0 J];rfl
theorem Kc {H:Hp}{zgS a t tt:Addr}{os:List Ot}{o:Ot}(hO:H zgS=some (.lst (as.map V.ref)))(pa:Paired (Gn H) as os)(ne:∀o∈os,o.2.1≠[])(ha:H a=some (.tup [.int o.1,.ref t]))(ht:H t=some (.tup [.ref tt,.int o.2.2]))(qG:H tt=some (.lst (o.2.1.map V.int)))(nl:o.2.1≠[]):E6 (upd H zgS (.lst (as.map V.ref++[.ref a]))) zgS (os++[o]):=by
 have ne1:∀(b:Addr)(x:List Int),x≠[]->H b=some (.lst (x.map V.int))->b≠zgS:=fun b x hx hb=>nV hb hO fun z=>by
  injection z with z;cases x with
  | nil=>exact hx Z
  | cons y ys=>cases as with
   | nil=>cases z
   | cons a0 Sk=>injection z with z1;cases z1
 have keep:∀(a:Addr)(x:Ot),x.2.1≠[]->Gn H a x->Gn (upd H zgS (.lst (as.map V.ref++[.ref a]))) a x->iu:=fun _ _ _ _ _=>trivial;have k2:∀{o':HO}(a:Addr)(x:Ot),x.2.1≠[]->Gn H a x->Gn (upd H zgS o') a x:=fun a x hx ⟨t,tt,u,v,y⟩ =>
  ⟨t,tt,(j5 (nV u hO (by intro z;cases z))).trans u,(j5 (nV v hO (by intro z;cases z))).trans v,(j5 (ne1 _ _ hx y)).trans y⟩
 have go:∀{sH:List Addr}{Oc:List Ot}{o':HO},(∀o∈Oc,o.2.1≠[])->Paired (Gn H) sH Oc->Paired (Gn (upd H zgS o')) sH Oc:=fun {sH Oc o'} hn p=>by
  induction p with
  | nil=>exact .nil
  | cons h _ ih=>exact .cons (k2 _ _ (hn _ aq) h) (ih fun o ho=>hn o (ar _ ho))
 exact⟨as++[a],by rw[jO,aO];rfl,L2.Paired.Cs (go ne pa) (.cons (k2 _ _ nl ⟨t,tt,ha,ht,qG⟩) .nil)⟩
def Za (w N:Nat)(steps:List (List Int))(fs:List Rx.Fd)(os:List Ot)(goal:List Int)(H1:Hp)(t:Addr):Prop:=(∃wt W s,H1 t=some (.tup [.str "bar",.ref wt,.int s])/\H1 wt=some (.lst (W.map V.int))/\K4 w fs.length N steps fs os goal W s)\/(∃ct cnts,H1 t=some (.tup [.str "way",.ref ct])/\H1 ct=some (.lst (cnts.map V.int))/\cnts.length=steps.length/\Bd 40000 cnts/\∀i:Nat,i<fs.length->(Ld.S steps.length fun j=>Rx.st steps j.toNat (Rx.cl fs i)*Lt.g cnts j.toNat)=Lt.g goal (Rx.cl fs i))
inductive P8 (C:Addr)(vs:List V)(H:Hp)(Q:VK)(E_:XK):Prop
 | mk (r s x gm gt:Addr)(os:List Ot)(steps:List (List Int))(fs:List Rx.Fd)(us:List (List Int))(goal oP:List Int)(gb p:Int)(w N D Cc G B:Nat)(_:vs=[.ref r,.ref s,.ref x,.ref gm])(_:E6 H r os)(_:lH H s steps)(_:vX C H x p w steps fs us)(_:Lg p w N steps fs us)(_:Rx.xM p w steps fs us D Cc)(_:Nb p fs.length D Cc G B N)(_:D<=G)(_:∀y∈steps,y.length=w/\Bd N y)(_:w<=420)(_:1000<=p)(_:steps.length<=20000)(_:fs.length+os.length<=420)(_:H gm=some (.tup [.ref gt,.int gb]))(_:H gt=some (.lst (oP.map V.int)))(_:goal.length=w)(_:Rx.II steps fs D N (Rx.fn goal) oP gb)(_:∀o∈os,o.1<steps.length/\Rx.II steps fs D N (Rx.st steps o.1) o.2.1 o.2.2)(_:(os.map (fun o=>o.1)++Rx.numsOf fs).Nodup)(_:∀t H',jU H H'->Za w N steps fs os goal H' t->Q (.ref t) H')
theorem rn (T:Txt K mg CF tL tF tM):Df P w K mg base 9 "sought_with" ["others","steps","frame","goal_made"] (P8 CF):=by
 obtain⟨f,fd,F,rr⟩:=(wJ (P:=P) (w:=w) (base:=base) T).ex;refine⟨f,fd,F.imp fun vs H Q E h=>?_,rr⟩;obtain⟨r,s,x,gm,gt,os,steps,fs,us,goal,oP,gb,p,w',N,D,Cc,G,B,e,a1,a2,a3,a4,a5,a6,a7,a8,a9,L8,MH,Mc,LS,LP,MK,OW,OK,OU,q⟩:=h;exact⟨r,s,x,gm,gt,os,steps,fs,us,goal,oP,gb,p,w',N,D,Cc,G,B,e,a1,a2,a3,a4,a5,a6,a7,a8,a9,L8,MH,Mc,LS,LP,MK,OW,OK,OU,fun t wt H2 W s lQ h1 h2 sb=>q t H2 lQ (.inl ⟨wt,W,s,h1,h2,sb⟩),fun t ct H2 cnts lQ h1 h2 l b e=>q t H2 lQ (.inr ⟨ct,cnts,h1,h2,l,b,e⟩)⟩
structure Hq (C:Addr)(H:Hp)(s x:Addr)(p:Int)(w N D Cc G B:Nat)(steps:List (List Int))(fs:List Rx.Fd)(us:List (List Int)):Prop where
 hS:lH H s steps
 fa:vX C H x p w steps fs us
 fo:Lg p w N steps fs us
 fm:Rx.xM p w steps fs us D Cc
 nb:Nb p fs.length D Cc G B N
 DG:D<=G
 CG:Cc<=G
 lw:∀y∈steps,y.length=w/\Bd N y
 w4:w<=420
 p3:1000<=p
 sz:steps.length<=420
theorem Hq.same {C:Addr}{H H':Hp}{s x:Addr}{p:Int}{w N D Cc G B:Nat}{steps:List (List Int)}{fs:List Rx.Fd}{us:List (List Int)}(h:Hq C H s x p w N D Cc G B steps fs us)(sm:jU H H'):Hq C H' s x p w N D Cc G B steps fs us :=
 ⟨h.hS.same sm,h.fa.same sm,h.fo,h.fm,h.nb,h.DG,h.CG,h.lw,h.w4,h.p3,h.sz⟩
inductive OO (C:Addr)(vs:List V)(H:Hp)(Q:VK)(E_:XK):Prop
 | mk (s x gm gt:Addr)(steps:List (List Int))(fs:List Rx.Fd)(us:List (List Int))(goal oP:List Int)(gb p:Int)(w N D Cc G B:Nat)(_:vs=[.ref s,.ref x,.ref gm])(_:Hq C H s x p w N D Cc G B steps fs us)(_:H gm=some (.tup [.ref gt,.int gb]))(_:H gt=some (.lst (oP.map V.int)))(_:goal.length=w)(_:Rx.II steps fs D N (Rx.fn goal) oP gb)(_:∀t wt H' W s,jU H H'->H' t=some (.tup [.str "bar",.ref wt,.int s])->H' wt=some (.lst (W.map V.int))->W.length=w->1<=s->Bd N W->Rx.Fi steps goal W s->Q (.ref t) H')(_:∀t ct H' cnts,jU H H'->H' t=some (.tup [.str "way",.ref ct])->H' ct=some (.lst (cnts.map V.int))->cnts.length=steps.length->Bd 40000 cnts->(∀i:Nat,i<fs.length->(Ld.S steps.length fun j=>Rx.st steps j.toNat (Rx.cl fs i)*Lt.g cnts j.toNat)=Lt.g goal (Rx.cl fs i))->Q (.ref t) H')
theorem uR (T:Txt K mg CF tL tF tM):Df P w K mg base 10 "sought_within" ["steps","frame","goal_made"] (OO CF):=by
 refine kR T.d_sought_within uU fun f cdv A outer s H vs Q E hr nd h=>?_;obtain⟨s',x,gm,gt,steps,fs,us,goal,oP,gb,p,w',N,D,Cc,G,B,rfl,e0,Rf,SK,SM,Aq,qb,qw⟩:=h;have nb:=e0.nb;have N1:=nb.N1;have N2:=nb.N2;have eN:=n9 N;refine⟨_,(jK (kh 3 nd (lR ke)) (jK (kh 4 nd (kf (rn T) hr (jL (pv 3) (jL (pv 0) (jL (pv 1) (jL (pv 2) ke)))))) (jK (mP aJ (lI nS (ki j9 (pv 4) jM) oG) (jK (kh 5 nd (kf (nY T) hr (ko (pv 0) (pv 4)))) (jK (kY (lI zO (pv 5) rH) (jQ (j4 (pv 4))) kD) (jK (mR (t6 cM cD cF mS (pv 3) (kL (lL (ko (pv 5) (xn (pv 1) T.cl_Frame (rh T) (hr.mono O) (kL (ki kN (pv 0) (pv 5))))))))) (jQ (kh 4 nd (kf (rn T) hr (jL (pv 3) (jL (pv 0) (jL (pv 1) (jL (pv 2) ke))))))))))) (jQ (j4 (pv 4)))))),?_⟩;refine⟨nF O,fun zgS hO=>?_⟩;have Ku:jU H (upd H zgS (.lst [])):=jR (jU.refl _) hO;have Q5:upd H zgS (.lst []) zgS=some (.lst (([]:List Addr).map V.ref)):=jO;generalize upd H zgS (.lst [])=H0 at Ku Q5 ⊢;have szs:∀os:List Ot,(∀o∈os,o.1<steps.length/\Rx.II steps fs D N (Rx.st steps o.1) o.2.1 o.2.2)->(os.map (fun o=>o.1)++Rx.numsOf fs).Nodup->fs.length+os.length<=420:=fun os mo Rh=>by
  have lt:∀n∈os.map (fun o=>o.1)++Rx.numsOf fs,n<steps.length:=fun n hn=>by
   rcases List.mem_append.mp hn with c | c
   .obtain⟨o,ho,rfl⟩:=List.mem_map.mp c;exact(mo o ho).1
   .exact Rx.vL e0.fo.crn n c
  have ln:=Rx.Fx Rh lt;rw[aI,aa] at ln;have Kt:(Rx.numsOf fs).length=fs.length:=by unfold Rx.numsOf;rw[List.length_map]
  have sz:=e0.sz;lia
 have RF:steps.length<=20000:=by have:=e0.sz;lia
 have Ky:=e0.same Ku;have RG:(([]:List Ot).map (fun o=>o.1)++Rx.numsOf fs).Nodup:=by rw[iI,ii];exact e0.fo.crn.D4
 have mo0:∀o∈([]:List Ot),o.1<steps.length/\Rx.II steps fs D N (Rx.st steps o.1) o.2.1 o.2.2:=fun o ho=>(nomatch ho);refine⟨_,Z,_,Z,_,Z,_,Z,zgS,s',x,gm,gt,[],steps,fs,us,goal,oP,gb,p,w',N,D,Cc,G,B,Z,⟨[],Q5,.nil⟩,Ky.hS,Ky.fa,Ky.fo,Ky.fm,Ky.nb,Ky.DG,Ky.lw,Ky.w4,Ky.p3,RF,szs [] mo0 RG,Ku _ _ Rf,Ku _ _ SK,SM,Aq,mo0,RG,fun t0 H1 lU td0=>?_⟩;refine⟨fun mm σ H'=>jU H H'/\∃(os:List Ot)(as:List Addr)(t:Addr)(o1:Option V),σ=[some (.ref s'),some (.ref x),some (.ref gm),some (.ref zgS),some (.ref t),o1]/\H' zgS=some (.lst (as.map V.ref))/\Paired (Gn H') as os/\(∀o∈os,o.1<steps.length/\Rx.II steps fs D N (Rx.st steps o.1) o.2.1 o.2.2)/\(os.map (fun o=>o.1)++Rx.numsOf fs).Nodup/\Za w' N steps fs os goal H' t/\mm=steps.length-os.length,
  ⟨_,Ku.trans lU,[],[],t0,none,Z,lU _ _ Q5,.nil,fun o ho=>(nomatch ho),by rw[iI,ii];exact e0.fo.crn.D4,td0,Z⟩,?_⟩
 rintro mm σ H' ⟨sm,os,as,t,o1,rfl,Os,pa,mo,Rh,td,rfl⟩;rcases td with ⟨wt,W,s0,ht,SO,sb⟩ | ⟨ct,cnts,ht,hct,lc,bc,YJ⟩
 rotate_left
 .have i0:me [V.str "way",V.ref ct] 0=some (.str "way"):=Z;refine⟨_,Z,t,_,_,_,Z,Z,kQ.of ht,i0,Z,_,Z,mB L ?_⟩;exact⟨_,Z,qw t ct H' cnts sm ht hct lc bc YJ⟩
 have i0:me [V.str "bar",V.ref wt,V.int s0] 0=some (.str "bar"):=Z;refine⟨_,Z,t,_,_,_,Z,Z,kQ.of ht,i0,Z,_,Z,qx L ⟨_,fun _ _ h=>h,?_⟩⟩;have Wb:Bd N W:=vY sb.sN sb.AI;have e1:=e0.same sm;have s1:=sb.s1;have w4:=e0.w4;refine⟨_,Z,_,Z,s',t,wt,_,steps,W,s0,w',N,N,Z,e1.hS,ht,SO,sb.len,e0.lw,Wb,J,J,J,J,fun n H2 lQ hn ndv=>?_,fun H2 lQ al=>?_⟩
 .-- one more
  refine⟨_,Z,Z,_,Z,mB jH ?_⟩;have e2:=e1.same lQ;obtain⟨sas,Q9,hs2⟩:=e2.hS;obtain⟨dx,ff,ch,co,ro,un,hx,_⟩:=e2.fa.ex;obtain⟨a,Kq,ha⟩:=xl hs2 (Rx.lZ hn);have ll:=e0.lw _ (Rx.k5 (rows:=steps) hn);have gst:∀c:Nat,Lt.g (steps.getD n []) c=Rx.st steps n c:=fun c=>by unfold Rx.st;rw[Int.toNat_natCast]
  refine⟨_,Z,.inl ⟨Z,_,j6.of (lQ _ _ Os)⟩,_,Z,_,Z,x,dx,_,Z,hx,yg _ _ _ _ _ _ _ _,_,Z,_,Z,s',_,_,_,Z,Z,j6.of Q9,Kq,x,a,steps,fs,us,steps.getD n [],p,w',N,D,Cc,G,B,Z,e2.fa,e2.fo,e2.fm,e2.nb,e2.lw,w4,e0.p3,ha,ll.1,fun c hc=>?_,fun tm tt H3 tops b k9 htm qG lt b1 bD bN bt sol=>?_⟩
  .rw[gst];exact bL (e0.fm.bd n c hn hc) e0.CG
  have mad:Rx.II steps fs D N (Rx.st steps n) tops b:=⟨lt,b1,bD,bN,bt,fun i hi=>by rw[<-gst];exact sol i hi⟩;refine⟨jP,fun tn htn=>?_⟩;have YK:=jR (o:=.tup [.int (n:Nat),.ref tm]) (jU.refl H3) htn;have C6:=(lQ.trans k9).trans YK;have NI:=C6 _ _ Os;have lno:n∉os.map (fun o=>o.1)++Rx.numsOf fs:=fun hm=>by
   rcases List.mem_append.mp hm with c | c
   .obtain⟨o,ho,e⟩:=List.mem_map.mp c;exact ndv (by have:=sb.ot o ho;rwa [e] at this)
   .unfold Rx.numsOf at c;obtain⟨f,hf,e⟩:=List.mem_map.mp c;obtain⟨j,hj,ej⟩:=List.getElem_of_mem hf;have:=sb.ch j hj;have en:Rx.nm fs j=n:=by unfold Rx.nm;rw[Rx.getD_at (List.getElem?_eq_getElem hj),ej,e]
    rw[en] at this;exact ndv this
  have nd2:((os++[((n:Nat),tops,b)]).map (fun o=>o.1)++Rx.numsOf fs).Nodup:=by
   rw[aO,gk];have NR:=g9.mp Rh;rw[g9];refine⟨NR.1,?_,fun a ha b hb=>?_⟩
   .show (n::Rx.numsOf fs).Nodup
    rw[eR];exact⟨fun hm=>lno (bu _ hm),NR.2.1⟩
   .rcases List.mem_cons.mp (show b∈n::Rx.numsOf fs from hb) with e | e
    .rw[e];exact fun z=>lno (cN _ (z▸ha))
    .exact NR.2.2 a ha b e
  have RH:∀o∈os++[((n:Nat),tops,b)],o.1<steps.length/\Rx.II steps fs D N (Rx.st steps o.1) o.2.1 o.2.2:=fun o ho=>by
   rcases List.mem_append.mp ho with c | c
   .exact mo o c
   .rw[bw.mp c];exact⟨hn,mad⟩
  have ZF:∀m∈(os++[((n:Nat),tops,b)]).map (fun o=>o.1)++Rx.numsOf fs,m<steps.length:=fun m hm=>by
   rcases List.mem_append.mp hm with c | c
   .obtain⟨o,ho,rfl⟩:=List.mem_map.mp c;exact(RH o ho).1
   .exact Rx.vL e0.fo.crn m c
  have ln:=Rx.Fx nd2 ZF;rw[aI,aa,aI] at ln;have ln':os.length+1<=steps.length:=by have:os.length + [((n:Nat),tops,b)].length+(Rx.numsOf fs).length<=steps.length:=ln;rw[dD] at this;lia
  have sz:=e0.sz;have k0:=sb.k0;have nonil:∀o∈os++[((n:Nat),tops,b)],o.2.1≠[]:=fun o ho z=>by
   have:=(RH o ho).2.len;rw[z] at this;simp at this;lia
  refine⟨zgS,_,_,Z,Z,NI,by rw[aa,j7 pa];exact mH J,?_⟩;have push:=Kc (o:=((n:Nat),tops,b)) NI (AO C6 pa) (fun o ho=>nonil o (cN _ ho)) jO (YK _ _ htm) (YK _ _ qG) (nonil _ (bu _ aq));have Ei:jU H (upd (upd H3 tn (.tup [.int (n:Nat),.ref tm])) zgS (.lst (as.map V.ref++[.ref tn]))):=kK (sm.trans C6) hO;generalize upd (upd H3 tn (.tup [.int (n:Nat),.ref tm])) zgS (.lst (as.map V.ref++[.ref tn]))=H5 at push Ei ⊢;have e5:=e0.same Ei;refine⟨_,Z,_,Z,_,Z,_,Z,zgS,s',x,gm,gt,_,steps,fs,us,goal,oP,gb,p,w',N,D,Cc,G,B,Z,push,e5.hS,e5.fa,e5.fo,e5.fm,e5.nb,e5.DG,e5.lw,e5.w4,e5.p3,RF,szs _ RH nd2,Ei _ _ Rf,Ei _ _ SK,SM,Aq,RH,nd2,fun t2 H6 sx td6=>?_⟩;obtain⟨as2,p1,p2⟩:=push.same sx;exact⟨steps.length-(os.length+1),J,Ei.trans sx,_,as2,t2,_,Z,p1,p2,RH,nd2,td6,by rw[aI];rfl⟩
 .refine⟨_,Z,Z,_,Z,qx jH ?_⟩;exact⟨_,Z,qb t wt H2 W s0 (sm.trans lQ) (lQ _ _ ht) (lQ _ _ SO) sb.len sb.s1 Wb ⟨al,sb.go⟩⟩
structure Nk (k C Cg N B G:Nat):Prop where
 a1:(2*(k*C)+1)^k<=B
 a2:(2*(k*C)+1)^k<=G
 a3:k*((2*(k*C)+1)^k*(Sg.uH k C*G))<=B
 a4:1<=B
 a5:128*(B*B)*(128*(B*B))*2^480<=2^N
 a6:G<2^N
 a7:C<=G
 a8:Cg<=G
theorem Nc {p:Int}(p0:0<=p)(IN:p<2^30):p^16<=2^480:=by
 have a:=gV (show p.toNat<=2^30 by lia) 16;have c:((p.toNat^16:Nat):Int)=p^16:=by rw[dQ,show ((p.toNat:Nat):Int)=p by lia]
 have d:(2^30)^16=2^480:=by rw[<-Nat.pow_mul]
 rw[d] at a;have e:=n9 480;lia
theorem PC {p:Int}{k D C Cg N B G:Nat}(p0:0<=p)(IN:p<2^30)(Db:D<=(2*(k*C)+1)^k)(h:Nk k C Cg N B G)(N1:480<=N)(N2:N<=9000):Nb p k D C G B N/\D<=G:=by
 refine⟨⟨bL Db h.a1,bL (ef _ (cB _ Db)) h.a3,h.a4,?_,h.a6,N1,N2⟩,bL Db h.a2⟩;have a:=Nc p0 IN;have b:(0:Int)<=128*((B:Int)*B)*(128*((B:Int)*B)):=by
  have:(0:Int)<=(B:Int)*B:=bE J J;exact bE J J
 have c:=aA a b;have d:((128*(B*B)*(128*(B*B))*2^480:Nat):Int)=128*((B:Int)*B)*(128*((B:Int)*B))*2^480:=by
  simp only[Int.natCast_mul,Int.natCast_pow];rfl
 have e:=n9 N;have f:=h.a5;lia
theorem G3 {H:Hp}{as:List Addr}{rows:List (List Int)}(pa:Paired (fun a (x:List Int)=>H a=some (.lst (x.map V.int))) as rows):∀{ps:List Nat},(∀q∈ps,q<rows.length)->∃bs:List Addr,pk (as.map V.ref) ps=bs.map V.ref/\Paired (fun a (x:List Int)=>H a=some (.lst (x.map V.int))) bs (ps.map fun q=>rows.getD q [])
 | [],_=>⟨[],Z,.nil⟩
 | q::ps,h=>by
  obtain⟨bs,e,p⟩:=G3 pa (ps:=ps) fun z hz=>h z (List.mem_cons_of_mem _ hz);have ql:=h q aq;have la:=j7 pa;have ha:as[q]?=some (as[q]'J):=ax J;obtain⟨row,hr,hh⟩:=kU pa ha;refine⟨as[q]'J::bs,?_,.cons (by dsimp only;rw[Rx.uc hr];exact hh) p⟩;show (as.map V.ref).getD q .non::pk (as.map V.ref) ps=_
  rw[e,ah,af,ha];rfl
inductive Tr (C:Addr)(vs:List V)(H:Hp)(Q:VK)(E_:XK):Prop
 | mk (s gl:Addr)(steps:List (List Int))(goal:List Int)(p:Int)(w N Cc Cg:Nat)(_:vs=[.ref s,.ref gl,.int p])(_:lH H s steps)(_:H gl=some (.lst (goal.map V.int)))(_:∀y∈steps,y.length=w/\Bd N y)(_:goal.length=w)(_:w<=420)(_:steps.length<=420)(_:Pt.m9 p)(_:1000<=p)(_:p<2^30)(_:480<=N)(_:N<=9000)(_:1<=Cc)(_:∀j c:Nat,j<steps.length->c<w->(Rx.st steps j c).natAbs<=Cc)(_:∀c,c<w->(Lt.g goal c).natAbs<=Cg)(_:∀k,k<=steps.length->k<=w->∃B G,Nk k Cc Cg N B G)(_:∀t wt H' W s,jU H H'->H' t=some (.tup [.str "bar",.ref wt,.int s])->H' wt=some (.lst (W.map V.int))->W.length=w->0<=s->Bd (N+1) W->(Mx.Good p w steps.length (Rx.st steps) (Rx.fn goal)->Rx.Fi steps goal W s)->Q (.ref t) H')(_:∀t ct H' cnts,jU H H'->H' t=some (.tup [.str "way",.ref ct])->H' ct=some (.lst (cnts.map V.int))->cnts.length=steps.length->Bd 40000 cnts->(Mx.Good p w steps.length (Rx.st steps) (Rx.fn goal)->Rx.Hj w steps goal cnts)->Q (.ref t) H')
theorem EK (T:Txt K mg CF tL tF tM):Df P w K mg base 11 "sought" ["steps","goal","prime"] (Tr CF):=by
 refine kR T.d_sought EC fun f cdv A outer s H vs Q E hr nd h=>?_;obtain⟨s',gl,steps,goal,p,w',N,Cc,Cg,rfl,hS,hg,lw,lg,w4,s4,hp,p3,IN,N1,N2,C1,bs,bg,num,qb,qw⟩:=h;have eN:=n9 N;have lw1:∀y∈steps,y.length=w':=fun y hy=>(lw y hy).1;refine⟨_,(jK (kh 3 nd (MO (ya T) (hr.mono O) jI (jL (pv 0) (jL (nQ T.b_len (pv 1)) (jL (pv 2) ke))))) (jK (kh 4 nd (xn (pv 3) T.cl_Frame (vB T) (hr.mono O) (kL (pv 1)))) (jK (kY (lI zO (pv 4) rH) (jQ (j4 (kf (uR T) hr (jL (pv 0) (jL (pv 3) (jL (xn (pv 3) T.cl_Frame (rh T) (hr.mono O) (kL (pv 1))) ke)))))) kD) (jK (kh 5 nd (xn (pv 3) T.cl_Frame (qo T) (hr.mono O) (kL (kf (uq T) hr (ko (kf (u7 T) hr (ko (pv 0) (mF (pv 3) Z))) (pv 4)))))) (jK (tj 6 [] ["number"] nd (kG (ki j9 (pv 5) jM)) (fun C s H fp=>⟨(nT 0),kq,(rM pf (pv 0))⟩)) (jK (oM (ki j9 (pv 5) jM) (oH (pv 6) (pv 4) set_list)) (jQ (j4 (lL (jL oG (jL (pv 6) (jL jM ke)))))))))))),?_⟩;refine⟨_,Z,_,Z,gl,_,Z,.inl (j6.of hg),_,Z,fun x dx nx ndx ne=>?_⟩;have qZ:jU H (upd (upd H dx (.own x)) x (.ins CF dx [])):=fun b o e=>by
  rw[j5 (j8 e nx),j5 (j8 e ndx)];exact e
 refine⟨x,s',dx,steps,p,w',N,(by rw[aa,lg];rfl),jO,hS.same qZ,lw,w4,J,hp,IN,N1,N2,fun H1 fs us kx fa fo=>⟨Z,?_⟩⟩;have lU:jU H H1:=fun b o e=>kx b o (qZ b o e) (j8 e nx);have kl:=fo.crn.fr.EM hp;obtain⟨D,fm⟩:=Rx.xM.mk' hp fo.crn fo.ul (fun u hu=>(fo.uw u hu).1) fo.li C1 bs;obtain⟨B,G,nk⟩:=num fs.length kl.1 kl.2;obtain⟨nb,DG⟩:=PC J IN fm.Db nk N1 N2;obtain⟨SV,ff,ch,co,ro,un,hx,hff,Ao,_⟩:=fa.ex;have hg1:=lU _ _ hg;have e0:Hq CF H1 s' x p w' N D Cc G B steps fs us:=⟨hS.same lU,fa,fo,fm,nb,DG,nk.a7,lw,w4,p3,s4⟩;refine⟨_,Z,x,SV,_,Z,hx,EO _ _ _ _ _ _ _ _,_,Z,x,gl,steps,fs,us,goal,p,w',N,Z,fa,fo,hp,IN,N1,N2,w4,hg1,lg,fun c H2 lQ hc nz=>?_,fun H2 lQ z=>?_⟩
 .refine⟨_,Z,Z,_,Z,mB jH ?_⟩;have nw:=lU.trans lQ;obtain⟨sas,Q9,hs2⟩:=hS.same nw;have NJ:=j7 hs2;have SW:=lQ _ _ hx;have nl:=Rx.vL fo.crn;have Kt:(Rx.numsOf fs).length=fs.length:=by unfold Rx.numsOf;rw[List.length_map]
  refine⟨_,Z,x,SV,_,Z,SW,w9 _ _ _ _ _ _ _ _,_,Z,_,Z,x,CF,SV,_,_,Z,SW,T.cl_Frame,T.na_chosen,yz _ _ _ _ _ _ _ _,s',ch,_,Rx.numsOf fs,Z,j6.of Q9,lQ _ _ Ao,fun q hq=>by rw[aa,NJ];exact nl q hq,J,fun t1 H3 k9 _ h3=>?_⟩;obtain⟨bs3,e3,Yr⟩:=G3 (kT k9 hs2) (ps:=Rx.numsOf fs) nl;rw[e3] at h3;have lpk:∀row∈(Rx.numsOf fs).map fun q=>steps.getD q [],c<row.length:=fun row lE=>by
   obtain⟨q,hq,rfl⟩:=List.mem_map.mp lE;rw[(lw _ (Rx.k5 (rows:=steps) (nl q hq))).1];exact hc
  refine⟨_,Z,t1,(Rx.numsOf fs).map (fun q=>steps.getD q []),c,Z,⟨bs3,h3,Yr⟩,lpk,by rw[aa];lia,fun t2 H4 mi _ h4=>?_⟩;obtain⟨am,Rr⟩:∃am:List Int,am=((Rx.numsOf fs).map fun q=>steps.getD q []).map fun row=>Lt.g row c:=⟨_,Z⟩;rw[<-Rr] at h4;have lam:am.length=fs.length:=by rw[Rr,aa,aa,Kt]
  have Sr:∀i,i<fs.length->Lt.g am i=Lt.g (steps.getD (Rx.nm fs i) []) c:=fun i hi=>Rx.lB (by rw[Rr,af,af,Rx.D0 hi];rfl);have RJ:=(lQ.trans k9).trans mi;have Yz:∀i,i<fs.length->(Lt.g am i).natAbs<=G:=fun i hi=>by
   rw[Sr i hi];have:=bs (Rx.nm fs i) c (fo.crn.sI hi) hc;unfold Rx.st at this;rw[ae] at this;exact bL this nk.a7
  have e4:=e0.same RJ;refine⟨x,t2,steps,fs,us,am,p,w',N,D,Cc,G,B,Z,e4.fa,fo,fm,nb,lw,w4,p3,h4,lam,Yz,fun tt W0 H5 tops b mL qG hW0 _ lt b1 bD bN bt sol=>?_⟩;have i0:me [V.ref W0,V.int b] 0=some (.ref W0):=Z;have i1:me [V.ref W0,V.int b] 1=some (.int b):=Z;refine⟨_,Z,tt,_,_,_,Z,Z,kQ.of qG,i0,W0,Z,⟨_,j6.of hW0⟩,?_⟩;refine lJ (K:=K) (xs:=(Rx.uT w' (Rx.kC fs) tops).map V.int) ((Rx.uT w' (Rx.kC fs) tops).map fun y=>-y) zgX zgZ (j6.of hW0) ?_ ?_
  .intro i y H6 hy sx R kk;obtain⟨u,rfl,hu⟩:=int_at hy;exact⟨_,Z,_,Z,kk _ _ (jU.refl _) (by rw[af,hu];rfl)⟩
  intro wa H6 sx nwa hwa;refine⟨_,Z,tt,_,_,_,Z,Z,kQ.of (sx _ _ qG),i1,_,Z,_,Z,wa,_,_,_,Z,Z,hwa,oX J (by rw[aa,aa,Rx.ow];lia),?_⟩;rw[ae,set_int];have ux:=((lU.trans RJ).trans mL);have Ei:jU H (upd H6 wa (.lst ((((Rx.uT w' (Rx.kC fs) tops).map fun y=>-y).set c b).map V.int))):=kK (ux.trans sx) (ux.free nwa);have hU:upd H6 wa (.lst ((((Rx.uT w' (Rx.kC fs) tops).map fun y=>-y).set c b).map V.int)) wa=some (.lst ((((Rx.uT w' (Rx.kC fs) tops).map fun y=>-y).set c b).map V.int)):=jO;generalize upd H6 wa (.lst ((((Rx.uT w' (Rx.kC fs) tops).map fun y=>-y).set c b).map V.int))=H7 at Ei hU ⊢;refine⟨_,Z,jY,fun tr SC=>?_⟩;refine qb tr wa _ _ 0 (jR Ei SC) jO (jR (jU.refl _) SC _ _ hU) (by rw[cf,aa,Rx.ow]) (dY 0) (fun y hy=>?_) fun gd=>?_
  .rw[dH];rcases List.mem_or_eq_of_mem_set hy with z | z
   .obtain⟨u,hu,rfl⟩:=List.mem_map.mp z;rw[gR];rcases Rx.DK hu with e | e
    .rw[e];have:=e9 (n:=N) (show 0<2 by decide);show 0<_;lia
    .have:=bt u e;lia
   .rw[z];lia
  .exact Rx.Go hp fo.crn fm.Zd lw1 lg lt hc nz b1 Sr sol gd
 .refine⟨_,Z,Z,_,Z,qx jH ?_⟩;have SW:=lQ _ _ hx;have e2:=e0.same lQ;have nw:=lU.trans lQ;have hm:Mx.Hm p w' (Rx.st steps) fs.length (Rx.nm fs) (Rx.fn goal):=fo.crn.hm J lg z;refine⟨_,Z,_,Z,_,Z,x,SV,_,Z,SW,yg _ _ _ _ _ _ _ _,_,Z,x,gl,steps,fs,us,goal,p,w',N,D,Cc,G,B,Z,e2.fa,fo,fm,nb,lw,w4,p3,lQ _ _ hg1,lg,fun c hc=>bL (bg c hc) nk.a8,fun t tt H3 tops b k9 ht qG lt b1 bD bN bt sol=>?_⟩;have e3:=e2.same k9;refine⟨s',x,t,tt,steps,fs,us,goal,tops,b,p,w',N,D,Cc,G,B,Z,e3,ht,qG,lg,⟨lt,b1,bD,bN,bt,fun i hi=>by rw[sol i hi];unfold Rx.fn;rw[Int.toNat_natCast]⟩,fun t wt H4 W s mi h1 h2 lW s1 bW sh=>?_,fun t ct H4 cnts mi h1 h2 lc bc YJ=>?_⟩
  .exact qb t wt H4 W s ((nw.trans k9).trans mi) h1 h2 lW J (qM bW J) fun _=>sh
  .exact qw t ct H4 cnts ((nw.trans k9).trans mi) h1 h2 lc bc fun gd=>Rx.EQ hp fo.crn gd hm YJ
def PV (w:Nat)(steps:List (List Int))(goal:List Int)(H:Hp)(t:Addr)(Q:VK):Prop :=
 (∃wt W s N,H t=some (.tup [.str "bar",.ref wt,.int s])/\H wt=some (.lst (W.map V.int))/\W.length=w/\0<=s/\Bd N W/\N<=1000000/\(∀H',jU H H'->Rx.Fi steps goal W s->Q (.bl true) H')/\∀H',jU H H'->¬Rx.Fi steps goal W s->Q (.bl false) H') \/
 ∃ct cnts,H t=some (.tup [.str "way",.ref ct])/\H ct=some (.lst (cnts.map V.int))/\cnts.length=steps.length/\Bd 40000 cnts/\(∀H',jU H H'->Rx.Hj w steps goal cnts->Q (.bl true) H')/\∀H',jU H H'->¬Rx.Hj w steps goal cnts->Q (.bl false) H'
inductive Vh (K:PySem.W.Frag)(vs:List V)(H:Hp)(Q:VK)(E_:XK):Prop
 | mk (s gl t:Addr)(steps:List (List Int))(goal:List Int)(w N:Nat)(_:vs=[.ref s,.ref gl,.ref t])(_:lH H s steps)(_:H gl=some (.lst (goal.map V.int)))(_:∀y∈steps,y.length=w/\Bd N y)(_:goal.length=w)(_:Bd N goal)(_:w<=420)(_:steps.length<=420)(_:N<=1000000)(_:PV w steps goal H t Q)
theorem Bh (T:Txt K mg CF tL tF tM):Df P w K mg base 4 "is_shown" ["steps","goal","told"] (Vh K):=by
 refine kR T.d_is_shown Bc fun f cdv A outer s H vs Q E hr nd h=>?_;obtain⟨s',gl,t,steps,goal,w',N,rfl,hS,hg,lw,lg,bg,w4,s4,N1,tl⟩:=h;refine⟨_,(jK (kY (lI nS (ki j9 (pv 2) jM) oG) (jQ (j4 (ol (Gg (Ja hr)) (kf (yo T) hr (jL (pv 0) (jL (ki j9 (pv 2) jM) (jL (nQ T.b_len (pv 1)) ke)))) (pv 1) (pJ _)))) kD) (jQ (j4 (Bz (ol zO (kf (nY T) hr (ko (pv 0) (pv 2))) rH (pJ _)) (B5 (ol nS (kf (nY T) hr (ko (lR (kL (pv 1))) (pv 2))) jM (pJ _))))))),?_⟩;rcases tl with ⟨wt,W,s0,M,ht,hw,lW,s1,bW,M1,qt,qf⟩ | ⟨ct,cnts,ht,hc,lc,bc,qt,qf⟩
 .have i0:me [V.str "bar",V.ref wt,V.int s0] 0=some (.str "bar"):=Z;refine⟨_,Z,t,_,_,_,Z,Z,kQ.of ht,i0,Z,_,Z,mB L ?_⟩;have fin:∀H1:Hp,jU H H1->(∀j,j<steps.length->s0∣Rx.dot (steps.getD j []) W)->iu:=fun _ _ _=>trivial;refine⟨_,Z,_,Z,s',t,wt,_,steps,W,s0,w',N,M,Z,hS,ht,hw,lW,lw,bW,J,N1,M1,s1,fun n H1 lU hn ndv=>?_,fun H1 lU al=>?_⟩
  .refine⟨Z,_,Z,mB jH ?_⟩;exact qf H1 lU fun sh=>ndv (sh.1 n hn)
  .refine⟨Z,_,Z,qx jH ?_⟩;refine⟨_,Z,jS,fun l1 Fs=>?_⟩;have lQ:=jR (o:=.lst [V.ref gl]) (jU.refl H1) Fs;have nw:=lU.trans lQ;have hl:upd H1 l1 (.lst [V.ref gl]) l1=some (.lst ([gl].map V.ref)):=jO;generalize upd H1 l1 (.lst [V.ref gl])=H2 at lQ nw hl ⊢;refine⟨_,Z,l1,t,wt,_,[goal],W,s0,w',N,M,Z,⟨[gl],hl,.cons (nw _ _ hg) .nil⟩,nw _ _ ht,nw _ _ hw,lW,fun y hy=>by rw[bw.mp hy];exact⟨lg,bg⟩,bW,J,N1,M1,s1,fun n H3 k9 hn ndv=>?_,fun H3 k9 al2=>?_⟩
   .have n0:n=0:=by rw[dD] at hn;lia
    subst n0;refine⟨Z,?_⟩;exact qt H3 (nw.trans k9) ⟨al,ndv⟩
   .refine⟨Z,?_⟩;exact qf H3 (nw.trans k9) fun sh=>sh.2 (al2 0 (by rw[dD];exact Nat.one_pos))
 .have i0:me [V.str "way",V.ref ct] 0=some (.str "way"):=Z;have i1:me [V.str "way",V.ref ct] 1=some (.ref ct):=Z;refine⟨_,Z,t,_,_,_,Z,Z,kQ.of ht,i0,Z,_,Z,qx L ?_⟩;refine⟨_,Z,_,Z,t,_,_,_,Z,Z,kQ.of ht,i1,_,Z,gl,_,Z,.inl (j6.of hg),s',ct,steps,cnts,w',steps.length,N,40000,(by rw[aa,lg];rfl),hS,hc,Z,lc,lw,bc,J,J,N1,O,fun o H1 out lU ho lo eqs=>?_⟩;refine⟨_,Z,Ge (j6.of ho) (j6.of (lU _ _ hg)) ?_⟩
  by_cases e:out=goal
  .rw[cm e];exact qt H1 lU fun c hc=>by rw[<-eqs c hc,e]
  .rw[d5 e];exact qf H1 lU fun sh=>e (Rx.PN (by rw[lo,lg]) fun c hc=>by rw[eqs c J];exact sh c J)
theorem G9 {a b:Int}(h1:-1000000000000<=a)(h2:a<=1000000000000):IntMulOk a b:=qB h1 h2
inductive OL (vs:List V)(H:Hp)(Q:VK)(E_:XK):Prop
 | mk (n p:Int)(_:vs=[.int n,.int p])(_:1<=n)(_:n<=1000010000)(_:2<=p)(_:p<=31625)(_:∀q,Pt.BK n p q->Q (.int q) H)
inductive FI (vs:List V)(H:Hp)(Q:VK)(E_:XK):Prop
 | mk (n:Int)(_:vs=[.int n])(_:1<=n)(_:n<=1000010000)(_:∀r H' ps,jU H H'->H r=none->Fz H' r ps->Pt.Parts n ps->Q (.ref r) H')
theorem vx (T:Txt K mg CF tL tF tM):Df P w K mg base 1 "prime_power" ["n","p"] OL:=by
 refine kR T.d_prime_power wu fun f cdv A outer s H vs Q E hr nd h=>?_;obtain⟨n,p,rfl,n1,n2,p1,p2,q⟩:=h;refine⟨_,(jK (kh 2 nd jM) (jK (mP aJ (lI nS (jV kJ (pv 0) (jV ks (pv 2) (pv 1))) jM) (jQ (kh 2 nd (jV ks (pv 2) (pv 1))))) (jQ (j4 (pv 2))))),?_⟩;refine⟨fun m σ H'=>H'=H/\∃q,σ=[some (.int n),some (.int p),some (.int q)]/\Pt.Ab n p q/\m=(n-q).toNat,⟨_,Z,1,Z,Pt.q0 n p,Z⟩,?_⟩;rintro m σ H' ⟨rfl,z,rfl,hz,rfl⟩;have z1:=hz.pos;have z2:=Pt.Ji n1 hz;have zp:=Pt.Gz p1 z1;refine⟨_,Z,_,Z,_,Z,_,_,Z,Z,G9 J J,_,_,Z,Z,(show 0<z*p by lia),Z,_,Z,?_⟩;refine mZ (fun c=>?_) (fun c=>?_)
 .have hq:=Pt.q1 p1 hz (uC c);have hl:=Pt.Ji n1 hq;refine⟨_,fun _ _ h=>h,?_⟩;refine⟨_,Z,_,Z,_,_,Z,Z,G9 J J,?_⟩;exact⟨(n-z*p).toNat,J,Z,_,Z,hq,Z⟩
 .exact⟨_,Z,q z (Pt.q2 hz (wF c))⟩
theorem sC (T:Txt K mg CF tL tF tM):Df P w K mg base 2 "parts" ["n"] FI:=by
 refine kR T.d_parts GB fun f cdv A outer s H vs Q E hr nd h=>?_;obtain⟨n,rfl,n1,n2,q⟩:=h;refine⟨_,(jK (kh 1 nd (lR ke)) (jK (kh 2 nd (pv 0)) (jK (kh 3 nd jM) (jK (mP aJ (lI Dy (jV ks (pv 3) (pv 3)) (pv 2)) (jK (kh 4 nd (kf (vx T) hr (ko (pv 2) (pv 3)))) (jK (kY (lI t7 (pv 4) jM) (jK (mR (t6 cM cD cF mS (pv 1) (kL (lL (ko (pv 3) (pv 4)))))) (jQ (kh 2 nd (jV ky (pv 2) (pv 4))))) kD) (jQ (kh 3 nd (jV kM (pv 3) jM)))))) (jK (kY (lI t7 (pv 2) jM) (jQ (mR (t6 cM cD cF mS (pv 1) (kL (lL (ko (pv 2) (pv 2))))))) kD) (jQ (j4 (pv 1)))))))),?_⟩;refine⟨dJ _,fun r yc=>?_⟩;refine⟨_,Z,?_⟩;refine⟨fun m σ H'=>jU H H'/\∃(as:List Addr)(ps:List (Int×Int))(left p:Int)(qv:Option V),σ=[some (.int n),some (.ref r),some (.int left),some (.int p),qv] /\
   H' r=some (.lst (as.map V.ref))/\Paired (fun a (x:Int×Int)=>H' a=some (.tup [.int x.1,.int x.2])) as ps/\Pt.xP n ps left p/\1<=left/\left<=1000010000/\2<=p/\p<=31625/\(ps.length:Int)+2<=p/\m=(40000-p).toNat,
  ⟨_,kK (jU.refl H) yc,[],[],n,2,none,Z,jO,.nil,Pt.start n,n1,n2,J,J,jH,Z⟩,?_⟩
 rintro m σ H' ⟨sm,as,ps,left,p,qv,rfl,hl,pr,inv,l1,l2,p1,p2,hlen,rfl⟩;have al:=fe pr;refine⟨_,Z,_,Z,_,_,Z,Z,G9 J J,_,Z,_,_,Z,Z,_,Z,?_⟩;refine mZ (fun c=>?_) (fun c=>?_)
 .have hd:=dec c;have a:p<=31624:=by
   rcases Int.lt_or_le 31624 p with y | y
   .have:=cS (show 31625<=p by lia) (show 31625<=p by lia) O J;lia
   .exact y
  refine⟨_,fun _ _ h=>h,?_⟩;refine⟨_,Z,_,Z,left,p,Z,l1,l2,p1,J,fun z hz=>?_⟩;refine⟨_,Z,_,_,Z,Z,_,Z,?_⟩;refine mZ (fun c=>?_) (fun c=>?_)
  .have z1:=dec c;have zl:=Pt.Ji l1 hz.inv;have lp:=Pt.Ay l1 hz.inv.dv hz.inv.pos;refine⟨_,Z,.inl ⟨Z,_,j6.of hl⟩,_,Z,_,Z,jP,fun t ht=>?_⟩;have rt:r≠t:=j8 hl ht;refine⟨r,_,_,Z,Z,(j5 rt).trans hl,by rw[aa];exact b3 (show as.length<=40000 by lia) O,?_⟩;refine⟨_,Z,_,Z,_,_,Z,Z,tD J (show z.natAbs<2^40 by lia) O,?_⟩;refine⟨_,Z,_,_,Z,Z,?_⟩;refine⟨(40000-(p+1)).toNat,J,kK (kK sm (sm.free ht)) yc,as++[t],ps++[(p,z)],left/z,p+1,some (.int z),Z,?_,?_,Pt.Ib p1 inv hz z1,lp.1,J,J,J,by rw[aI,dD];lia,Z⟩
   .rw[jO,aO];rfl
   .refine hE (Paired.xU pr fun a x e=>?_) ?_
    .rw[j5 (nV e hl (fun z=>by cases z)),j5 (j8 e ht)];exact e
    .rw[j5 (dj rt)];exact jO
  .refine⟨_,Z,_,_,Z,Z,?_⟩;exact⟨(40000-(p+1)).toNat,J,sm,as,ps,left,p+1,some (.int z),Z,hl,pr,Pt.FQ inv hz (xk c),l1,l2,J,J,J,Z⟩
 .have hd:=xk c;refine⟨_,Z,_,_,Z,Z,_,Z,?_⟩;refine mZ (fun c=>?_) (fun c=>?_)
  .have z1:=dec c;refine⟨_,Z,.inl ⟨Z,_,j6.of hl⟩,_,Z,_,Z,jP,fun t ht=>?_⟩;have rt:r≠t:=j8 hl ht;refine⟨r,_,_,Z,Z,(j5 rt).trans hl,by rw[aa];exact b3 (show as.length<=40000 by lia) O,?_⟩;refine⟨_,Z,?_⟩;refine q r _ (ps++[(left,left)]) (kK (kK sm (sm.free ht)) yc) yc ⟨as++[t],?_,?_⟩ (Pt.OZ p1 inv hd z1)
   .rw[jO,aO];rfl
   .refine hE (Paired.xU pr fun a x e=>?_) ?_
    .rw[j5 (nV e hl (fun z=>by cases z)),j5 (j8 e ht)];exact e
    .rw[j5 (dj rt)];exact jO
  .exact⟨_,Z,q r H' ps sm yc ⟨as,hl,pr⟩ (Pt.MV inv l1 (xk c))⟩
inductive V7 (vs:List V)(H:Hp)(Q:VK)(E_:XK):Prop
 | mk (n P0:Int)(_:vs=[.int n])(_:1<=n)(_:n<P0)(_:P0<=1000010000)(_:Pt.m9 P0)(_:∀(q:Int) H',jU H H'->Pt.m9 q->n<q->q<=P0->Q (.int q) H')
theorem xQ (T:Txt K mg CF tL tF tM):Df P w K mg base 3 "next_prime" ["number"] V7:=by
 refine kR T.d_next_prime xS fun f cdv A outer s H vs Q E hr nd h=>?_;obtain⟨n,P0,rfl,n1,nP,Pz,hP,q⟩:=h;refine⟨_,(jK (kh 1 nd (jV kM (pv 0) jM)) (jK (mP aJ (lI (Fw (Ja hr)) (kf (sC T) hr (kL (pv 1))) (lR (kL (lL (ko (pv 1) (pv 1)))))) (jQ (kh 1 nd (jV kM (pv 1) jM)))) (jQ (j4 (pv 1))))),?_⟩;refine⟨_,Z,_,_,Z,Z,?_⟩;refine⟨fun m σ H'=>jU H H'/\∃f:Int,σ=[some (.int n),some (.int f)]/\n<f/\f<=P0/\m=(P0-f).toNat,⟨_,jU.refl _,n+1,Z,J,J,Z⟩,?_⟩;rintro m σ H' ⟨sm,f,rfl,nf,fP,rfl⟩;refine⟨_,Z,f,Z,J,J,fun r H1 ps lU _ pr pt=>?_⟩;refine⟨_,Z,_,Z,jP,fun t ht=>⟨jS,fun l hl=>?_⟩⟩;have NS:=jR (o:=.tup [V.int f,V.int f]) (jU.refl H1) ht;have sml:=jR (o:=.lst [V.ref t]) NS hl;have pl:Fz (upd (upd H1 t (.tup [V.int f,V.int f])) l (.lst [V.ref t])) l [(f,f)]:=⟨[t],jO,.cons (jR (jU.refl _) hl _ _ jO) .nil⟩;have pr':Fz (upd (upd H1 t (.tup [V.int f,V.int f])) l (.lst [V.ref t])) r ps:=by
  obtain⟨as,e1,e2⟩:=pr;exact⟨as,sml _ _ e1,nC e2 fun _ _ z=>sml _ _ z⟩
 refine JV pr' pl ⟨_,Z,mZ (fun c=>?_) (fun c=>?_)⟩
 .have ne:ps≠[(f,f)]:=fun z=>by rw[cm z] at c;cases c
  have lt:f≠P0:=fun z=>ne (by rw[z];exact Rx.E7 (z▸pt) hP);refine⟨_,fun _ _ h=>h,?_⟩;refine⟨_,Z,_,_,Z,Z,?_⟩;exact⟨(P0-(f+1)).toNat,J,(sm.trans lU).trans sml,f+1,Z,J,J,Z⟩
 .have e:ps=[(f,f)]:=by
   rcases Decidable.em (ps=[(f,f)]) with z | z
   .exact z
   .rw[d5 z] at c;exact absurd Z c
  exact⟨_,Z,q f _ ((sm.trans lU).trans sml) (Rx.ET pt e) nf fP⟩
inductive VB (C:Addr)(vs:List V)(H:Hp)(Q:VK)(E_:XK):Prop
 | mk (s gl:Addr)(steps:List (List Int))(goal:List Int)(w N Cc Cg:Nat)(_:vs=[.ref s,.ref gl])(_:lH H s steps)(_:H gl=some (.lst (goal.map V.int)))(_:∀y∈steps,y.length=w)(_:goal.length=w)(_:w<=420)(_:steps.length<=420)(_:480<=N)(_:N<=9000)(_:1<=Cc)(_:Cc<=Cg)(_:Cg<2^N)(_:∀y∈steps,∀z∈y,z.natAbs<=Cc)(_:∀z∈goal,z.natAbs<=Cg)(_:∀k,k<=steps.length->k<=w->∃B G,Nk k Cc Cg N B G)(_:∀k,k<=steps.length->k<=w->(2*(k*Cc)+1)^k*((k+1)*(Sg.uH k Cg*Cg))<Pq.pd Pq.S)(_:∀t wt H' W s,jU H H'->H' t=some (.tup [.str "bar",.ref wt,.int s])->H' wt=some (.lst (W.map V.int))->W.length=w->0<=s->Bd (N+1) W->Rx.Fi steps goal W s->Q (.ref t) H')(_:∀t ct H' cnts,jU H H'->H' t=some (.tup [.str "way",.ref ct])->H' ct=some (.lst (cnts.map V.int))->cnts.length=steps.length->Bd 40000 cnts->Rx.Hj w steps goal cnts->Q (.ref t) H')
def Zo (w N:Nat)(steps:List (List Int))(goal:List Int)(p:Int)(H1:Hp)(t:Addr):Prop:=(∃wt W s,H1 t=some (.tup [.str "bar",.ref wt,.int s])/\H1 wt=some (.lst (W.map V.int))/\W.length=w/\0<=s/\Bd (N+1) W/\(Mx.Good p w steps.length (Rx.st steps) (Rx.fn goal)->Rx.Fi steps goal W s))\/∃ct cnts,H1 t=some (.tup [.str "way",.ref ct])/\H1 ct=some (.lst (cnts.map V.int))/\cnts.length=steps.length/\Bd 40000 cnts/\(Mx.Good p w steps.length (Rx.st steps) (Rx.fn goal)->Rx.Hj w steps goal cnts)
inductive OQ (C:Addr)(vs:List V)(H:Hp)(Q:VK)(E_:XK):Prop
 | mk (s gl:Addr)(steps:List (List Int))(goal:List Int)(p:Int)(w N Cc Cg:Nat)(_:vs=[.ref s,.ref gl,.int p])(_:lH H s steps)(_:H gl=some (.lst (goal.map V.int)))(_:∀y∈steps,y.length=w/\Bd N y)(_:goal.length=w)(_:w<=420)(_:steps.length<=420)(_:Pt.m9 p)(_:1000<=p)(_:p<2^30)(_:480<=N)(_:N<=9000)(_:1<=Cc)(_:∀j c:Nat,j<steps.length->c<w->(Rx.st steps j c).natAbs<=Cc)(_:∀c,c<w->(Lt.g goal c).natAbs<=Cg)(_:∀k,k<=steps.length->k<=w->∃B G,Nk k Cc Cg N B G)(_:∀t H',jU H H'->Zo w N steps goal p H' t->Q (.ref t) H')
theorem wB (T:Txt K mg CF tL tF tM):Df P w K mg base 11 "sought" ["steps","goal","prime"] (OQ CF):=by
 obtain⟨f,fd,F,rr⟩:=(EK (P:=P) (w:=w) (base:=base) T).ex;refine⟨f,fd,F.imp fun vs H Q E h=>?_,rr⟩;obtain⟨s,gl,steps,goal,p,w',N,Cc,Cg,e,a1,a2,a3,a4,a5,a6,a7,a8,a9,L8,MH,Mc,LS,LP,MK,q⟩:=h;exact⟨s,gl,steps,goal,p,w',N,Cc,Cg,e,a1,a2,a3,a4,a5,a6,a7,a8,a9,L8,MH,Mc,LS,LP,MK,fun t wt H2 W s lQ h1 h2 l z b sh=>q t H2 lQ (.inl ⟨wt,W,s,h1,h2,l,z,b,sh⟩),fun t ct H2 cnts lQ h1 h2 l b sh=>q t H2 lQ (.inr ⟨ct,cnts,h1,h2,l,b,sh⟩)⟩
theorem Gi (T:Txt K mg CF tL tF tM):Df P w K mg base 12 "reach" ["steps","goal"] (VB CF):=by
 refine kR T.d_reach FA fun f cdv A outer s H vs Q E hr nd h=>?_;obtain⟨s',gl,steps,goal,w',N,Cc,Cg,rfl,hS,hg,lw,lg,w4,s4,N1,N2,C1,CC,CN,bs,bg,num,big,qb,qw⟩:=h;have YL:∀y∈steps,y.length=w'/\Bd N y:=fun y hy=>⟨lw y hy,fun z hz=>by have:=bs y hy z hz;lia⟩;have gB:Bd N goal:=fun z hz=>by have:=bg z hz;lia
 have YM:∀j c:Nat,j<steps.length->c<w'->(Rx.st steps j c).natAbs<=Cc:=fun j c hj hc=>by
  unfold Rx.st;rw[ae];have m:=Rx.k5 (rows:=steps) hj;exact bs _ m _ (Rx.nH (by rw[lw _ m];exact hc))
 have YN:∀c:Nat,c<w'->(Lt.g goal c).natAbs<=Cg:=fun c hc=>bg _ (Rx.nH J);obtain⟨P0,PS,good⟩:=Mx.JJ (S:=Pq.S) O (fun q hq=>(Pq.FW hq).1) Pq.Mw (w:=w') (n:=steps.length) (stp:=Rx.st steps) (goal:=Rx.fn goal) C1 CC YM (fun c hc=>by unfold Rx.fn;rw[Int.toNat_natCast];exact YN c hc) big;have hP:=Pq.FW PS;have first:=Pq.FW (p:=1000000007) O;have Ix:Pt.m9 1000000007:=first.1;have IN:(1000010000:Int)<2^30:=O;refine⟨_,(jK (kh 2 nd (vO (v:=.int 1000000007) jI T.g_FIRST_PRIME ⟨_,Z⟩)) (jK (kh 3 nd (kf (wB T) hr (jL (pv 0) (jL (pv 1) (jL (pv 2) ke))))) (jK (mP aJ (nB (mY (kf (Bh T) hr (jL (pv 0) (jL (pv 1) (jL (pv 3) ke)))))) (jK (kh 2 nd (kf (xQ T) hr (kL (pv 2)))) (jQ (kh 3 nd (kf (wB T) hr (jL (pv 0) (jL (pv 1) (jL (pv 2) ke)))))))) (jQ (j4 (pv 3)))))),?_⟩;refine⟨_,Z,_,Z,_,Z,s',gl,steps,goal,1000000007,w',N,Cc,Cg,Z,hS,hg,YL,lg,w4,s4,Ix,O,O,N1,N2,C1,YM,YN,num,fun t0 H1 lU td=>?_⟩;refine⟨fun m σ H'=>jU H H'/\∃(p:Int)(t:Addr),σ=[some (.ref s'),some (.ref gl),some (.int p),some (.ref t)]/\Pt.m9 p/\1000000007<=p/\p<=P0/\Zo w' N steps goal p H' t/\m=((P0:Int)-p).toNat,⟨_,lU,1000000007,t0,Z,Ix,dY _,J,td,Z⟩,?_⟩;rintro m σ H' ⟨sm,p,t,rfl,pp,p1,p2,td,rfl⟩;have next:∀H2:Hp,jU H' H2->¬Mx.Good p w' steps.length (Rx.st steps) (Rx.fn goal)->p<P0:=fun H2 _ ng=>by
  have:p≠P0:=fun z=>ng (by rw[z];exact good);lia
 have C4:∀Qq:VK,(∀H2,jU H' H2->p<P0->Qq (.bl false) H2)->(∀H2,jU H' H2->((∃wt W s,H' t=some (.tup [.str "bar",.ref wt,.int s])/\H' wt=some (.lst (W.map V.int))/\W.length=w'/\0<=s/\Bd (N+1) W/\Rx.Fi steps goal W s)\/∃ct cnts,H' t=some (.tup [.str "way",.ref ct])/\H' ct=some (.lst (cnts.map V.int))/\cnts.length=steps.length/\Bd 40000 cnts/\Rx.Hj w' steps goal cnts)->Qq (.bl true) H2)->PV w' steps goal H' t Qq:=fun Qq F Y=>by
  rcases td with ⟨wt,W,s0,h1,h2,lW,s1,bW,sh⟩ | ⟨ct,cnts,h1,h2,lc,bc,sh⟩
  .exact .inl ⟨wt,W,s0,N+1,h1,h2,lW,s1,bW,J,fun H2 s2 y=>Y H2 s2 (.inl ⟨wt,W,s0,h1,h2,lW,s1,bW,y⟩),fun H2 s2 y=>F H2 s2 (next H2 s2 fun gd=>y (sh gd))⟩
  .exact .inr ⟨ct,cnts,h1,h2,lc,bc,fun H2 s2 y=>Y H2 s2 (.inr ⟨ct,cnts,h1,h2,lc,bc,y⟩),fun H2 s2 y=>F H2 s2 (next H2 s2 fun gd=>y (sh gd))⟩
 refine⟨_,Z,_,Z,_,Z,s',gl,t,steps,goal,w',N,Z,hS.same sm,sm _ _ hg,YL,lg,gB,w4,s4,J,C4 _ (fun H2 lQ lt=>?_) (fun H2 lQ y=>?_)⟩
 .refine⟨_,Z,qx O ⟨_,fun _ _ h=>h,?_⟩⟩;refine⟨_,Z,p,P0,Z,J,lt,J,hP.1,fun q H3 k9 hq lq ql=>?_⟩;have C6:=(sm.trans lQ).trans k9;refine⟨_,Z,_,Z,_,Z,s',gl,steps,goal,q,w',N,Cc,Cg,Z,hS.same C6,C6 _ _ hg,YL,lg,w4,s4,hq,J,J,N1,N2,C1,YM,YN,num,fun t2 H4 mi td4=>?_⟩;exact⟨((P0:Int)-q).toNat,J,C6.trans mi,q,t2,Z,hq,J,J,td4,Z⟩
 .refine⟨_,Z,mB O ?_⟩;rcases y with ⟨wt,W,s0,h1,h2,lW,s1,bW,sh⟩ | ⟨ct,cnts,h1,h2,lc,bc,sh⟩
  .exact⟨_,Z,qb t wt H2 W s0 (sm.trans lQ) (lQ _ _ h1) (lQ _ _ h2) lW s1 bW sh⟩
  .exact⟨_,Z,qw t ct H2 cnts (sm.trans lQ) (lQ _ _ h1) (lQ _ _ h2) lc bc sh⟩
inductive M8 (vs:List V)(H:Hp)(Q:VK)(E_:XK):Prop
 | mk (st n:Int)(_:vs=[.int st,.int n])(_:1<=n)(_:n<=10000)(_:Eh.G st n=1)(_:∀(u:Int) H',1<=u->u<=n->(st*u-1)%n=0->jU H H'->Q (.int u) H')
theorem wD (T:Txt K mg CF tL tF tM):Df P w K mg base 4 "back" ["step","n"] M8:=by
 obtain⟨f,fd,F,rr⟩:=(zM (P:=P) (w:=w) (base:=base) T).ex;refine⟨f,fd,F.imp fun vs H Q E h=>?_,rr⟩;obtain⟨st,n,e,n1,n2,g,q⟩:=h;exact⟨st,n,14,e,n1,O,O,J,fun d d1 dn ds=>Rs.MB g d1 ds dn,fun u H' u1 u2 hu sm=>q u H' u1 u2 (bT hu) sm⟩
inductive Jl (vs:List V)(H:Hp)(Q:VK)(E_:XK):Prop
 | mk (n q hole:Int)(ps:List (Int×Int))(p:Int)(_:vs=[.int n,.int q,.int hole])(_:1<=n)(_:n<=420)(_:Pt.Parts n ps)(_:(p,q)∈ps)(_:∀c H',Rs.Sh n q hole c->jU H H'->Q (.int c) H')
theorem Bg (T:Txt K mg CF tL tF tM):Df P w K mg base 5 "share" ["n","q","hole"] Jl:=by
 refine kR T.d_share HC fun f cdv A outer s H vs Q E hr nd h=>?_;obtain⟨n,q,hole,ps,p,rfl,n1,n2,hp,mem,k⟩:=h;have q2:2<=q:=by obtain⟨_,_,_,_,z,_⟩:=Rs.mM hp mem;exact z
 have qn:q<=n:=by have:=Pt.BQ ps hp.row _ mem;rw[hp.prd] at this;exact this
 refine⟨_,(jQ (j4 (jV kJ (jV ks (pv 2) (kf (wD T) hr (ko (jV ky (pv 0) (pv 1)) (pv 1)))) (pv 1)))),?_⟩;refine⟨_,Z,_,Z,_,Z,_,_,Z,Z,kO jJ jJ,_,Z,_,q,Z,jJ,jJ,Rs.zf hp mem,fun u H1 u1 u2 hu lU=>?_⟩;refine⟨_,_,Z,Z,gN (fi jJ jJ),_,Z,_,_,Z,Z,(show 0<q by omega),?_⟩;exact k _ _ (Rs.wQ jJ hu) lU
inductive Hc (vs:List V)(H:Hp)(Q:VK)(E_:XK):Prop
 | mk (n:Nat)(_:vs=[.int n])(_:1<=n)(_:n<=420)(_:∀r H' ps,jU H H'->H r=none->H' r=some (.lst ((ps.map Prod.fst).map V.int))->Pt.Parts n ps->Q (.ref r) H')
theorem oj (T:Txt K mg CF tL tF tM):Df P w K mg base 1 "_law_primes" ["n"] Hc:=by
 refine kR T.d_law_primes xV fun f cdv A outer s H vs Q E hr nd h=>?_;obtain⟨n,rfl,n1,n2,q⟩:=h;refine⟨_,(jK (kh 1 nd (lR ke)) (jK (kh 2 nd jM) (jK (mP aJ (lI t7 (pv 0) jM) (jK (kY (lI nS (jV kJ (pv 0) (pv 2)) jM) (jQ (mR (t6 cM cD cF mS (pv 1) (kL (pv 2))))) kD) (jK (mP aJ (lI nS (jV kJ (pv 0) (pv 2)) jM) (jQ (kh 0 nd (jV ky (pv 0) (pv 2))))) (jQ (kh 2 nd (jV kM (pv 2) jM)))))) (jQ (j4 (pv 1)))))),?_⟩;refine⟨dJ _,fun r yc=>?_⟩;refine⟨fun m σ H'=>jU H H'/\∃(left p:Int)(ps:List (Int×Int)),σ=[some (.int left),some (.ref r),some (.int p)]/\H' r=some (.lst ((ps.map Prod.fst).map V.int))/\Pt.xP n ps left p/\2<=p/\p<=n+2/\1<=left/\left<=n/\(ps.length:Int)<=p/\m=(n+2-p).toNat,
  ⟨_,kK (jU.refl H) yc,n,2,[],Z,jO,Pt.start n,jJ,jJ,jJ,jJ,jH,Z⟩,?_⟩
 rintro m σ H' ⟨sm,left,p,ps,rfl,Ip,pi,p2,pn,l1,ln,pl,rfl⟩;refine⟨_,Z,_,_,Z,Z,_,Z,?_⟩;refine mZ (fun c=>?_) (fun c=>?_)
 .have lg:=dec c;have ple:p<=left:=by
   rcases Int.lt_or_le left p with z | z
   .exact absurd (c5 left) (pi.Mw left jJ z)
   .exact z
  refine⟨_,fun _ _ h=>h,?_⟩;refine⟨_,Z,_,Z,_,_,Z,Z,(show 0<p by omega),Z,_,Z,?_⟩;refine mZ (fun d=>?_) (fun d=>?_)
  .have d0:=uC d;refine⟨_,Z,.inl ⟨Z,_,j6.of Ip⟩,_,Z,r,_,_,Z,Z,Ip,by rw[aa,aa];exact mH jJ,?_⟩;have Iq:upd H' r (.lst ((ps.map Prod.fst).map V.int++[.int p])) r=some (.lst (((ps.map Prod.fst)++[p]).map V.int)):=by rw[jO,aO];rfl
   have lQ:jU H (upd H' r (.lst ((ps.map Prod.fst).map V.int++[.int p]))):=kK sm yc;generalize upd H' r (.lst ((ps.map Prod.fst).map V.int++[.int p]))=H2 at Iq lQ ⊢;refine⟨fun m σ H3=>H3=H2/\∃(l2 z:Int),σ=[some (.int l2),some (.ref r),some (.int p)]/\Pt.Ab left p z/\l2*z=left/\1<=l2/\l2<=left/\m=l2.toNat,
    ⟨_,Z,left,1,Z,Pt.q0 left p,jJ,l1,jJ,Z⟩,?_⟩
   rintro m' σ H3 ⟨rfl,l2,z,rfl,qi,e,l21,l2l,rfl⟩;refine⟨_,Z,_,Z,_,_,Z,Z,(show 0<p by omega),Z,_,Z,?_⟩;refine mZ (fun d2=>?_) (fun d2=>?_)
   .have d2':=uC d2;obtain⟨t,ht⟩:=Int.dvd_of_emod_eq_zero d2';have et:l2/p=t:=by rw[ht];exact aG _ jJ
    have t1:1<=t:=by
     rcases Int.lt_or_le t 1 with y | y
     .have:=aA (show t<=0 by omega) (show 0<=p by omega);omega
     .exact y
    have tl:t<l2:=by have:=av p2 (show 0<=t by omega);omega
    have dz:left%(z*p)=0:=bT ⟨t,by rw[<-e,ht,aB (p*t) z,aK]⟩;refine⟨_,fun _ _ h=>h,?_⟩;refine⟨_,Z,_,Z,_,_,Z,Z,kO jJ jJ,?_⟩;dsimp only;rw[et];exact⟨t.toNat,jJ,Z,t,z*p,Z,Pt.q1 p2 qi dz,by rw[<-e,ht,aB z p,<-aK,aB t p],t1,jJ,Z⟩
   .have nd2:=wF d2;have zp:=qi.pos;have qe:Pt.BK left p z:=Pt.q2 qi fun y=>nd2 (by
     obtain⟨t,ht⟩:=Int.dvd_of_emod_eq_zero y;rw[<-e,aB l2 z,aK] at ht;have:=aS (show z≠0 by omega) ht;rw[this];exact jc _ _)
    have z1:z > 1:=by
     rcases Int.lt_or_le 1 z with y | y
     .exact y
     .have:z=1:=jJ;rw[this,bX] at e;exact absurd d0 (by rw[<-e];exact nd2)
    have lz:left/z=l2:=by rw[<-e];exact gX _ jJ
    have pi2:=Pt.Ib p2 pi qe z1;rw[lz] at pi2;refine⟨_,Z,_,_,Z,Z,?_⟩;refine⟨(n+2-(p+1)).toNat,jJ,lQ,l2,p+1,ps++[(p,z)],Z,?_,pi2,jJ,jJ,l21,jJ,by simp;omega,Z⟩;rw[aO];exact Iq
  .have RG:=wF d;have qe:Pt.BK left p 1:=Pt.q2 (Pt.q0 left p) (by rw[cY];exact RG);refine⟨fun m σ H3=>H3=H'/\σ=[some (.int left),some (.ref r),some (.int p)]/\m=0,⟨0,Z,Z,Z⟩,?_⟩;rintro m' σ H3 ⟨rfl,rfl,rfl⟩;refine⟨_,Z,_,Z,_,_,Z,Z,(show 0<p by omega),Z,_,Z,mZ (fun c=>absurd (uC c) RG) (fun _=>?_)⟩;refine⟨_,Z,_,_,Z,Z,?_⟩;exact⟨(n+2-(p+1)).toNat,jJ,sm,left,p+1,ps,Z,Ip,Pt.FQ pi qe jJ,jJ,jJ,l1,ln,jJ,Z⟩
 .have:=xk c;exact⟨_,Z,q r H' ps sm yc Ip (Pt.MV pi l1 jJ)⟩
inductive Px (vs:List V)(H:Hp)(Q:VK)(E_:XK):Prop
 | mk (r:Addr)(a:List Int)(n:Nat)(p hole many:Int)(_:vs=[.ref r,.int p,.int hole,.int many])(_:H r=some (.lst (a.map V.int)))(_:a.length=n)(_:1<=n)(_:n<=420)(_:2<=p)(_:p∣(n:Int))(_:∀H' b,(∀c o,c≠r->H c=some o->H' c=some o)->H' r=some (.lst (b.map V.int))->b.length=n->(∀x,Ld.at' b x=Ld.at' a x+Rg.rv n (p,hole,many) x)->Q .non H')
inductive Wp (vs:List V)(H:Hp)(Q:VK)(E_:XK):Prop
 | mk (n:Nat)(p hole:Int)(st:Nat)(_:vs=[.int n,.int p,.int hole])(_:1<=n)(_:n<=420)(_:2<=p)(_:p.toNat<=n)(_:(n:Int)/p=st)(_:0<st)(_:n=p.toNat*st)(_:∀t,H t=none->Q (.ref t) (upd H t (.lst ((AM (hole%st) st p.toNat).map V.int))))
theorem xX (T:Txt K mg CF tL tF tM):Df P w K mg base 1 "ring_holes" ["n","p","hole"] Wp:=by
 refine kR T.d_ring_holes xZ fun f cdv A outer s H vs Q E hr nd h=>?_;obtain⟨n,p,hole,st,rfl,n1,n2,p2,pn,Bv,Ej,Iy,q⟩:=h;have stn:(st:Int)<=n:=by rw[<-Bv];exact b8 _ J
 have lo0:=aC hole (show (st:Int)≠0 by lia);have lo1:=az hole (show (0:Int)<st by lia);refine⟨_,(jK (kh 3 nd (jV ky (pv 0) (pv 1))) (jQ (j4 (Hu Z jI T.b_list jI T.b_range (jL (jV kJ (pv 2) (pv 3)) (jL (pv 0) (jL (pv 3) ke))))))),?_⟩;refine⟨_,Z,_,Z,_,_,Z,Z,kO J J,?_⟩;dsimp only;rw[Bv];refine⟨_,Z,_,Z,_,_,Z,Z,(show (0:Int)<st by lia),_,Z,_,Z,_,_,_,Z,⟨lo0,J,J,J,J,J⟩,?_⟩;have cn:=Rg.GL Ej (show 0<p.toNat by lia) Iy hole;have c3:wg (hole%(st:Int)) (n:Int) (st:Int)=p.toNat:=by unfold wg;rw[if_pos cn.1];exact cn.2
 rw[c3];exact q
theorem AD (T:Txt K mg CF tL tF tM):Df P w K mg base 2 "lay_ring" ["load","p","hole","many"] Px:=by
 refine kR T.d_lay_ring A1 fun f cdv A outer s H vs Q E hr nd h=>?_;obtain⟨r,a,n,p,hole,many,rfl,ha,la,n1,n2,p2,pd,q⟩:=h;obtain⟨st,Bv,Ej,Iy,ple⟩:=Rg.yS n1 p2 pd;have stn:(st:Int)<=n:=by rw[<-Bv];exact b8 _ J
 refine⟨_,(jQ (kZ aJ Z (kG (kf (xX T) hr (jL (nQ T.b_len (pv 0)) (jL (pv 1) (jL (pv 2) ke))))) (lX 4 nd) (jQ (oM (jV kM (ki kN (pv 0) (pv 4)) (pv 3)) (oH (pv 0) (pv 4) set_list))))),?_⟩;refine⟨_,Z,r,_,Z,.inl (j6.of ha),_,Z,_,Z,n,p,hole,st,by rw[xi la];rfl,n1,n2,p2,ple,Bv,Ej,Iy,fun t ht=>⟨t,Z,⟨_,j6.of jO⟩,?_⟩⟩;have nt:r≠t:=j8 ha ht;have kp0:∀c o,c≠r->H c=some o->upd H t (.lst ((AM (hole%st) st p.toNat).map V.int)) c=some o:=fun c o _ h=>(j5 (j8 h ht)).trans h;have ha0:upd H t (.lst ((AM (hole%st) st p.toNat).map V.int)) r=some (.lst (a.map V.int)):=(j5 nt).trans ha;have Kl:upd H t (.lst ((AM (hole%st) st p.toNat).map V.int)) t=some (.lst ((AM (hole%st) st p.toNat).map V.int)):=jO;generalize upd H t (.lst ((AM (hole%st) st p.toNat).map V.int))=H0 at kp0 ha0 Kl ⊢;have rl:((AM (hole%st) st p.toNat).map V.int).length=p.toNat:=by unfold AM;rw[List.length_map,List.length_map,List.length_range]
 refine mI (xs:=(AM (hole%st) st p.toNat).map V.int) (fun i σ H2=>(∀c o,c≠r->H c=some o->H2 c=some o)/\H2 t=some (.lst ((AM (hole%st) st p.toNat).map V.int))/\∃(b:List Int)(o1:Option V),σ=[some (.ref r),some (.int p),some (.int hole),some (.int many),o1]/\H2 r=some (.lst (b.map V.int))/\b.length=n /\
   ∀x:Int,Ld.at' b x=Ld.at' a x+(if (x-hole)%st=0/\(x%n)/st<(i:Int) then many else 0))
  ⟨kp0,Kl,a,none,Z,ha0,la,Rg.lay0 J Ej hole many a⟩ (fun i σ H2 _ z=>j6.of z.2.1) ?_ ?_
 .rintro i xv σ H2 hx ⟨kp,ht2,b,o1,rfl,hb,lb,inv⟩;obtain⟨k,rfl,ek⟩:=int_at hx;have hi:i<p.toNat:=by have:=(aF.mp hx).1;rwa [rl] at this
  have XX:k=hole%st+(i:Int)*st:=by
   unfold AM at ek;rw[af,dC hi] at ek;exact(bK ek).symm
  subst XX;obtain⟨y0,y1,nx⟩:=Rg.UV Ej Iy hi lb inv;refine⟨_,Z,_,Z,r,_,_,_,Z,Z,j6.of hb,AL y0 J,_,Z,_,_,Z,Z,_,Z,_,Z,r,_,_,_,Z,Z,hb,oX y0 (by rw[xi lb];exact y1),?_⟩;rw[set_int];exact⟨fun c o ne h=>(j5 ne).trans (kp c o ne h),(j5 (dj nt)).trans ht2,_,_,Z,jO,by rw[cf,lb],nx⟩
 .rintro σ H2 ⟨kp,_,b,o1,rfl,hb,lb,inv⟩;rw[rl] at inv;refine q H2 b kp hb lb fun x=>?_;rw[Rg.We Ej (show 0<p.toNat by lia) Iy inv x];unfold Rg.rv;rw[Bv]
inductive TL (vs:List V)(H:Hp)(Q:VK)(E_:XK):Prop
 | mk (p q:Int)(_:vs=[.int p,.int q])(_:2<=p)(_:p<=10000)(_:Q (.int (q-q/p)) H)
theorem qA (T:Txt K mg CF tL tF tM):Df P w K mg base 1 "first_dropped" ["p","q"] TL:=by
 refine kR T.d_first_dropped u5 fun f cdv A outer s H vs Q E hr nd h=>?_;obtain⟨p,q,rfl,p2,pz,k⟩:=h;refine⟨_,(jQ (j4 (jV mw (pv 1) (jV ky (pv 1) (pv 0))))),?_⟩;exact⟨_,Z,_,Z,_,Z,_,_,Z,Z,kO J J,_,_,Z,Z,k⟩
theorem DN {n:Nat}{p q:Int}(hp:Pt.Parts n ps)(mem:(p,q)∈ps):2<=p/\p<=q/\q<=n:=by
 have a:=Pt.sT (hp.row _ mem);have b:=Pt.BQ ps hp.row _ mem;rw[hp.prd] at b;exact⟨a.1,a.2,b⟩
inductive ER (vs:List V)(H:Hp)(Q:VK)(E_:XK):Prop
 | mk (n:Nat)(p q:Int)(ps:List (Int×Int))(_:vs=[.int n,.int p,.int q])(_:1<=n)(_:n<=420)(_:Pt.Parts n ps)(_:(p,q)∈ps)(_:∀u r H',((n:Int)/q*u-1)%q=0->jU H H'->H r=none->H' r=some (.lst ((Rt.xf p q u n).map V.int))->Q (.ref r) H')
theorem CJ (T:Txt K mg CF tL tF tM):Df P w K mg base 5 "dropped" ["n","p","q"] ER:=by
 refine kR T.d_dropped CK fun f cdv A outer s H vs Q E hr nd h=>?_;obtain⟨n,p,q,ps,rfl,n1,n2,hp,mem,k⟩:=h;have pq:=DN hp mem;refine⟨_,(jK (kh 3 nd (kf (wD T) hr (ko (jV ky (pv 0) (pv 2)) (pv 2)))) (jQ (j4 (nh [("q",2),("p",1),("lead",3)] ["hole"] (mC jI T.b_range (kL (pv 0))) (fun C s H fp=>⟨(nT 3),(DY (lI K2 (jV kJ (jV ks (pv 3) (pv 2)) (pv 0)) (kf (qA T) hr (ko (pv 1) (pv 0))))),(pv 3)⟩))))),?_⟩;refine⟨_,Z,_,Z,_,_,Z,Z,kO J J,_,Z,_,q,Z,J,J,Rs.zf hp mem,fun u HB u1 u2 hu Lp=>?_⟩;have pc:=Rt.Pc.mk' n1 hp mem hu;refine⟨_,Z,_,Z,J,J,?_⟩;rw[ae];refine rX (fun i ys H2=>H2=HB/\ys=(Rt.xf p q u i).map V.int) ⟨Z,Z⟩ (fun i ys H2 hi z=>by rw[z.2,aa];have:=Rt.zK (p:=p) (q:=q) (u:=u) i;exact mH J) ?_ ?_
 .rintro i ys H2 hi ⟨rfl,rfl⟩;refine⟨_,Z,_,Z,_,_,Z,Z,mJ J J,_,Z,_,_,Z,Z,(show 0<q by lia),_,Z,_,Z,p,q,Z,pq.1,J,_,_,Z,Z,_,Z,?_⟩;refine mZ (fun c=>?_) (fun c=>?_)
  .have t:=(pc.y6 i).mp (dec c);refine⟨_,Z,Z,?_⟩;simp only[Rt.xf];rw[aD t,aO];rfl
  .have t:¬Rt.top p q u i=p-1:=fun z=>xk c ((pc.y6 i).mpr z);refine⟨Z,?_⟩;simp only[Rt.xf];rw[ao t,gI]
 .rintro ys H2 ⟨rfl,rfl⟩ D hD;exact k u D _ hu (jR Lp hD) (Lp.free hD) jO
inductive LJ (K:PySem.W.Frag)(vs:List V)(H:Hp)(Q:VK)(E_:XK):Prop
 | mk (r:Addr)(a:List Int)(n:Nat)(_:vs=[.ref r])(_:j6 K H r (a.map V.int))(_:a.length=n)(_:1<=n)(_:n<=420)(_:∀t le ro H' b ps l rows,jU H H'->H t=none->H le=none->H ro=none->H' t=some (.tup [.ref le,.ref ro])->H' le=some (.lst (b.map V.int))->b.length=n->Rt.oA n ps l->(∀x,Ld.at' b x=Rt.R n l (Ld.at' a) x)->xL H' ro rows->(Rt.p7 n (fun p _=>p∈ps.map Prod.fst) a b rows/\rows.length<=4000)->Q (.ref t) H')
theorem DS (T:Txt K mg CF tL tF tM):Df P w K mg base 6 "rest" ["load"] (LJ K):=by
 refine kR T.d_rest JR fun f cdv A outer s H vs Q E hr nd h=>?_;obtain⟨r,a,n,rfl,ha,la,n1,n2,q⟩:=h;refine⟨_,(jK (kh 1 nd (nQ T.b_len (pv 0))) (jK (kh 2 nd (qm nU jI T.b_list L2.pQ (kL (pv 0)))) (jK (kh 3 nd (lR ke)) (jK (kZ aJ Z (kG (kf (sC T) hr (kL (pv 1)))) (mv Z (kg (lX 4 nd) (kg (lX 5 nd) lO))) (jQ (kZ aJ Z (kG (kf (CJ T) hr (jL (pv 1) (jL (pv 4) (jL (pv 5) ke))))) (lX 6 nd) (jK (kh 7 nd (ki kN (pv 2) (pv 6))) (jQ (kY (lI ox (pv 7) jM) (jK (mR (kf (AD T) hr (jL (pv 2) (jL (pv 4) (jL (pv 6) (jL (rM pf (pv 7)) ke)))))) (jQ (mR (t6 cM cD cF mS (pv 3) (kL (lL (jL (pv 4) (jL (pv 6) (jL (pv 7) ke))))))))) kD)))))) (jQ (j4 (lL (ko (pv 2) (pv 3))))))))),?_⟩;refine⟨_,Z,r,_,Z,.inl ha,?_⟩;rw[xi la];refine⟨_,Z,r,_,Z,.inl ha,fun le hle=>?_⟩;refine⟨dJ _,fun ro Fq=>?_⟩;have SX:le≠ro:=j8 jO Fq;have ro0:H ro=none:=by rwa [j5 (dj SX)] at Fq
 have qZ:jU H (upd (upd H le (.lst (a.map V.int))) ro (.lst [])):=jR (jR (jU.refl _) hle) Fq;have SY:upd (upd H le (.lst (a.map V.int))) ro (.lst []) le=some (.lst (a.map V.int)):=(j5 SX).trans jO;have yc:upd (upd H le (.lst (a.map V.int))) ro (.lst []) ro=some (.lst []):=jO;generalize upd (upd H le (.lst (a.map V.int))) ro (.lst [])=H0 at qZ SY yc ⊢;refine⟨_,Z,n,Z,J,J,fun r1 H1 ps lU f1 pa hp=>?_⟩;obtain⟨as,hl,pr⟩:=pa;have al:=fe pr;have Br:=Rt.yG hp n2;have n1l:r1≠le:=dj (j8 SY f1);have n1r:r1≠ro:=dj (j8 yc f1);have kH:∀{H':Hp},(∀c o,c≠le->c≠ro->H1 c=some o->H' c=some o)->jU H H':=fun kp c o h=>kp c o (fun z=>by rw[z,hle] at h;cases h) (fun z=>by rw[z,ro0] at h;cases h) (lU _ _ (qZ _ _ h));have tl:∀{x:Addr}{o:List V},H1 x=some (.tup o)->x≠le/\x≠ro:=fun e=>⟨nV e (lU _ _ SY) (fun z=>by cases z),nV e (lU _ _ yc) (fun z=>by cases z)⟩;refine⟨r1,Z,⟨_,j6.of hl⟩,?_⟩;refine mI (xs:=as.map V.ref) (fun i σ H4=>(∀c o,c≠le->c≠ro->H1 c=some o->H4 c=some o)/\∃(b:List Int)(l:List ((Int×Int)×Int))(rows:List (Int×Int×Int))(o1 o2 o3 o4:Option V),σ=[some (.ref r),some (.int n),some (.ref le),some (.ref ro),o1,o2,o3,o4] /\
   H4 le=some (.lst (b.map V.int))/\b.length=n/\l.map Prod.fst=ps.take i/\(∀z∈l,((n:Int)/z.1.2*z.2-1)%z.1.2=0)/\(∀x,Ld.at' b x=Rt.R n l (Ld.at' a) x)/\xL H4 ro rows/\Rt.p7 n (fun p _=>p∈(ps.take i).map Prod.fst) a b rows/\rows.length<=i*n)
  ⟨fun c o _ _ h=>h,a,[],[],none,none,none,none,Z,lU _ _ SY,la,jH,jH,fun x=>Z,⟨[],lU _ _ yc,.nil⟩,Rt.rows0 a,jH⟩ (fun i σ H4 _ z=>j6.of (z.1 _ _ n1l n1r hl)) ?_ ?_
 .rintro i x σ H4 hx ⟨kp,b,l,rows,o1,o2,o3,o4,rfl,hb,lb,lm,SZ,bv,tr,rok,rl⟩;obtain⟨ad,rfl,ea⟩:=oK hx;obtain⟨⟨p,z⟩,ep,Kq⟩:=kU pr ea;have mem:(p,z)∈ps:=ak ep;have ilt:=(aF.mp ep).1;have pq:=DN hp mem;have pd:p∣(n:Int):=((Pt.oB hp (p,z)).mp mem).2.1;have nt:=tl Kq;have lpc:∀y∈l,Rt.Pc n y.1.1 y.1.2 y.2:=fun y hy=>Rt.Pc.mk' n1 hp (fZ (by rw[<-lm];exact dI.mpr ⟨y,hy,Z⟩)) (SZ y hy);refine⟨ad,_,Z,kQ.of (kp _ _ nt.1 nt.2 Kq),Z,_,_,Z,_,_,Z,Z,?_⟩;refine⟨_,Z,_,Z,_,Z,n,p,z,ps,Z,n1,n2,hp,mem,fun u r5 H5 hu mL f5 h5=>⟨r5,Z,⟨_,j6.of h5⟩,?_⟩⟩;have pc:=Rt.Pc.mk' n1 hp mem hu;have Bu:Ld.tK n (Ld.at' b):=Ld.om lb;have n5l:r5≠le:=dj (j8 hb f5);have n5r:r5≠ro:=by obtain⟨x,y,_⟩:=tr;exact Ne.symm (j8 y f5)
  have zfe:=Rt.zK (p:=p) (q:=z) (u:=u) n;have newp:∀x:Int,x∈(ps.take i).map Prod.fst->¬x=p:=fun x hx e=>by
   obtain⟨y,hy,ey⟩:=List.mem_map.mp hx;obtain⟨j,hj,ej⟩:=List.mem_iff_getElem.mp hy;rw[cJ] at hj;rw[gq] at ej;have pw:=c7.mp hp.srt j i J ilt J;rw[ej,(aF.mp ep).2] at pw;have:y.1<p:=pw;lia
  refine mI (xs:=(Rt.xf p z u n).map V.int) (fun j σ H6=>(∀c o,c≠le->c≠ro->H5 c=some o->H6 c=some o)/\∃(b6:List Int)(vp:List (Int×Int×Int))(o3 o4:Option V),σ=[some (.ref r),some (.int n),some (.ref le),some (.ref ro),some (.int p),some (.int z),o3,o4] /\
    H6 le=some (.lst (b6.map V.int))/\Rt.PI n p z u (Ld.at' b) j b6/\xL H6 ro vp/\Rt.p7 n (fun x y=>x∈(ps.take i).map Prod.fst\/(x=p/\y∈(Rt.xf p z u n).take j)) a b6 vp/\vp.length<=i*n+j)
   ⟨fun c o _ _ h=>h,b,rows,_,_,Z,mL _ _ hb,Rt.pi0 lb (fun _=>Z),tr.same mL,rok.weak (fun x y h=>.inl h),J⟩ (fun j σ H6 _ y=>j6.of (y.1 _ _ n5l n5r h5)) ?_ ?_
  .rintro j xv σ H6 hxj ⟨kp6,b6,vp,o3,o4,rfl,Ox,pi,S3,KA,rl6⟩;obtain⟨k,rfl,ek⟩:=int_at hxj;have km:=ak ek;obtain⟨k0,k1,kt⟩:=Rt.qL.mp km;have jlt:=(aF.mp ek).1;have kv:=pc.Md pi ek;refine⟨_,Z,_,Z,le,_,_,_,Z,Z,j6.of Ox,AL k0 (by rw[pi.len];exact k1),?_⟩;rw[kv];refine⟨_,Z,Z,_,Z,?_⟩;have wk:∀x y:Int,(x∈(ps.take i).map Prod.fst\/(x=p/\y∈(Rt.xf p z u n).take j))->(x∈(ps.take i).map Prod.fst\/(x=p/\y∈(Rt.xf p z u n).take (j+1))):=fun x y h=>h.imp id fun h=>⟨h.1,(Rt.rP ek).mpr (.inl h.2)⟩;refine mZ (fun c=>?_) (fun c=>?_)
   .have mz:¬Ld.at' b k=0:=Mi c;obtain⟨rs,RK,RL⟩:=id S3;have rsl:=fe RL;refine⟨_,Z,_,Z,_,Z,_,Z,_,Z,le,b6,n,p,k,_,Z,Ox,pi.len,n1,n2,pq.1,pd,fun H7 b7 kp7 RM lb7 RN=>?_⟩;have S5:H7 ro=some (.lst (rs.map V.ref)):=kp7 _ _ (dj SX) RK;refine⟨_,Z,.inl ⟨Z,_,j6.of S5⟩,_,Z,_,Z,_,Z,jY,fun t ht=>?_⟩;have hr8:upd H7 t (.tup [V.int p,V.int k,V.int (Ld.at' b k)]) ro=some (.lst (rs.map V.ref)):=(j5 (j8 S5 ht)).trans S5;have rot:ro≠t:=j8 S5 ht;refine⟨ro,_,_,Z,Z,hr8,by rw[aa,rsl];have:=cL (show i<=8 by lia) n2;exact mH J,?_⟩;have kp8:∀{c:Addr}{o:HO},c≠le->c≠ro->H6 c=some o->upd (upd H7 t (.tup [V.int p,V.int k,V.int (Ld.at' b k)])) ro (.lst (rs.map V.ref++[.ref t])) c=some o:=fun x y e=>by
     have e7:=kp7 _ _ x e;exact((j5 y).trans (j5 (j8 e7 ht))).trans e7
    refine⟨fun c o x y h=>kp8 x y (kp6 c o x y h),b7,vp++[(p,k,Ld.at' b k)],_,_,Z,((j5 SX).trans (j5 (j8 RM ht))).trans RM,pc.Y9 Bu pi ek lb7 RN,⟨rs++[t],by rw[jO,aO];rfl,?_⟩,?_,by simp;lia⟩
    .refine hE (Paired.xU RL fun d x e=>?_) ((j5 (dj rot)).trans jO);exact kp8 (nV e Ox (fun z=>by cases z)) (nV e RK (fun z=>by cases z)) e
    .exact KA.snoc wk (.inr ⟨Z,(Rt.rP ek).mpr (.inr Z)⟩) (fun x y h e=>h.elim (fun h=>newp x h e.1) fun h=>Rt.xc (Rt.vT n) ek (e.2▸h.2)) k0 k1 mz RN
   .have mz:Ld.at' b k=0:=Ic c;exact⟨kp6,b6,vp,_,_,Z,Ox,pc.Wj Bu pi ek mz,S3,KA.weak wk,J⟩
  .rintro σ H6 ⟨kp6,b6,vp,o3,o4,rfl,Ox,pi,S3,KA,rl6⟩;rw[aa] at pi rl6;refine⟨fun c o x y h=>kp6 c o x y (mL _ _ (kp c o x y h)),b6,l++[((p,z),u)],vp,_,_,_,_,Z,Ox,pi.len,by rw[aO,lm,Pt.take_snoc ep];rfl,fun y hy=>?_,fun x=>?_,S3,KA.weak (fun x y h=>?_),?_⟩
   .rcases List.mem_append.mp hy with w | w
    .exact SZ y w
    .rw[bw.mp w];exact hu
   .rw[pc.MS pi,Rt.BX];have:Ld.at' b=Rt.R n l (Ld.at' a):=funext bv;rw[this]
   .rw[Pt.take_snoc ep,aO];rcases h with w | w
    .exact cN _ w
    .exact bu _ (by rw[w.1];simp)
   .rw[fQ];lia
 .rintro σ H4 ⟨kp,b,l,rows,o1,o2,o3,o4,rfl,hb,lb,lm,SZ,bv,tr,rok,rl⟩;rw[aa,al,bV] at lm rok;have rl4:rows.length<=4000:=by rw[aa,al] at rl;have:=cL Br n2;lia
  refine⟨_,Z,_,Z,jP,fun t ht=>?_⟩;have NS:jU H4 (upd H4 t (.tup [V.ref le,V.ref ro])):=jR (jU.refl _) ht;have IM:=kH kp;exact q t le ro _ b ps l rows (IM.trans NS) (IM.free ht) hle ro0 jO (NS _ _ hb) lb ⟨n1,hp,lm,SZ⟩ bv (tr.same NS) ⟨rok,rl4⟩
inductive Qr (vs:List V)(H:Hp)(Q:VK)(E_:XK):Prop
 | mk (n:Nat)(hole:Int)(ps:List (Int×Int))(l:List ((Int×Int)×Int))(_:vs=[.int n,.int hole])(_:1<=n)(_:n<=420)(_:Rt.oA n ps l)(_:∀H',jU H H'->Q (.bl (decide (Rt.Kp l hole))) H')
theorem xj (T:Txt K mg CF tL tF tM):Df P w K mg base 6 "is_kept" ["n","hole"] Qr:=by
 refine kR T.d_is_kept Bx fun f cdv A outer s H vs Q E hr nd h=>?_;obtain⟨n,hole,ps,l,rfl,n1,n2,pO,q⟩:=h;refine⟨_,(jQ (j4 (kP (sE Z) jI T.b_all L2.Aa (kL (nh [("n",0),("hole",1)] ["p","q"] (kG (kf (sC T) hr (kL (pv 0)))) (fun C s H fp=>⟨(sJ 2 3),kq,(ol Dt (kf (Bg T) hr (jL (pv 0) (jL (pv 3) (jL (pv 1) ke)))) (kf (qA T) hr (ko (pv 2) (pv 3))) (pJ _))⟩)))))),?_⟩;refine⟨_,Z,_,Z,J,J,fun r1 H1 vh lU f1 pa Ek=>?_⟩;have Iz:=Pt.nJ Ek pO.hp;subst Iz;obtain⟨as,hl,pr⟩:=pa;have al:=fe pr;have lp:(vh.length:Int)<=n:=Rs.E4 Ek;have ll:l.length=vh.length:=by have:=cQ List.length pO.map;rwa [aa] at this
 refine⟨r1,Z,⟨_,j6.of hl⟩,?_⟩;refine oV (K:=K) (xs:=as.map V.ref) (fun i ys H2=>jU H1 H2/\ys=((l.take i).map fun z=>decide ¬Rt.top z.1.1 z.1.2 z.2 hole=z.1.1-1).map V.bl) ⟨jU.refl _,jH⟩ (fun i ys H2 _ z=>z.1.seq (j6.of hl))
  (fun i ys H2 hi z=>by rw[aa] at hi;rw[z.2];simp only[List.length_map,List.length_take];exact mH J) ?_ ?_
 .rintro i x ys H2 hx ⟨lQ,rfl⟩;obtain⟨ad,rfl,ea⟩:=oK hx;obtain⟨⟨p,z⟩,ep,ha⟩:=kU pr ea;have mem:(p,z)∈vh:=ak ep;have pq:=DN Ek mem;have hi:i<l.length:=by rw[ll];exact(aF.mp ep).1
  have el:l[i]?=some l[i]:=ax hi;have e1:l[i].1=(p,z):=by
   have:(l.map Prod.fst)[i]?=some l[i].1:=by rw[af,el];rfl
   rw[pO.map,ep] at this;exact(bK this).symm
  have NT:=pO.pc (b9 hi);have Oy:=pO.le _ (b9 hi);generalize l[i]=zz at *;obtain⟨z1,u⟩:=zz;dsimp only at e1;subst e1;dsimp only at NT Oy;refine⟨ad,_,Z,kQ.of (lQ _ _ ha),Z,_,_,Z,_,_,Z,Z,?_⟩;refine⟨_,Z,_,Z,_,Z,n,z,hole,vh,p,Z,J,J,Ek,mem,fun c H3 sh k9=>?_⟩;refine⟨_,Z,_,Z,p,z,Z,pq.1,J,?_⟩;have ec:c=hole*u%z:=Rs.zT (Rs.tW Ek mem) sh (Rs.wQ (by show 0<z;lia) Oy) zgY;have YO:=NT.y6 hole;refine⟨_,_,Z,Z,lQ.trans k9,?_⟩;rw[Pt.take_snoc el,aO,aO,gf,gf];congr 2;show V.bl (decide (c<z-z/p))=V.bl (decide ¬Rt.top p z u hole=p-1)
  congr 1;rw[eQ,fI,fI,<-YO,ec];lia
 .rintro ys H2 ⟨lQ,rfl⟩ D hD;rw[aa,al,<-ll,bV];refine⟨D,_,Z,j6.of jO,?_⟩;have e:((l.map fun z=>decide ¬Rt.top z.1.1 z.1.2 z.2 hole=z.1.1-1).all id)=decide (Rt.Kp l hole):=by
   rw[eQ,dE,fI];unfold Rt.Kp;constructor
   .intro a z hz;exact eU (a _ (dI.mpr ⟨z,hz,rfl⟩))
   .intro a b hb;obtain⟨z,hz,ez⟩:=List.mem_map.mp hb;rw[<-ez];exact cm (a z hz)
  rw[e];exact q _ (jR (lU.trans lQ) hD)
inductive JO (vs:List V)(H:Hp)(Q:VK)(E_:XK):Prop
 | mk (p c:Int)(q:Nat)(_:vs=[.int p,.int q,.int c])(_:2<=p)(_:p<=q)(_:q<=420)(_:1<=(q:Int)/p)(_:0<=c)(_:c<q)(_:∀t H' F,jU H H'->H' t=some (.lst (F.map V.int))->F.length=q->(∀i:Int,0<=i->i<q->Ld.at' F i=if i=(q:Int)-q/p+c%(q/p) then -1 else if i=c then 1 else 0)->Q (.ref t) H')
theorem uP (T:Txt K mg CF tL tF tM):Df P w K mg base 1 "part_weighing" ["p","q","kept_share"] JO:=by
 refine kR T.d_part_weighing va fun f cdv A outer s H vs Q E hr nd h=>?_;obtain⟨p,c,n,rfl,p2,pn,n2,m1,c0,c1,q⟩:=h;have mq:(n:Int)/p<=n:=b8 _ J;have l0:=aC c (show (n:Int)/p≠0 by lia);have l1:=az c (show 0<(n:Int)/p by lia);refine⟨_,(jK (kh 3 nd (jV ky (pv 1) (pv 0))) (jK (kh 4 nd (jV p9 (lR (kL jM)) (pv 1))) (jK (oM jM (oH (pv 4) (pv 2) set_list)) (jK (oM (rM pf jM) (oH (pv 4) (jV kM (jV mw (pv 1) (pv 3)) (jV kJ (pv 2) (pv 3))) set_list)) (jQ (j4 (pv 4))))))),?_⟩;refine⟨_,Z,_,Z,_,_,Z,Z,kO J J,?_⟩;refine⟨jS,fun l hl=>⟨_,Z,l,_,_,Z,Z,jO,jJ,jJ,(by show 1*_<=_;exact nF jJ),fun du Ly=>?_⟩⟩;rw[rep0];have RO:l≠du:=j8 jO Ly;have IP:H du=none:=by rwa [j5 (dj RO)] at Ly
 have qZ:jU H (upd (upd H l (.lst [V.int 0])) du (.lst ((List.replicate n (0:Int)).map V.int))):=kK (kK (jU.refl H) hl) IP;have Lz:upd (upd H l (.lst [V.int 0])) du (.lst ((List.replicate n (0:Int)).map V.int)) du=some (.lst ((List.replicate n (0:Int)).map V.int)):=jO;generalize upd (upd H l (.lst [V.int 0])) du (.lst ((List.replicate n (0:Int)).map V.int))=H0 at qZ Lz ⊢;refine⟨_,Z,_,Z,du,_,_,_,Z,Z,Lz,oX c0 (by rw[xi (aV)];exact c1),?_⟩;rw[set_int];have lU:jU H (upd H0 du (.lst (((List.replicate n (0:Int)).set c.toNat 1).map V.int))):=kK qZ IP;have hd1:upd H0 du (.lst (((List.replicate n (0:Int)).set c.toNat 1).map V.int)) du=some (.lst (((List.replicate n (0:Int)).set c.toNat 1).map V.int)):=jO;generalize upd H0 du (.lst (((List.replicate n (0:Int)).set c.toNat 1).map V.int))=H1 at lU hd1 ⊢;have YQ:((List.replicate n (0:Int)).set c.toNat 1).length=n:=by rw[cf,aV]
 refine⟨_,Z,_,Z,_,Z,_,Z,_,_,Z,Z,_,Z,_,Z,_,_,Z,Z,(show 0<(n:Int)/p by lia),_,_,Z,Z,du,_,_,_,Z,Z,hd1,oX J (by rw[xi YQ];lia),?_⟩;rw[set_int];refine⟨_,Z,q du _ _ (kK lU IP) jO (by rw[cf,YQ]) fun i i0 i1=>?_⟩;have e1:((n:Int)-n/p+c%(n/p)).toNat=(((n:Int)-n/p+c%(n/p))%n).toNat:=by rw[aR (a:=(n:Int)-n/p+c%(n/p)) (b:=(n:Int)) J J]
 have e2:c.toNat=(c%n).toNat:=by rw[aR c0 c1]
 rw[e1,Ld.vW YQ J,e2,Ld.vW (aV) J,Ld.HM,aR i0 i1,aR c0 c1,aR (show 0<=(n:Int)-n/p+c%(n/p) by lia) J]
inductive BU (vs:List V)(H:Hp)(Q:VK)(E_:XK):Prop
 | mk (n:Nat)(hole:Int)(ps:List (Int×Int))(l:List ((Int×Int)×Int))(_:vs=[.int n,.int hole])(_:1<=n)(_:n<=420)(_:Rt.oA n ps l)(_:Rt.Kp l hole)(_:∀t H' W,jU H H'->H t=none->H' t=some (.lst (W.map V.int))->W.length=n->(∀k:Nat,k<n->Ld.at' W k=Rt.V l hole k)->Q (.ref t) H')
theorem vk (T:Txt K mg CF tL tF tM):Df P w K mg base 7 "weighing" ["n","hole"] BU:=by
 refine kR T.d_weighing At fun f cdv A outer s H vs Q E hr nd h=>?_;obtain⟨n,hole,ps,l,rfl,n1,n2,pO,kpt,q⟩:=h;refine⟨_,(jK (kY (nB (mY (kf (xj T) hr (ko (pv 0) (pv 1))))) (jQ xg) kD) (jK (kh 2 nd (jV p9 (lR (kL jM)) (pv 0))) (jK (kZ aJ Z (kG (kf (sC T) hr (kL (pv 0)))) (mv Z (kg (lX 3 nd) (kg (lX 4 nd) lO))) (jK (kh 5 nd (kf (uP T) hr (jL (pv 3) (jL (pv 4) (jL (kf (Bg T) hr (jL (pv 0) (jL (pv 4) (jL (pv 1) ke)))) ke))))) (jK (kh 6 nd (kf (wD T) hr (ko (jV ky (pv 0) (pv 4)) (pv 4)))) (jQ (tj 2 [("factors",5),("q",4),("lead",6)] ["k","number"] nd (oQ jI T.b_enumerate (kL (pv 2))) (fun C s H fp=>⟨(sJ 3 4),kq,(jV ks (pv 4) (ki (oC (K:=K) Z) (pv 0) (jV kJ (jV ks (pv 3) (pv 2)) (pv 1))))⟩)))))) (jQ (j4 (pv 2)))))),?_⟩;refine⟨_,Z,_,Z,n,hole,ps,l,Z,n1,n2,pO,fun HK YR=>?_⟩;rw[cm kpt];refine⟨true,Z,Ae ?_⟩;refine⟨jS,fun lo yK=>⟨_,Z,lo,_,_,Z,Z,jO,J,J,zgW,fun du Ly=>?_⟩⟩;rw[rep1];have RO:lo≠du:=j8 jO Ly;have IP:HK du=none:=by rwa [j5 (dj RO)] at Ly
 have qZ:jU HK (upd (upd HK lo (.lst [V.int 1])) du (.lst ((List.replicate n (1:Int)).map V.int))):=kK (kK (jU.refl HK) yK) IP;have Lz:upd (upd HK lo (.lst [V.int 1])) du (.lst ((List.replicate n (1:Int)).map V.int)) du=some (.lst ((List.replicate n (1:Int)).map V.int)):=jO;generalize upd (upd HK lo (.lst [V.int 1])) du (.lst ((List.replicate n (1:Int)).map V.int))=H0 at qZ Lz ⊢;refine⟨_,Z,_,Z,J,J,fun r1 H1 vh lU f1 pa Ek=>?_⟩;have Iz:=Pt.nJ Ek pO.hp;subst Iz;obtain⟨as,hl,pr⟩:=pa;have al:=fe pr;have ll:l.length=vh.length:=by have:=cQ List.length pO.map;rwa [aa] at this
 have fdu:H du=none:=YR.free IP;refine⟨r1,Z,⟨_,j6.of hl⟩,?_⟩;refine mI (xs:=as.map V.ref) (fun i σ H4=>jU H1 H4/\∃(ou:Addr)(b:List Int)(o1 o2 o3 o4:Option V),σ=[some (.int n),some (.int hole),some (.ref ou),o1,o2,o3,o4]/\H ou=none/\H4 ou=some (.lst (b.map V.int))/\b.length=n/\∀k:Nat,k<n->Ld.at' b k=Rt.V (l.take i) hole k)
  ⟨jU.refl _,du,List.replicate n 1,none,none,none,none,Z,fdu,lU _ _ Lz,jH,fun k hk=>Ld.oO (by rw[List.getElem?_replicate,if_pos hk];rfl)⟩ (fun i σ H4 _ z=>z.1.seq (j6.of hl)) ?_ ?_
 .rintro i x σ H4 hx ⟨mi,ou,b,o1,o2,o3,o4,rfl,fou,hb,lb,inv⟩;obtain⟨ad,rfl,ea⟩:=oK hx;obtain⟨⟨p,z⟩,ep,ha⟩:=kU pr ea;have mem:(p,z)∈vh:=ak ep;have pq:=DN Ek mem;have hi:i<l.length:=by rw[ll];exact(aF.mp ep).1
  have el:l[i]?=some l[i]:=ax hi;have e1:l[i].1=(p,z):=by
   have:(l.map Prod.fst)[i]?=some l[i].1:=by rw[af,el];rfl
   rw[pO.map,ep] at this;exact(bK this).symm
  have NT:=pO.pc (b9 hi);have Oy:=pO.le _ (b9 hi);have kpz:=kpt _ (b9 hi);generalize l[i]=zz at *;obtain⟨z1,u⟩:=zz;dsimp only at e1;subst e1;dsimp only at NT Oy kpz;obtain⟨m,em,Ff,m1⟩:=NT.m;have YS:jU H H4:=((YR.trans qZ).trans lU).trans mi;refine⟨ad,_,Z,kQ.of (mi _ _ ha),Z,_,_,Z,_,_,Z,Z,?_⟩;refine⟨_,Z,_,Z,_,Z,_,Z,_,Z,n,z,hole,vh,p,Z,J,J,Ek,mem,fun c H5 sh mL=>?_⟩;have ec:c=hole*u%z:=Rs.zT (Rs.tW Ek mem) sh (Rs.wQ (by show 0<z;lia) Oy) zgY;have cb:=NT.O5 hole;have ez:z=((z.toNat:Nat):Int):=J;refine⟨p,c,z.toNat,by rw[<-ez];rfl,pq.1,J,J,by rw[<-ez,Ff];exact m1,J,J,fun ft H6 F sx h6 lF hF=>?_⟩;rw[<-ez] at hF;refine⟨_,Z,_,Z,_,_,Z,Z,kO J J,_,Z,_,z,Z,J,J,Rs.zf Ek mem,fun v H7 v1 v2 hv uu=>?_⟩;have Ak:jU H4 H7:=(mL.trans sx).trans uu;have RM:=Ak _ _ hb;have h67:=uu _ _ h6;refine⟨_,Z,ou,Z,⟨_,j6.of RM⟩,?_⟩;refine yB (K:=K) (xs:=b.map V.int) (fun j rs H8=>jU H7 H8/\rs=((List.range j).map fun (k:Nat)=>Rt.V (l.take (i+1)) hole k).map V.int) ⟨jU.refl _,Z⟩ (fun j rs H8 _ z=>z.1.seq (j6.of RM))
   (fun j rs H8 hj z=>by rw[aa] at hj;rw[z.2];simp only[List.length_map,List.length_range];exact mH J) ?_ ?_
  .rintro j xv rs H8 t hx ⟨vE,rfl⟩ ht;obtain⟨w',rfl,hw⟩:=int_at hx;have ew:Ld.at' b j=w':=Ld.oO hw;have hj:j<n:=by rw[<-lb];exact(aF.mp hw).1
   have wv:=inv j hj;rw[ew] at wv;have vc:=Rt.tU (l.take i) hole j;refine⟨t,_,Z,kQ.of jO,Z,_,_,Z,_,_,Z,Z,?_⟩;have kb:=aC ((j:Int)*v) (show z≠0 by lia);have kb':=az ((j:Int)*v) (show 0<z by lia);have lv:(j:Int)*v%z=(j:Int)*u%z:=Rt.Jb Ek mem hv Oy j;refine⟨_,Z,_,Z,_,Z,_,Z,_,_,Z,Z,mJ J J,_,Z,_,_,Z,Z,(show 0<z by lia),ft,_,_,_,Z,Z,j6.of ((j5 (j8 (vE _ _ h67) ht)).trans (vE _ _ h67)),AL kb (by show (j:Int)*v%z<_;lia),_,_,Z,Z,mJ J J,?_⟩;refine⟨jR vE ht,?_⟩;rw[jB,aO,aO,gf,gf];congr 2;show V.int (w'*Ld.at' F ((j:Int)*v%z))=_
   rw[hF _ kb kb',lv,ec,NT.MF kpz j,wv,Pt.take_snoc el,Rt.wH]
  .rintro rs H8 ⟨vE,rfl⟩ D hD;rw[aa,lb];have smD:jU H4 (upd H8 D (.lst (((List.range n).map fun (k:Nat)=>Rt.V (l.take (i+1)) hole k).map V.int))):=jR (Ak.trans vE) hD;refine⟨mi.trans smD,D,_,_,_,_,_,Z,YS.free ((Ak.trans vE).free hD),jO,jH,fun k hk=>?_⟩;exact Ld.oO (by rw[af,dC hk];rfl)
 .rintro σ H4 ⟨mi,ou,b,o1,o2,o3,o4,rfl,fou,hb,lb,inv⟩;rw[aa,al,<-ll,bV] at inv;exact⟨_,Z,q ou H4 b (((YR.trans qZ).trans lU).trans mi) fou hb lb inv⟩
inductive Jm (K:PySem.W.Frag)(vs:List V)(H:Hp)(Q:VK)(E_:XK):Prop
 | mk (r:Addr)(a:List Int)(n:Nat)(ps:List (Int×Int))(l:List ((Int×Int)×Int))(_:vs=[.ref r])(_:j6 K H r (a.map V.int))(_:a.length=n)(_:1<=n)(_:n<=420)(_:Rt.oA n ps l)(_:Rt.Zn n l (Ld.at' a)->∀t ro H' rows,jU H H'->H t=none->H ro=none->H' t=some (.tup [.str "even",.ref ro])->xL H' ro rows->rows.length<=4000->(rows.map fun t=>(t.1,t.2.1)).Nodup->(∀t∈rows,t.1∈ps.map Prod.fst/\0<=t.2.1/\t.2.1<n/\¬t.2.2=0)->(∀x,Ld.at' a x=Rg.xI n rows x)->Q (.ref t) H')(_:¬Rt.Zn n l (Ld.at' a)->∀t wt H' W hole,jU H H'->H t=none->H wt=none->H' t=some (.tup [.str "uneven",.ref wt])->H' wt=some (.lst (W.map V.int))->W.length=n->Rt.Kp l hole->¬Rt.R n l (Ld.at' a) hole=0->(∀k:Nat,k<n->Ld.at' W k=Rt.V l hole k)->Q (.ref t) H')
theorem FX (T:Txt K mg CF tL tF tM):Df P w K mg base 8 "paper" ["load"] (Jm K):=by
 refine kR T.d_paper Gp fun f cdv A outer s H vs Q E hr nd h=>?_;obtain⟨r,a,n,ps,l,rfl,ha,la,n1,n2,pO,qe,qu⟩:=h;refine⟨_,(jK (kh 1 nd (kf (DS T) hr (kL (pv 0)))) (jK (kZ aJ Z (oQ jI T.b_enumerate (kL (ki j9 (pv 1) jM))) (mv Z (kg (lX 2 nd) (kg (lX 3 nd) lO))) (jQ (kY (lI ox (pv 3) jM) (jQ (j4 (lL (ko oG (kf (vk T) hr (ko (nQ T.b_len (pv 0)) (pv 2))))))) kD))) (jQ (j4 (lL (ko oG (ki j9 (pv 1) jM))))))),?_⟩;refine⟨_,Z,r,a,n,Z,ha,la,n1,n2,fun t le ro H1 b QV l' rows lU ft fl fr ht hb lb KB bv tr rok=>?_⟩;have f0:me [V.ref le,V.ref ro] 0=some (.ref le):=Z;have f1:me [V.ref le,V.ref ro] 1=some (.ref ro):=Z;have NU:∀x,Ld.at' b x=Rt.R n l (Ld.at' a) x:=fun x=>by rw[bv,KB.one pO]
 have Bu:Ld.tK n (Ld.at' b):=Ld.om lb;refine⟨_,Z,t,_,_,_,Z,Z,kQ.of ht,f0,le,Z,⟨_,j6.of hb⟩,?_⟩;refine pH (K:=K) (xs:=b.map V.int) (fun i σ H2=>jU H1 H2/\(∀k:Nat,k<i->Ld.at' b k=0)/\∃(o1 o2:Option V),σ=[some (.ref r),some (.ref t),o1,o2]) ⟨jU.refl _,fun k hk=>by lia,none,none,Z⟩ (fun i σ H2 _ z=>z.1.seq (j6.of hb)) ?_ ?_
 .rintro i xv σ H2 p hx ⟨lQ,zs,o1,o2,rfl⟩ hp;obtain⟨u,rfl,hu⟩:=int_at hx;have eu:Ld.at' b i=u:=Ld.oO hu;have ilt:i<n:=by rw[<-lb];exact(aF.mp hu).1
  refine⟨p,_,Z,kQ.of jO,Z,_,_,Z,_,_,Z,Z,?_⟩;have k9:jU H2 (upd H2 p (.tup [.int i,.int u])):=jR (jU.refl _) hp;generalize upd H2 p (.tup [.int i,.int u])=H3 at k9 ⊢;refine⟨_,Z,Z,_,Z,mZ (fun c=>?_) (fun c=>?_)⟩
  .have nz:¬u=0:=Mi c;have kp:Rt.Kp l i:=fun z hz tz=>nz (by rw[<-eu,NU,pO.drop hz _ _ tz]);have Kr:=(lU.trans lQ).trans k9;refine⟨_,Z,r,_,Z,.inl (Kr.seq ha),_,Z,n,i,ps,l,by rw[xi la];rfl,n1,n2,pO,kp,fun wt H4 W mi f4 h4 lW Wv=>⟨jP,fun tt qG=>?_⟩⟩;have Km:jU H4 (upd H4 tt (.tup [.str "uneven",.ref wt])):=jR (jU.refl _) qG;exact qu (fun z=>nz (by rw[<-eu,NU,z])) tt wt _ W i ((Kr.trans mi).trans Km) ((Kr.trans mi).free qG) (Kr.free f4) jO (Km _ _ h4) lW kp (by rw[<-NU,eu];exact nz) Wv
  .have z0:u=0:=Ic c;refine⟨lQ.trans k9,fun k hk=>?_,_,_,Z⟩;rcases Nat.lt_or_ge k i with g | g
   .exact zs k g
   .have:k=i:=J;rw[this,eu,z0]
 .rintro σ H2 ⟨lQ,zs,o1,o2,rfl⟩;rw[aa,lb] at zs;have zn:Rt.Zn n l (Ld.at' a):=fun x=>by
   rw[<-NU,<-Bu.md];have x0:=aC x (show (n:Int)≠0 by lia);have x1:=az x (show 0<(n:Int) by lia);have:=zs (x%n).toNat J;rwa [cq x0] at this
  refine⟨_,Z,t,_,_,_,Z,Z,kQ.of (lQ _ _ ht),f1,jP,fun tt qG=>?_⟩;have Km:jU H2 (upd H2 tt (.tup [.str "even",.ref ro])):=jR (jU.refl _) qG;have ep:=Pt.nJ KB.hp pO.hp;exact qe zn tt ro _ rows ((lU.trans lQ).trans Km) ((lU.trans lQ).free qG) fr jO ((tr.same lQ).same Km) rok.2 rok.1.nd (fun t ht=>by rw[<-ep];exact rok.1.ok t ht) fun x=>by
   rw[rok.1.eq x,NU x,zn x,dF]
inductive Ni (vs:List V)(H:Hp)(Q:VK)(E_:XK):Prop
 | mk (n:Nat)(ps:List (Int×Int))(l:List ((Int×Int)×Int))(_:vs=[.int n])(_:1<=n)(_:n<=420)(_:Rt.oA n ps l)(_:∀t H',jU H H'->H' t=some (.lst ((Rt.nK n l).map V.int))->Q (.ref t) H')
theorem HU (i:Nat)(l:List ((Int×Int)×Int)):Rt.nK (i+1) l=Rt.nK i l++(if Rt.Kp l i then [(i:Int)] else []):=by
 unfold Rt.nK;have e:Rt.hs (i+1)=Rt.hs i++[(i:Int)]:=by unfold Rt.hs;rw[List.range_succ,List.map_append];rfl
 rw[e,List.filter_append];congr 1
 by_cases c:Rt.Kp l i
 .rw[aD c,jy,aD (cm c)];rfl
 .rw[ao c,jy,ao (by rw[fI];exact c)];rfl
theorem Ke (T:Txt K mg CF tL tF tM):Df P w K mg base 7 "kept" ["n"] Ni:=by
 refine kR T.d_kept J8 fun f cdv A outer s H vs Q E hr nd h=>?_;obtain⟨n,ps,l,rfl,n1,n2,pO,q⟩:=h;refine⟨_,(jQ (j4 (nh [("n",0)] ["hole"] (mC jI T.b_range (kL (pv 0))) (fun C s H fp=>⟨(nT 1),(DY (mY (kf (xj T) hr (ko (pv 0) (pv 1))))),(pv 1)⟩)))),?_⟩;refine⟨_,Z,_,Z,jJ,jJ,?_⟩;rw[ae];refine rX (fun i ys H2=>jU H H2/\ys=(Rt.nK i l).map V.int) ⟨jU.refl _,Z⟩ (fun i ys H2 hi z=>by rw[z.2,aa];have:=Rt.ue i l;exact mH jJ) ?_ ?_
 .rintro i ys H2 hi ⟨sm,rfl⟩;refine⟨_,Z,_,Z,n,i,ps,l,Z,n1,n2,pO,fun H3 k9=>⟨_,Z,?_⟩⟩;rw[HU];refine mZ (fun c=>?_) (fun c=>?_)
  .have c':=eU c;refine⟨_,Z,sm.trans k9,?_⟩;rw[aD c',aO];rfl
  .have c':¬Rt.Kp l i:=fun z=>c (cm z);refine⟨sm.trans k9,?_⟩;rw[ao c',gI]
 .rintro ys H2 ⟨sm,rfl⟩ D hD;exact q D _ (jR sm hD) jO
inductive MQ (K:PySem.W.Frag)(vs:List V)(H:Hp)(Q:VK)(E_:XK):Prop
 | mk (r s:Addr)(a b:List Int)(_:vs=[.ref r,.ref s])(_:j6 K H r (a.map V.int))(_:j6 K H s (b.map V.int))(_:a.length=b.length)(_:a.length<=420)(_:∀t H',jU H H'->H t=none->H' t=some (.lst ((Ld.plus a b).map V.int))->Q (.ref t) H')
theorem JC (T:Txt K mg CF tL tF tM):Df P w K mg base 2 "plus" ["one","other"] (MQ K):=by
 refine kR T.d_plus JX fun f cdv A outer s H vs Q E hr nd h=>?_;obtain⟨r,s',a,b,rfl,ha,hb,e,hz,q⟩:=h;refine⟨_,(jK (mR (kf (qK T) hr (ko (pv 0) (pv 1)))) (jQ (j4 (nh [] ["weight","more"] (m7 jI T.b_zip (ko (pv 0) (pv 1))) (fun C s H fp=>⟨(sJ 0 1),kq,(jV kM (pv 0) (pv 1))⟩))))),?_⟩;refine⟨_,Z,_,Z,r,s',_,_,Z,ha,hb,by rw[aa,aa,e],?_⟩;refine⟨_,Z,_,Z,r,s',Z,⟨_,ha⟩,⟨_,hb⟩,?_⟩;have pl:=Ld.n6 e;refine wG (K:=K) (xs:=a.map V.int) (ys:=b.map V.int) (by rw[aa,aa,e]) (fun i rs H2=>jU H H2/\rs=((Ld.plus a b).take i).map V.int) ⟨jU.refl H,jH⟩ (fun i rs H2 _ z=>⟨z.1.seq ha,z.1.seq hb⟩)
  (fun i rs H2 hi z=>by rw[aa] at hi;rw[z.2];simp only[List.length_map,List.length_take];exact mH jJ) ?_ ?_
 .rintro i x y rs H2 p hx hy ⟨sm,rfl⟩ hp;obtain⟨u,rfl,hu⟩:=int_at hx;obtain⟨v,rfl,hv⟩:=int_at hy;refine⟨p,_,Z,kQ.of jO,Z,_,_,Z,_,_,Z,Z,?_⟩;refine⟨_,Z,_,Z,_,_,Z,Z,jR sm hp,?_⟩;rw[nq (v:=u+v)];unfold Ld.plus;rw[bU,hu,hv]
 .rintro rs H2 ⟨sm,rfl⟩ D hD;rw[nR (by rw[pl,aa])];exact q D _ (jR sm hD) (sm.free hD) jO
inductive FT (K:PySem.W.Frag)(vs:List V)(H:Hp)(Q:VK)(E_:XK):Prop
 | mk (r:Addr)(a:List Int)(m:Int)(_:vs=[.ref r,.int m])(_:j6 K H r (a.map V.int))(_:a.length<=420)(_:∀x∈a,IntMulOk x m)(_:∀t H',jU H H'->H t=none->H' t=some (.lst ((Ld.scaled a m).map V.int))->Q (.ref t) H')
theorem yy (T:Txt K mg CF tL tF tM):Df P w K mg base 1 "scaled" ["load","many"] (FT K):=by
 refine kR T.d_scaled Eo fun f cdv A outer s H vs Q E hr nd h=>?_;obtain⟨r,a,m,rfl,ha,hz,hm,q⟩:=h;refine⟨_,(jQ (j4 (nh [("many",1)] ["weight"] (kG (pv 0)) (fun C s H fp=>⟨(nT 1),kq,(jV ks (pv 1) (pv 0))⟩)))),?_⟩;refine⟨_,Z,r,Z,⟨_,ha⟩,?_⟩;refine oV (K:=K) (xs:=a.map V.int) (fun i rs H2=>H2=H/\rs=((Ld.scaled a m).take i).map V.int) ⟨Z,jH⟩ (fun i rs H2 _ z=>by rw[z.1];exact ha)
  (fun i rs H2 hi z=>by rw[aa] at hi;rw[z.2];simp only[List.length_map,List.length_take];exact mH jJ) ?_ ?_
 .rintro i x rs H2 hx ⟨rfl,rfl⟩;obtain⟨u,rfl,hu⟩:=int_at hx;refine⟨_,Z,_,Z,_,_,Z,Z,hm u (ak hu),Z,?_⟩;rw[nq (v:=u*m)];unfold Ld.scaled;rw[af,hu];rfl
 .rintro rs H2 ⟨rfl,rfl⟩ D hD;rw[nR (by rw[Ld.sR,aa])];exact q D _ (jR (jU.refl _) hD) hD jO
inductive IQ (vs:List V)(H:Hp)(Q:VK)(E_:XK):Prop
 | mk (r:Addr)(n:Nat)(rows:List (Int×Int×Int))(ps:List (Int×Int))(_:vs=[.int n,.ref r])(_:1<=n)(_:n<=420)(_:xL H r rows)(_:Pt.Parts n ps)(_:∀x∈rows,x.1∈ps.map Prod.fst/\0<=x.2.1/\x.2.1<n)(_:∀t H' b,jU H H'->H t=none->H' t=some (.lst (b.map V.int))->b.length=n->(∀x,Ld.at' b x=Rg.xI n rows x)->Q (.ref t) H')
theorem rG (T:Txt K mg CF tL tF tM):Df P w K mg base 1 "_law_laid" ["n","rows"] IQ:=by
 refine kR T.d_law_laid AQ fun f cdv A outer s H vs Q E hr nd h=>?_;obtain⟨r,n,rows,ps,rfl,n1,n2,tr,hp,rok,q⟩:=h;refine⟨_,(jK (kh 2 nd (jV p9 (lR (kL jM)) (pv 0))) (jK (kZ aJ Z (kG (pv 1)) (mv Z (kg (lX 3 nd) (kg (lX 4 nd) (kg (lX 5 nd) lO)))) (jQ (kZ aJ Z (mC jI T.b_range (kL (pv 3))) (lX 6 nd) (jK (kh 7 nd (jV kJ (jV kM (pv 4) (jV ks (pv 6) (jV ky (pv 0) (pv 3)))) (pv 0))) (jQ (oM (jV kM (ki kN (pv 2) (pv 7)) (pv 5)) (oH (pv 2) (pv 7) set_list))))))) (jQ (j4 (pv 2))))),?_⟩;refine⟨jS,fun l hl=>⟨_,Z,l,_,_,Z,Z,jO,jJ,jJ,(by show 1*_<=_;exact nF jJ),fun du Ly=>?_⟩⟩;rw[rep0];have RO:l≠du:=j8 jO Ly;have IP:H du=none:=by rwa [j5 (dj RO)] at Ly
 have qZ:jU H (upd (upd H l (.lst [V.int 0])) du (.lst ((List.replicate n (0:Int)).map V.int))):=kK (kK (jU.refl H) hl) IP;have Lz:upd (upd H l (.lst [V.int 0])) du (.lst ((List.replicate n (0:Int)).map V.int)) du=some (.lst ((List.replicate n (0:Int)).map V.int)):=jO;generalize upd (upd H l (.lst [V.int 0])) du (.lst ((List.replicate n (0:Int)).map V.int))=H0 at qZ Lz ⊢;obtain⟨rs,RK,RL⟩:=tr;have rl:=fe RL;refine⟨_,Z,r,Z,⟨_,qZ.seq (j6.of (K:=K) RK)⟩,?_⟩;refine mI (xs:=rs.map V.ref) (fun i σ H4=>jU H H4/\∃(b:List Int)(o1 o2 o3 o4 o5:Option V),σ=[some (.int n),some (.ref r),some (.ref du),o1,o2,o3,o4,o5]/\H4 du=some (.lst (b.map V.int))/\b.length=n/\∀x,Ld.at' b x=Rg.xI n (rows.take i) x)
  ⟨qZ,List.replicate n 0,none,none,none,none,none,Z,Lz,jH,fun x=>by rw[List.take_zero,Ld.HM];unfold Rg.xI;simp⟩ (fun i σ H4 _ z=>z.1.seq (j6.of RK)) ?_ ?_
 .rintro i x σ H4 hx ⟨mi,b,o1,o2,o3,o4,o5,rfl,hb,lb,inv⟩;obtain⟨ad,rfl,ea⟩:=oK hx;obtain⟨⟨p,hole,many⟩,ep,ha⟩:=kU RL ea;obtain⟨c,h0,hn⟩:=rok _ (List.mem_of_getElem? ep);dsimp only at c h0 hn;obtain⟨y,hy,ey⟩:=List.mem_map.mp c;have pd:p∣(n:Int):=by rw[<-ey];exact((Pt.oB hp y).mp hy).2.1
  have p2:2<=p:=by rw[<-ey];exact(hp.row y hy).pr.1
  have pn:=aU J pd;obtain⟨st,Bv,Ej,Iy,_⟩:=Rg.yS n1 p2 pd;refine⟨ad,_,Z,kQ.of (mi _ _ ha),Z,_,_,Z,_,_,Z,_,_,Z,Z,?_⟩;refine⟨_,Z,_,Z,J,J,?_⟩;refine oe (fun k σ H5=>jU H H5/\∃(b':List Int)(o4 o5:Option V),σ=[some (.int n),some (.ref r),some (.ref du),some (.int p),some (.int hole),some (.int many),o4,o5]/\H5 du=some (.lst (b'.map V.int))/\b'.length=n /\
    ∀x:Int,Ld.at' b' x=Ld.at' b x+(if (x-hole)%st=0/\((x-hole)%n)/st<(k:Int) then many else 0))
   ⟨mi,b,_,_,Z,hb,lb,Rg.Uo J Ej hole many b⟩ ?_ ?_
  .rintro k σ H5 hk ⟨mL,b',o4,o5,rfl,Oe,Oz,NV⟩;have kp:(k:Int)<p:=J;refine⟨_,Z,_,Z,_,Z,_,Z,_,_,Z,Z,kO J J,_,_,Z,Z,mJ J J,_,_,Z,Z,_,Z,_,_,Z,Z,(show (0:Int)<n by lia),?_⟩;dsimp only;rw[Bv];refine⟨_,Z,_,Z,du,_,_,_,Z,Z,j6.of Oe,Dh Oz J _,_,Z,_,_,Z,Z,_,Z,_,Z,du,_,_,_,Z,Z,Oe,Af (xi Oz) J _,?_⟩;rw[set_int];exact⟨kK mL IP,_,_,_,Z,jO,by rw[cf,Oz],Rg.WN Ej Iy J Oz NV⟩
  .rintro σ H5 ⟨mL,b',o4,o5,rfl,Oe,Oz,NV⟩;refine⟨mL,b',_,_,_,_,_,Z,Oe,Oz,fun x=>?_⟩;rw[Rg.Ww Ej (show 0<p.toNat by lia) Iy NV,inv,Pt.take_snoc ep,Rg.AY];unfold Rg.rv;rw[Bv]
 .rintro σ H4 ⟨mi,b,o1,o2,o3,o4,o5,rfl,hb,lb,inv⟩;rw[aa,rl,bV] at inv;exact⟨_,Z,q du H4 b mi IP hb lb inv⟩
inductive TD (K:PySem.W.Frag)(vs:List V)(H:Hp)(Q:VK)(E_:XK):Prop
 | mk (r s:Addr)(a:List Int)(n:Nat)(ps:List (Int×Int))(l:List ((Int×Int)×Int))(_:vs=[.ref r,.ref s])(_:j6 K H r (a.map V.int))(_:a.length=n)(_:1<=n)(_:n<=420)(_:Rt.oA n ps l)(_:H s=some (.lst ((Rt.nK n l).map V.int)))(_:∀t H',jU H H'->H t=none->H' t=some (.lst ((Ct.kr n l a).map V.int))->Q (.ref t) H')
theorem uh (T:Txt K mg CF tL tF tM):Df P w K mg base 7 "kept_rest" ["load","holes"] (TD K):=by
 refine kR T.d_kept_rest y9 fun f cdv A outer s H vs Q E hr nd h=>?_;obtain⟨r,s',a,n,ps,l,rfl,ha,la,n1,n2,pO,hs,q⟩:=h;refine⟨_,(jK (kh 2 nd (ki j9 (kf (DS T) hr (kL (pv 0))) jM)) (jQ (j4 (nh [("left",2)] ["hole"] (kG (pv 1)) (fun C s H fp=>⟨(nT 1),kq,(ki (oC (K:=K) Z) (pv 0) (pv 1))⟩))))),?_⟩;refine⟨_,Z,r,a,n,Z,ha,la,n1,n2,fun t le ro H1 b QV l' rows lU ft fl fr ht hb lb KB bv _ _=>?_⟩;have f0:me [V.ref le,V.ref ro] 0=some (.ref le):=Z;refine⟨t,_,_,_,Z,Z,kQ.of ht,f0,?_⟩;have NU:∀x,Ld.at' b x=Rt.R n l (Ld.at' a) x:=fun x=>by rw[bv,KB.one pO]
 refine⟨_,Z,s',Z,⟨_,j6.of (lU _ _ hs)⟩,?_⟩;refine lJ (K:=K) (xs:=(Rt.nK n l).map V.int) (Ct.kr n l a) (by rw[Ct.pI,aa]) (by rw[aa];have:=Rt.ue n l;lia) (j6.of (lU _ _ hs)) ?_ ?_
 .intro i x H2 hx lQ R kk;obtain⟨hv,rfl,eh⟩:=int_at hx;have km:=(Rt.ud.mp (ak eh)).1;exact⟨_,Z,_,Z,le,_,_,_,Z,Z,j6.of (lQ _ _ hb),AL km.1 J,kk _ _ (jU.refl _) (by unfold Ct.kr;rw[List.getElem?_map,eh,NU];rfl)⟩
 intro c H2 lQ fc h2;exact q c H2 (lU.trans lQ) (lU.free fc) h2
inductive UO (vs:List V)(H:Hp)(Q:VK)(E_:XK):Prop
 | mk (s wt:Addr)(W:List Int)(n M:Nat)(ps:List (Int×Int))(l:List ((Int×Int)×Int))(_:vs=[.int n,.ref s,.ref wt])(_:1<=n)(_:n<=60)(_:Rt.oA n ps l)(_:H s=some (.lst ((Rt.nK n l).map V.int)))(_:H wt=some (.lst (W.map V.int)))(_:W.length=(Rt.nK n l).length)(_:Bd M W)(_:∀t H' AW,jU H H'->H' t=some (.lst (AW.map V.int))->AW.length=n->Bd (M+6) AW->(∀k:Nat,k<n->Ld.at' AW k=Ct.aw n l W (Rt.nK n l).length k)->Q (.ref t) H')
theorem uZ (T:Txt K mg CF tL tF tM):Df P w K mg base 8 "all_weighings" ["n","holes","weights"] UO:=by
 refine kR T.d_all_weighings uG fun f cdv A outer s H vs Q E hr nd h=>?_;obtain⟨s',wt,W,n,M,ps,l,rfl,n1,n2,pO,hs,hw,lW,bW,q⟩:=h;refine⟨_,(jK (kh 3 nd (jV p9 (lR (kL jM)) (pv 0))) (jK (kZ aJ Z (m7 jI T.b_zip (ko (pv 1) (pv 2))) (mv Z (kg (lX 4 nd) (kg (lX 5 nd) lO))) (jQ (kh 3 nd (kf (JC T) hr (ko (pv 3) (kf (yy T) hr (ko (kf (vk T) hr (ko (pv 0) (pv 4))) (pv 5)))))))) (jQ (j4 (pv 3))))),?_⟩;refine⟨jS,fun lo yK=>⟨_,Z,lo,_,_,Z,Z,jO,J,J,zgW,fun p hp=>?_⟩⟩;rw[rep0];have Oo:jU H (upd (upd H lo (.lst [V.int 0])) p (.lst ((List.replicate n (0:Int)).map V.int))):=jR (jR (jU.refl _) yK) hp;have hP:upd (upd H lo (.lst [V.int 0])) p (.lst ((List.replicate n (0:Int)).map V.int)) p=some (.lst ((List.replicate n (0:Int)).map V.int)):=jO;generalize upd (upd H lo (.lst [V.int 0])) p (.lst ((List.replicate n (0:Int)).map V.int))=H0 at Oo hP ⊢;refine⟨_,Z,_,Z,s',wt,Z,⟨_,j6.of (Oo _ _ hs)⟩,⟨_,j6.of (Oo _ _ hw)⟩,tO (K:=K) (xs:=(Rt.nK n l).map V.int) (ys:=W.map V.int) (by rw[aa,aa,lW]) (fun i σ H2=>jU H H2/\∃(oc:Addr)(AW:List Int)(o1 o2:Option V),σ=[some (.int n),some (.ref s'),some (.ref wt),some (.ref oc),o1,o2]/\H2 oc=some (.lst (AW.map V.int))/\AW.length=n/\∀k:Nat,k<n->Ld.at' AW k=Ct.aw n l W i k) ⟨Oo,p,_,none,none,Z,hP,aV,fun k hk=>Ld.oO (by rw[fK,aD hk];rfl)⟩ (fun i σ H2 _ z=>⟨z.1.seq (j6.of hs),z.1.seq (j6.of hw)⟩) ?_ ?_⟩
 .rintro i x y σ H2 pr hx hy ⟨sm,oc,AW,o1,o2,rfl,ho,lA,ev⟩ hpr;obtain⟨hv,rfl,eh⟩:=int_at hx;obtain⟨c,rfl,ec⟩:=int_at hy;have kp:=(Rt.ud.mp (ak eh)).2;refine⟨pr,_,Z,kQ.of jO,Z,_,_,Z,_,_,Z,Z,?_⟩;have k9:jU H2 (upd H2 pr (.tup [.int hv,.int c])):=jR (jU.refl _) hpr;generalize upd H2 pr (.tup [.int hv,.int c])=H3 at k9 ⊢;refine⟨_,Z,_,Z,_,Z,n,hv,ps,l,Z,n1,J,pO,kp,fun tw H4 V4 mi f4 h4 lV vv=>?_⟩;refine⟨_,Z,tw,V4,c,Z,j6.of h4,J,fun x hx=>?_,fun ts H5 mL f5 h5=>?_⟩
  .obtain⟨k,hk,e⟩:=List.getElem_of_mem hx;have e2:Ld.at' V4 k=x:=Ld.oO (by rw[<-e];exact ax hk);have:=vv k J;rw[e2] at this;rcases Rt.tU l hv k with z | z | z<;>exact qB J J
  have smo:=(k9.trans mi).trans mL;have lS:(Ld.scaled V4 c).length=n:=by unfold Ld.scaled;rw[List.length_map];exact lV
  refine⟨oc,ts,AW,Ld.scaled V4 c,Z,j6.of (smo _ _ ho),j6.of h5,by rw[lA,lS],J,fun to H6 sx f6 h6=>?_⟩;refine⟨(sm.trans smo).trans sx,to,_,_,_,Z,h6,by rw[Ld.n6 (by rw[lA,lS])];exact lA,fun k hk=>?_⟩;rw[Ld.oS (by rw[lA,lS]) J,Ld.qD J,ev k hk,vv k hk];show _=Ct.aw n l W i k+Rt.V l (Lt.g (Rt.nK n l) (i:Int).toNat) k*Lt.g W (i:Int).toNat
  rw[ae,Rx.lB eh,Rx.lB ec]
 .rintro σ H2 ⟨sm,oc,AW,o1,o2,rfl,ho,lA,ev⟩;rw[aa] at ev;refine⟨_,Z,q oc H2 AW sm ho lA (fun x hx=>?_) ev⟩;obtain⟨k,hk,e⟩:=List.getElem_of_mem hx;have e2:Ld.at' AW k=x:=Ld.oO (by rw[<-e];exact ax hk);rw[<-e2,ev k J];have kl:=Rt.ue n l;exact Ct.Ql J (fun c hc=>bW _ (Rx.nH (by rw[lW];exact hc))) _
structure Rco (n w C Cg:Nat):Prop where
 C1:1<=C
 CC:C<=Cg
 CN:Cg<2^9000
 num:∀k,k<=n->k<=w->∃B G,Nk k C Cg 9000 B G
 big:∀k,k<=n->k<=w->(2*(k*C)+1)^k*((k+1)*(Sg.uH k Cg*Cg))<Pq.pd Pq.S
theorem L7 {n w C Cg K0:Nat}(C1:1<=C)(CC:C<=Cg)(h:(List.range K0).all (fun k=>Rx.Sa k C Cg)=true)(K1:0<K0)(le:∀k,k<=n->k<=w->k<K0):Rco n w C Cg:=by
 have ck:∀k,k<K0->Rx.Sa k C Cg=true:=fun k hk=>dE.mp h k (dZ.mpr hk);have sp:∀k,k<K0->128*(Rx.gB k C Cg*Rx.gB k C Cg)*(128*(Rx.gB k C Cg*Rx.gB k C Cg))*2^480<=2^9000/\Rx.gG k C Cg<2^9000/\Rx.gD k C*((k+1)*(Sg.uH k Cg*Cg))<Pq.pd Pq.S:=fun k hk=>by
  have c:=ck k hk;unfold Rx.Sa at c;rw[fU,fU] at c;exact⟨gP c.1.1,gP c.1.2,gP c.2⟩
 refine⟨C1,CC,b3 (show Cg<=Rx.gG 0 C Cg by unfold Rx.gG;exact Nat.le_add_left ..) (sp 0 K1).2.1,fun k a b=>⟨Rx.gB k C Cg,Rx.gG k C Cg,?_,?_,?_,?_,(sp k (le k a b)).1,(sp k (le k a b)).2.1,?_,?_⟩,fun k a b=>(sp k (le k a b)).2.2⟩
 .show Rx.gD k C<=Rx.gB k C Cg
  unfold Rx.gB;exact Nat.le_trans (Nat.le_add_left ..) (Nat.le_add_right ..)
 .show Rx.gD k C<=Rx.gG k C Cg
  unfold Rx.gG;exact Nat.le_trans (Nat.le_add_right ..) (Nat.le_add_right ..)
 .show k*(Rx.gD k C*(Sg.uH k C*Rx.gG k C Cg))<=Rx.gB k C Cg
  unfold Rx.gB;exact Nat.le_trans (Nat.le_add_right ..) (Nat.le_add_right ..)
 .unfold Rx.gB;exact Nat.le_add_left ..
 .unfold Rx.gG;exact Nat.le_trans (Nat.le_add_left ..) (Nat.le_add_right ..)
 .unfold Rx.gG;exact Nat.le_add_left ..
inductive O2 (C:Addr)(vs:List V)(H:Hp)(Q:VK)(E_:XK):Prop
 | mk (r s:Addr)(a:List Int)(bs:List (List Int))(n C0 Cg:Nat)(ps:List (Int×Int))(l:List ((Int×Int)×Int))(_:vs=[.ref r,.ref s])(_:H r=some (.lst (a.map V.int)))(_:lH H s bs)(_:a.length=n)(_:∀b∈bs,b.length=n)(_:1<=n)(_:n<=60)(_:bs.length<=400)(_:Rt.oA n ps l)(_:Rco bs.length (Rt.nK n l).length C0 Cg)(_:∀b∈bs,∀z∈Ct.kr n l b,z.natAbs<=C0)(_:∀z∈Ct.kr n l a,z.natAbs<=Cg)(_:∀t ct H' cs,jU H H'->H' t=some (.tup [.str "way",.ref ct])->H' ct=some (.lst (cs.map V.int))->cs.length=bs.length->Bd 40000 cs->Rx.Hj (Rt.nK n l).length (bs.map (Ct.kr n l)) (Ld.scaled (Ct.kr n l a) (-1)) cs->Q (.ref t) H')(_:∀t wt H' AW W s0,jU H H'->H' t=some (.tup [.str "bar",.ref wt,.int s0])->H' wt=some (.lst (AW.map V.int))->AW.length=n->0<=s0->Bd 9007 AW->W.length=(Rt.nK n l).length->(∀k:Nat,k<n->Ld.at' AW k=Ct.aw n l W (Rt.nK n l).length k)->Rx.Fi (bs.map (Ct.kr n l)) (Ld.scaled (Ct.kr n l a) (-1)) W s0->Q (.ref t) H')
theorem CP (T:Txt K mg CF tL tF tM):Df P w K mg base 13 "counter" ["load","blocks"] (O2 CF):=by
 refine kR T.d_counter Bw fun f cdv A outer s H vs Q E hr nd h=>?_;obtain⟨r,s',a,bs,n,C0,Cg,ps,l,rfl,ha,hB,la,lb,n1,n2,b4,pO,rc,bC,bG,qw,qb⟩:=h;obtain⟨as,h1,pa⟩:=id hB;have lp:=j7 pa;refine⟨_,(jK (kZ aJ Z (kG (pv 1)) (lX 2 nd) (jQ (mR (kf (qK T) hr (ko (pv 0) (pv 2)))))) (jK (kh 3 nd (nQ T.b_len (pv 0))) (jK (kY (lI t7 (pv 3) (vO (v:=.int 60) jI T.g_MOST_HOLES_COUNTERED ⟨_,Z⟩)) Gr kD) (jK (kh 4 nd (kf (Ke T) hr (kL (pv 3)))) (jK (kh 5 nd (kf (Gi T) hr (ko (nh [("holes",4)] ["block"] (kG (pv 1)) (fun C s H fp=>⟨(nT 1),kq,(kf (uh T) hr (ko (pv 1) (pv 0)))⟩)) (kf (yy T) hr (ko (kf (uh T) hr (ko (pv 0) (pv 4))) (rM pf jM)))))) (jK (kY (lI nS (ki j9 (pv 5) jM) oG) (jQ (j4 (pv 5))) kD) (jQ (j4 (lL (jL oG (jL (kf (uZ T) hr (jL (pv 3) (jL (pv 4) (jL (ki j9 (pv 5) jM) ke)))) (jL (ki j9 (pv 5) jM) ke)))))))))))),?_⟩;rw[show start ["load","blocks","block","n","holes","told"] [V.ref r,V.ref s']=[some (.ref r),some (.ref s'),none,none,none,none] from Z];refine⟨_,Z,s',Z,⟨_,j6.of h1⟩,mI (K:=K) (xs:=as.map V.ref) (fun i σ H2=>H2=H/\∃o:Option V,σ=[some (.ref r),some (.ref s'),o,none,none,none]) ⟨Z,none,Z⟩ (fun i σ H2 _ z=>by rw[z.1];exact j6.of h1) ?_ ?_⟩
 .rintro i x σ H2 hx ⟨rfl,o,rfl⟩;obtain⟨b,row,rfl,hb,lE,hh⟩:=mK pa hx;exact⟨_,Z,_,Z,r,b,_,_,Z,j6.of ha,j6.of hh,by rw[aa,aa,la,lb row (ak lE)],Z,_,Z⟩
 rintro σ H2 ⟨rfl,o,rfl⟩;refine⟨_,Z,r,_,Z,.inl (j6.of ha),?_⟩;rw[aa,la]
 try dsimp only[kW,oh,oi]
 refine⟨_,Z,_,_,Z,Z,_,Z,mB (by simp;lia) ?_⟩;refine⟨_,Z,n,ps,l,Z,n1,J,pO,fun ho H1 lU YT=>?_⟩
 try dsimp only[kW,oh,oi]
 refine⟨_,Z,s',Z,⟨_,j6.of (lU _ _ h1)⟩,?_⟩;refine qy (K:=K) (xs:=as.map V.ref) (bs.map (Ct.kr n l)) (by rw[aa,aa,lp]) zgU (j6.of (lU _ _ h1)) ?_ ?_
 .intro i x H3 hx k9 R kk;obtain⟨b,row,rfl,hb,lE,hh⟩:=mK pa hx;refine⟨_,Z,_,Z,b,ho,row,n,ps,l,Z,j6.of (k9 _ _ (lU _ _ hh)),lb row (ak lE),n1,J,pO,k9 _ _ YT,fun t H4 mi _ h4=>kk H4 t _ mi (by rw[af,lE];rfl) h4⟩
 intro st H3 k9 _ uv;have tJ:=lU.trans k9;refine⟨_,Z,_,Z,r,ho,a,n,ps,l,Z,j6.of (tJ _ _ ha),la,n1,J,pO,k9 _ _ YT,fun kl H4 mi _ h4=>?_⟩;have kln:=Rt.ue n l;refine⟨_,Z,kl,_,-1,Z,j6.of h4,by rw[Ct.pI];lia,fun x _=>gN (fi O O),fun gl H5 mL _ h5=>?_⟩;have Iw:=mi.trans mL;have lk:∀y∈bs.map (Ct.kr n l),y.length=(Rt.nK n l).length:=fun y hy=>by
  obtain⟨b,_,rfl⟩:=List.mem_map.mp hy;exact Ct.pI
 refine⟨st,gl,bs.map (Ct.kr n l),Ld.scaled (Ct.kr n l a) (-1),(Rt.nK n l).length,9000,C0,Cg,Z,(uv.same mi).same mL,h5,lk,by unfold Ld.scaled;rw[List.length_map,Ct.pI],J,by rw[List.length_map];lia,O,O,rc.C1,rc.CC,rc.CN,fun y hy z hz=>?_,fun z hz=>?_,by rw[List.length_map];exact rc.num,by rw[List.length_map];exact rc.big,fun t wt H6 W s0 sx OA hw6 lW s1 bW sh=>?_,fun t ct H6 cs sx OA hc6 lc bc sh=>?_⟩
 .obtain⟨b,hb,rfl⟩:=List.mem_map.mp hy;exact bC b hb z hz
 .unfold Ld.scaled at hz;obtain⟨x,hx,rfl⟩:=List.mem_map.mp hz;have:=bG x hx;show (x * -1).natAbs<=Cg
  rw[f7,gR];exact this
 .have ux:=(tJ.trans Iw).trans sx;have YU:=(k9.trans Iw).trans sx;have i0:me [V.str "bar",V.ref wt,V.int s0] 0=some (.str "bar"):=Z;have i1:me [V.str "bar",V.ref wt,V.int s0] 1=some (.ref wt):=Z;have i2:me [V.str "bar",V.ref wt,V.int s0] 2=some (.int s0):=Z
  try dsimp only[kW,oh,oi]
  refine⟨_,Z,t,_,_,_,Z,Z,kQ.of OA,i0,Z,_,Z,mB O ?_⟩;refine⟨_,Z,_,Z,_,Z,t,_,_,_,Z,Z,kQ.of OA,i1,ho,wt,W,n,9001,ps,l,Z,n1,n2,pO,YU _ _ YT,hw6,lW,bW,fun aw H7 AW uu h7 lA bA ev=>?_⟩;refine⟨_,Z,t,_,_,_,Z,Z,kQ.of (uu _ _ OA),i2,jY,fun tt qG=>?_⟩;have vE:=jR (o:=.tup [V.str "bar",V.ref aw,V.int s0]) (jU.refl H7) qG;exact qb tt aw _ AW W s0 ((ux.trans uu).trans vE) jO (vE _ _ h7) lA s1 bA lW ev sh
 .have i0:me [V.str "way",V.ref ct] 0=some (.str "way"):=Z
  try dsimp only[kW,oh,oi]
  refine⟨_,Z,t,_,_,_,Z,Z,kQ.of OA,i0,Z,_,Z,qx O ?_⟩;exact⟨_,Z,qw t ct H6 cs ((tJ.trans Iw).trans sx) OA hc6 (by rw[lc,aa]) bc sh⟩
inductive JN (vs:List V)(H:Hp)(Q:VK)(E_:XK):Prop
 | mk (i:Int)(_:vs=[.int i])(_:Q (.bl true) H)
theorem qT (T:Txt K mg CF tL tF tM):Df P w K mg base 1 "_law_whole" ["found"] JN:=by
 refine kR T.d_law_whole zu fun f cdv A outer s H vs Q E hr nd h=>?_;obtain⟨i,rfl,q⟩:=h;refine⟨_,(jQ (j4 (Bz (kP mE jI T.b_isinstance L2.lY (ko (pv 0) (pR (v:=.ty "int") jI T.b_int L2.LC jI))) (B5 (GQ (kP mE jI T.b_isinstance L2.lY (ko (pv 0) (pR (v:=.ty "bool") jI T.b_bool L2.IS jI)))))))),?_⟩;refine⟨_,Z,_,_,_,true,Z,.int i,oy _,true,Z,PF ?_⟩;exact⟨_,Z,_,_,_,false,Z,.int i,L2.LK,false,Z,q⟩
inductive HL (K:PySem.W.Frag)(vs:List V)(H:Hp)(Q:VK)(E_:XK):Prop
 | mk (a:Addr)(ns:List Int)(k:Int)(_:vs=[.ref a,.int k])(_:j6 K H a (ns.map V.int))(_:0<=k)(_:∀v:Int,Q (.int v) H)
theorem kS (T:Txt K mg CF tL tF tM):Df P w K mg base 1 "_law_cell_at" ["script","k"] (HL K):=by
 refine kR T.d_law_cell_at xa fun f cdv A outer s H vs Q E hr nd h=>?_;obtain⟨a,ns,k,rfl,hS,k0,q⟩:=h;refine⟨_,(jK (kY (lI Dt (pv 1) (nQ T.b_len (pv 0))) (jQ (j4 (ki kN (pv 0) (pv 1)))) kD) (jQ (j4 jM))),?_⟩;refine⟨_,Z,_,Z,a,_,Z,.inl hS,_,_,Z,Z,_,Z,?_⟩;refine mZ (fun c=>?_) (fun c=>q 0);have hk:=dec c;rw[aa] at hk;obtain⟨v,hv,_⟩:=ME k0 hk;exact⟨_,Z,_,Z,a,_,_,_,Z,Z,hS,hv,q v⟩
inductive L4 (vs:List V)(H:Hp)(Q:VK)(E_:XK):Prop
 | mk (r:Addr)(cs:List Int)(_:vs=[.ref r,.int cs.length])(_:H r=some (.lst (cs.map V.int)))(_:cs.length<=20000)(_:∀H',jU H H'->Q (.bl true) H')
theorem r8 (T:Txt K mg CF tL tF tM):Df P w K mg base 2 "_law_numbers" ["found","many"] L4:=by
 refine kR T.d_law_numbers wT fun f cdv A outer s H vs Q E hr nd h=>?_;obtain⟨r,cs,rfl,hl,Ym,q⟩:=h;refine⟨_,(jK (kY (PW.pt (oY (nB (mY (kP mE jI T.b_isinstance L2.lY (ko (pv 0) (pR (v:=.ty "list") jI T.b_list L2.pQ jI))))) (rW (lI ox (nQ T.b_len (pv 0)) (pv 1))))) (jQ (j4 qk)) kD) (jQ (j4 (kP (sE Z) jI T.b_all L2.Aa (kL (nh [] ["one"] (kG (pv 0)) (fun C s H fp=>⟨(nT 0),kq,(kf (qT T) hr (kL (pv 0)))⟩))))))),?_⟩;refine⟨_,Z,_,_,_,true,Z,.lst hl,oy _,true,Z,Ae ?_⟩;refine⟨_,Z,r,_,Z,.inl (j6.of hl),_,Z,Z,_,Z,yw (by rw[aa]) ?_⟩;refine⟨_,Z,r,Z,⟨_,j6.of hl⟩,?_⟩;refine oV (K:=K) (xs:=cs.map V.int) (fun i ys H2=>H2=H/\ys=(List.replicate i true).map V.bl) ⟨Z,Z⟩ (fun i ys H2 _ z=>by rw[z.1];exact j6.of hl)
  (fun i ys H2 hi z=>by rw[aa] at hi;rw[z.2,aa,aV];exact mH J) ?_ ?_
 .rintro i x ys H2 hx ⟨rfl,rfl⟩;obtain⟨u,rfl,hu⟩:=int_at hx;refine⟨_,Z,u,Z,Z,?_⟩;rw[iZ,aO];rfl
 .rintro ys H2 ⟨rfl,rfl⟩ D hD;refine⟨D,_,Z,j6.of jO,?_⟩;have e:((List.replicate (cs.map V.int).length true).all id)=true:=by rw[dE];intro b hb;rw[(fH.mp hb).2];rfl
  rw[e];exact q _ (jR (jU.refl _) hD)
inductive M9 (K:PySem.W.Frag)(vs:List V)(H:Hp)(Q:VK)(E_:XK):Prop
 | mk (r s:Addr)(a b:List Int)(N M:Nat)(_:vs=[.ref r,.ref s])(_:H r=some (.lst (a.map V.int)))(_:H s=some (.lst (b.map V.int)))(_:a.length=b.length)(_:Bd N a)(_:Bd M b)(_:N<=1000000)(_:M<=1000000)(_:∀H',jU H H'->Q (.int (Rx.dot a b)) H')
theorem wc (T:Txt K mg CF tL tF tM):Df P w K mg base 1 "_law_sum" ["row","weights"] (M9 K):=by
 refine kR T.d_law_sum BV fun f cdv A outer s H vs Q E hr nd h=>?_;obtain⟨r,s',a,b,N,M,rfl,h1,h2,l,ba,bb,N1,M1,q⟩:=h;refine⟨_,(jK (kh 2 nd jM) (jK (kZ aJ Z (m7 jI T.b_zip (ko (pv 0) (pv 1))) (mv Z (kg (lX 3 nd) (kg (lX 4 nd) lO))) (jQ (kh 2 nd (jV kM (pv 2) (jV ks (pv 3) (pv 4)))))) (jQ (j4 (pv 2))))),?_⟩;refine⟨_,Z,_,Z,r,s',Z,⟨_,j6.of h1⟩,⟨_,j6.of h2⟩,tO (K:=K) (xs:=a.map V.int) (ys:=b.map V.int) (by rw[aa,aa,l]) (fun i σ H2=>jU H H2/\∃o1 o2:Option V,σ=[some (.ref r),some (.ref s'),some (.int (Ld.S i fun j=>Lt.g a j.toNat*Lt.g b j.toNat)),o1,o2]) ⟨jU.refl _,none,none,Z⟩ (fun i σ H2 _ z=>⟨z.1.seq (j6.of h1),z.1.seq (j6.of h2)⟩) ?_ ?_⟩
 .rintro i x y σ H2 p hx hy ⟨sm,o1,o2,rfl⟩ hp;obtain⟨u,rfl,hu⟩:=int_at hx;obtain⟨v,rfl,hv⟩:=int_at hy;refine⟨p,_,Z,kQ.of jO,Z,_,_,Z,_,_,Z,Z,?_⟩;refine⟨_,Z,_,Z,_,Z,_,_,Z,Z,rQ (ba u (ak hu)) (bb v (ak hv)) N1 M1,_,_,Z,Z,?_⟩;refine⟨jR sm hp,some (.int u),some (.int v),?_⟩;have e:(Ld.S (i+1) fun j=>Lt.g a j.toNat*Lt.g b j.toNat)=(Ld.S i fun j=>Lt.g a j.toNat*Lt.g b j.toNat)+u*v:=by
   show (Ld.S i fun j=>Lt.g a j.toNat*Lt.g b j.toNat)+Lt.g a (i:Int).toNat*Lt.g b (i:Int).toNat=_
   rw[ae,Rx.lB hu,Rx.lB hv]
  rw[e];rfl
 .rintro σ H2 ⟨sm,o1,o2,rfl⟩;refine⟨_,Z,?_⟩;rw[aa,<-Rx.nZ Z l.symm];exact q H2 sm
inductive VE (vs:List V)(H:Hp)(Q:VK)(E_:XK):Prop
 | mk (n m:Int)(_:vs=[.int n,.int m])(_:0<=m)(_:m∣n->Q (.bl true) H)(_:¬m∣n->Q (.bl false) H)
theorem yF (T:Txt K mg CF tL tF tM):Df P w K mg base 1 "_law_by" ["number","modulus"] VE:=by
 refine kR T.d_law_by ED fun f cdv A outer s H vs Q E hr nd h=>?_;obtain⟨n,m,rfl,m0,q1,q2⟩:=h;have key:∀c:Bool,(c=true↔m∣n)->Q (.bl c) H:=fun c e=>by
  cases c with
  | true=>exact q1 (e.mp Z)
  | false=>exact q2 fun z=>by have:=e.mpr z;cases this
 refine⟨_,(jK (kY (lI nS (pv 1) jM) (jQ (j4 (ol nS (pv 0) jM (pJ _)))) kD) (jQ (j4 (ol nS (jV kJ (pv 0) (pv 1)) jM (pJ _))))),?_⟩;refine⟨_,Z,Z,_,Z,mZ (fun c=>?_) (fun c=>?_)⟩
 .have z:=uC c;subst z;refine⟨_,Z,Z,key _ ⟨fun h=>?_,fun h=>?_⟩⟩
  .rw[uC h];exact aZ _
  .rw[gc.mp h];exact cm Z
 .have z:=wF c;refine⟨_,Z,_,Z,_,_,Z,Z,(show 0<m by lia),Z,key _ ⟨fun h=>?_,fun h=>?_⟩⟩
  .exact bS (uC h)
  .have:n%m=0:=bT h;exact cm (cQ V.int this)
inductive Gh (vs:List V)(H:Hp)(Q:VK)(E_:XK):Prop
 | mk (r:Addr)(n:Nat)(rows:List (Int×Int×Int))(ps:List (Int×Int))(_:vs=[.ref r,.int n])(_:1<=n)(_:n<=420)(_:xL H r rows)(_:Pt.Parts n ps)(_:∀x∈rows,x.1∈ps.map Prod.fst/\0<=x.2.1/\x.2.1<n)(_:∀H',jU H H'->Q (.bl true) H')
theorem wM (T:Txt K mg CF tL tF tM):Df P w K mg base 2 "_law_rows_of" ["found","n"] Gh:=by
 refine kR T.d_law_rows_of wA fun f cdv A outer s H vs Q E hr nd h=>?_;obtain⟨r,n,rows,ps,rfl,n1,n2,⟨as,h1,pa⟩,hp,ok,q⟩:=h;refine⟨_,(jK (kY (nB (mY (kP mE jI T.b_isinstance L2.lY (ko (pv 0) (pR (v:=.ty "list") jI T.b_list L2.pQ jI))))) (jQ (j4 qk)) kD) (jK (kZ aJ Z (kG (pv 0)) (lX 2 nd) (jK (kY (PW.pt (oY (nB (mY (kP mE jI T.b_isinstance L2.lY (ko (pv 2) (pR (v:=.ty "tuple") jI T.b_tuple L2.t5 jI))))) (oY (lI ox (nQ T.b_len (pv 2)) jM) (rW (nB (mY (kP (sE Z) jI T.b_all L2.Aa (kL (nh [] ["one"] (L5 (pv 2)) (fun C s H fp=>⟨(nT 0),kq,(kf (qT T) hr (kL (pv 0)))⟩)))))))))) (jQ (j4 qk)) kD) (jQ (kY (PW.pt (oY (DU zh (ki j9 (pv 2) jM) (kf (oj T) hr (kL (pv 1))) jI) (oY (lI Dt (ki j9 (pv 2) jM) jM) (rW (lI K2 (ki j9 (pv 2) jM) (pv 1)))))) (jQ (j4 qk)) kD)))) (jQ (j4 qk)))),?_⟩;refine⟨_,Z,_,_,_,true,Z,.lst h1,oy _,true,Z,Ae ?_⟩;refine⟨_,Z,r,Z,⟨_,j6.of h1⟩,mI (K:=K) (xs:=as.map V.ref) (fun i σ H2=>jU H H2/\∃o:Option V,σ=[some (.ref r),some (.int n),o]) ⟨jU.refl _,none,Z⟩ (fun i σ H2 _ z=>z.1.seq (j6.of h1)) ?_ ?_⟩
 .rintro i x σ H2 hx ⟨sm,o,rfl⟩;obtain⟨a,rfl,ea⟩:=oK hx;obtain⟨⟨p,hole,many⟩,ht,hh⟩:=kU pa ea;have S7:=sm _ _ hh;obtain⟨k1,k2,k3⟩:=ok _ (List.mem_of_getElem? ht);have i0:me [V.int p,V.int hole,V.int many] 0=some (.int p):=Z;have i1:me [V.int p,V.int hole,V.int many] 1=some (.int hole):=Z;refine⟨_,Z,_,_,_,true,Z,.tup S7,oy _,true,Z,Ae ?_⟩;refine⟨_,Z,a,_,Z,.inr (kQ.of S7),Z,_,Z,mB (by show ¬(!decide (V.int 3=V.int 3))=true;simp) ?_⟩;refine⟨_,Z,a,Z,⟨_,kQ.of S7⟩,?_⟩;refine GM (K:=K) (xs:=[V.int p,V.int hole,V.int many]) (fun i ys H3=>H3=H2/\ys=(List.replicate i true).map V.bl) ⟨Z,Z⟩ (fun i ys H3 _ z=>by rw[z.1];exact kQ.of S7)
   (fun i ys H3 hi z=>by rw[z.2,aa,aV];exact mH (by have:i<3:=hi;lia)) ?_ ?_
  .rintro j y ys H3 hy ⟨rfl,rfl⟩;obtain⟨u,rfl,hu⟩:=int_at (ms:=[p,hole,many]) hy;refine⟨_,Z,u,Z,Z,?_⟩;rw[iZ,aO];rfl
  .rintro ys H3 ⟨rfl,rfl⟩ D hD;refine⟨D,_,Z,j6.of jO,_,Z,mB (show ¬(!(List.replicate 3 true).all id)=true by decide) ?_⟩;have k9:=jR (o:=.lst ((List.replicate 3 true).map V.bl)) sm hD;have hh3:=k9 _ _ hh;refine⟨_,Z,a,_,_,_,Z,Z,kQ.of hh3,i0,_,Z,n,Z,n1,n2,fun r1 H4 vh mi f4 h4 hp4=>?_⟩;have Iz:=Pt.nJ hp4 hp;subst Iz;refine⟨r1,_,Z,.inl (j6.of h4),Z,yq _,_,Z,mB (by rw[Bl,cm k1];decide) ?_⟩;have Iv:=k9.trans mi;refine⟨_,Z,a,_,_,_,Z,Z,kQ.of (Iv _ _ hh),i1,_,_,Z,Z,_,Z,mB (by simpa using k2) ?_⟩;refine⟨_,Z,a,_,_,_,Z,Z,kQ.of (Iv _ _ hh),i1,_,Z,_,_,Z,Z,_,Z,mB (by simpa using k3) ?_⟩;exact⟨Iv,_,Z⟩
 .rintro σ H2 ⟨sm,o,rfl⟩;exact q H2 sm
inductive PJ (K:PySem.W.Frag)(vs:List V)(H:Hp)(Q:VK)(E_:XK):Prop
 | mk (r:Addr)(a:List Int)(n:Nat)(ps:List (Int×Int))(l:List ((Int×Int)×Int))(_:vs=[.ref r])(_:H r=some (.lst (a.map V.int)))(_:a.length=n)(_:1<=n)(_:n<=420)(_:Rt.oA n ps l)(_:Rt.Zn n l (Ld.at' a))(_:∀H',jU H H'->Q (.bl true) H')
theorem AA (T:Txt K mg CF tL tF tM):Df P w K mg base 9 "_law_even" ["load"] (PJ K):=by
 refine kR T.d_law_even AE fun f cdv A outer s H vs Q E hr nd h=>?_;obtain⟨r,a,n,ps,l,rfl,ha,la,n1,n2,pO,zn,q⟩:=h;refine⟨_,(jK (kh 1 nd (kf (FX T) hr (kL (qm nU jI T.b_list L2.pQ (kL (pv 0)))))) (jK (kY (PW.pt (oY (nB (mY (kP mE jI T.b_isinstance L2.lY (ko (pv 1) (pR (v:=.ty "tuple") jI T.b_tuple L2.t5 jI))))) (oY (lI ox (nQ T.b_len (pv 1)) jM) (rW (lI ox (ki j9 (pv 1) jM) oG))))) (jQ (j4 qk)) kD) (jQ (j4 (Bz (kf (wM T) hr (ko (ki j9 (pv 1) jM) (nQ T.b_len (pv 0)))) (B5 (ol (Gg (Ja hr)) (kf (rG T) hr (ko (nQ T.b_len (pv 0)) (ki j9 (pv 1) jM))) (pv 0) (pJ _)))))))),?_⟩;refine⟨_,Z,r,_,Z,.inl (j6.of ha),fun c hc=>?_⟩;have lU:=jR (o:=.lst (a.map V.int)) (jU.refl H) hc;refine⟨c,a,n,ps,l,Z,j6.of jO,la,n1,n2,pO,fun _ t ro H2 rows lQ _ _ ht tr _ _ ok ev=>?_,fun no=>absurd zn no⟩;have ux:=lU.trans lQ;have i0:me [V.str "even",V.ref ro] 0=some (.str "even"):=Z;have i1:me [V.str "even",V.ref ro] 1=some (.ref ro):=Z;have ok':∀x∈rows,x.1∈ps.map Prod.fst/\0<=x.2.1/\x.2.1<n:=fun x hx=>⟨(ok x hx).1,(ok x hx).2.1,(ok x hx).2.2.1⟩
 try dsimp only[kW,oh,oi]
 refine⟨_,Z,_,_,_,true,Z,.tup ht,oy _,true,Z,Ae ?_⟩;refine⟨_,Z,t,_,Z,.inr (kQ.of ht),Z,_,Z,mB (by show ¬(!decide (V.int 2=V.int 2))=true;simp) ?_⟩;refine⟨_,Z,t,_,_,_,Z,Z,kQ.of ht,i0,Z,_,Z,yw Z ?_⟩;refine⟨_,Z,t,_,_,_,Z,Z,kQ.of ht,i1,_,Z,r,_,Z,.inl (j6.of (ux _ _ ha)),ro,n,rows,ps,(by rw[xi la];rfl),n1,n2,tr,pO.hp,ok',fun H3 k9=>?_⟩;refine⟨true,Z,PF ?_⟩;have Lp:=ux.trans k9;refine⟨_,Z,r,_,Z,.inl (j6.of (Lp _ _ ha)),_,Z,t,_,_,_,Z,Z,kQ.of (k9 _ _ ht),i1,ro,n,rows,ps,(by rw[xi la];rfl),n1,n2,tr.same k9,pO.hp,ok',fun la4 H4 b mi _ h4 lb bv=>?_⟩;have eb:b=a:=Ld.ext (by rw[lb,la]) fun x _=>by rw[bv x,ev x]
 refine⟨_,Z,Ge (j6.of h4) (j6.of ((Lp.trans mi) _ _ ha)) ?_⟩;rw[eb,cm Z];exact q _ (Lp.trans mi)
inductive MC (K:PySem.W.Frag)(vs:List V)(H:Hp)(Q:VK)(E_:XK):Prop
 | mk (t r s:Addr)(a:List Int)(bs:List (List Int))(n N:Nat)(ps:List (Int×Int))(l:List ((Int×Int)×Int))(_:vs=[.ref t,.ref r,.ref s])(_:H r=some (.lst (a.map V.int)))(_:lH H s bs)(_:a.length=n)(_:∀y∈bs,y.length=n/\Bd N y)(_:1<=n)(_:n<=60)(_:bs.length<=420)(_:N<=1000000)(_:Rt.oA n ps l)(_:(∃ct cs,H t=some (.tup [.str "way",.ref ct])/\H ct=some (.lst (cs.map V.int))/\cs.length=bs.length/\Bd 40000 cs/\Rt.Zn n l (Ct.K7 a bs cs bs.length)/\∀H',jU H H'->Q (.bl true) H')\/∃v0 v1 v2,H t=some (.tup [v0,v1,v2])/\∀H',jU H H'->Q (.bl false) H')
theorem Cv (T:Txt K mg CF tL tF tM):Df P w K mg base 10 "_law_way" ["found","load","blocks"] (MC K):=by
 refine kR T.d_law_way Cr fun f cdv A outer s H vs Q E hr nd h=>?_;obtain⟨t,r,s',a,bs,n,N,ps,l,rfl,ha,hS,la,lb,n1,n2,b4,N1,pO,tl⟩:=h;refine⟨_,(jK (kY (PW.pt (oY (nB (mY (kP mE jI T.b_isinstance L2.lY (ko (pv 0) (pR (v:=.ty "tuple") jI T.b_tuple L2.t5 jI))))) (oY (lI ox (nQ T.b_len (pv 0)) jM) (rW (lI ox (ki j9 (pv 0) jM) oG))))) (jQ (j4 qk)) kD) (jK (kY (nB (mY (kf (r8 T) hr (ko (ki j9 (pv 0) jM) (nQ T.b_len (pv 2)))))) (jQ (j4 qk)) kD) (jK (kh 3 nd (qm nU jI T.b_list L2.pQ (kL (pv 1)))) (jK (kZ aJ Z (m7 jI T.b_zip (ko (pv 2) (ki j9 (pv 0) jM))) (mv Z (kg (lX 4 nd) (kg (lX 5 nd) lO))) (jQ (tj 3 [("many",5)] ["one","other"] nd (m7 jI T.b_zip (ko (pv 3) (pv 4))) (fun C s H fp=>⟨(sJ 1 2),kq,(jV kM (pv 1) (jV ks (pv 0) (pv 2)))⟩)))) (jQ (j4 (kf (AA T) hr (kL (pv 3))))))))),?_⟩;rcases tl with ⟨ct,cs,ht,hc,lc,bc,zn,q⟩ | ⟨v0,v1,v2,ht,q⟩
 rotate_left
 .refine⟨_,Z,_,_,_,true,Z,.tup ht,oy _,true,Z,Ae ?_⟩;refine⟨_,Z,t,_,Z,.inr (kQ.of ht),Z,_,Z,qx (by show (!decide (V.int 3=V.int 2))=true;simp) ?_⟩;exact q H (jU.refl _)
 obtain⟨as,h1,pa⟩:=id hS;have lp:=j7 pa;have i0:me [V.str "way",V.ref ct] 0=some (.str "way"):=Z;have i1:me [V.str "way",V.ref ct] 1=some (.ref ct):=Z;refine⟨_,Z,_,_,_,true,Z,.tup ht,oy _,true,Z,Ae ?_⟩;refine⟨_,Z,t,_,Z,.inr (kQ.of ht),Z,_,Z,mB (by show ¬(!decide (V.int 2=V.int 2))=true;simp) ?_⟩;refine⟨_,Z,t,_,_,_,Z,Z,kQ.of ht,i0,Z,_,Z,yw Z ?_⟩;refine⟨_,Z,t,_,_,_,Z,Z,kQ.of ht,i1,_,Z,s',_,Z,.inl (j6.of h1),ct,cs,(by rw[aa,lp,lc];rfl),hc,J,fun H1 lU=>⟨_,Z,mB O ?_⟩⟩;refine⟨_,Z,r,_,Z,.inl (j6.of (lU _ _ ha)),fun d hd=>?_⟩;have lQ:=jR (o:=.lst (a.map V.int)) (jU.refl H1) hd;have hd2:upd H1 d (.lst (a.map V.int)) d=some (.lst (a.map V.int)):=jO;generalize upd H1 d (.lst (a.map V.int))=H2 at lQ hd2 ⊢;have ux:=lU.trans lQ
 try dsimp only[kW,oh,oi]
 refine⟨_,Z,_,Z,t,_,_,_,Z,Z,kQ.of (ux _ _ ht),i1,s',ct,Z,⟨_,j6.of (ux _ _ h1)⟩,⟨_,j6.of (ux _ _ hc)⟩,tO (K:=K) (xs:=as.map V.ref) (ys:=cs.map V.int) (by rw[aa,aa,lp,lc]) (fun i σ H3=>jU H H3/\∃(d:Addr)(tt:List Int)(o1 o2:Option V),σ=[some (.ref t),some (.ref r),some (.ref s'),some (.ref d),o1,o2]/\H3 d=some (.lst (tt.map V.int))/\tt.length=n/\∀x,Ld.at' tt x=Ct.K7 a bs cs i x) ⟨ux,d,a,none,none,Z,hd2,la,fun x=>(cW _).symm⟩ (fun i σ H3 _ z=>⟨z.1.seq (j6.of h1),z.1.seq (j6.of hc)⟩) ?_ ?_⟩
 .rintro i x y σ H3 p hx hy ⟨sm,d,tt,o1,o2,rfl,h3,lt,ev⟩ hp;obtain⟨b,row,rfl,hb,lE,hh⟩:=mK pa hx;obtain⟨c,rfl,ec⟩:=int_at hy;have rl:=lb row (ak lE);refine⟨p,_,Z,kQ.of jO,Z,_,_,Z,_,_,Z,Z,?_⟩;have pT:=jR (o:=.tup [V.ref b,V.int c]) (jU.refl H3) hp;generalize upd H3 p (.tup [V.ref b,V.int c])=H4 at pT ⊢;have h4:=pT _ _ h3;have hh4:=pT _ _ (sm _ _ hh);refine⟨_,Z,_,Z,d,b,Z,⟨_,j6.of h4⟩,⟨_,j6.of hh4⟩,?_⟩;have lz:(Ld.plus tt (Ld.scaled row c)).length=n:=by rw[Ld.n6 (by unfold Ld.scaled;rw[List.length_map,lt,rl.1])];exact lt
  refine n5 (K:=K) (xs:=tt.map V.int) (ys:=row.map V.int) (Ld.plus tt (Ld.scaled row c)) (by rw[aa,aa,lt,rl.1]) (by rw[lz,aa,lt]) zgU (j6.of h4) (j6.of hh4) ?_ ?_
  .intro j u v H5 pp hu hv mL xz R kk;obtain⟨u',rfl,eu⟩:=int_at hu;obtain⟨v',rfl,Fo⟩:=int_at hv;refine⟨pp,_,Z,kQ.of jO,Z,_,_,Z,_,_,Z,Z,?_⟩;refine⟨_,Z,_,Z,_,Z,_,_,Z,Z,rQ (bc c (ak ec)) (rl.2 v' (ak Fo)) O N1,_,_,Z,Z,kk _ _ (jR (jU.refl _) xz) ?_⟩;unfold Ld.plus Ld.scaled;rw[bU,eu,af,Fo];exact cQ some (show u'+v'*c=u'+c*v' by rw[aB v' c])
  intro D H5 mL _ h5;refine⟨(sm.trans pT).trans mL,D,_,_,_,Z,h5,lz,fun x=>?_⟩;rw[Ld.oS (by unfold Ld.scaled;rw[List.length_map,lt,rl.1]) J,Ld.qD J,ev x];show _=Ld.at' a x+((Ld.S i fun j=>Lt.g cs j.toNat*Ld.at' (bs.getD j.toNat []) x)+Lt.g cs (i:Int).toNat*Ld.at' (bs.getD (i:Int).toNat []) x)
  rw[ae,Rx.lB ec,Rx.uc lE,aB,<-iD];rfl
 .rintro σ H3 ⟨sm,d,tt,o1,o2,rfl,h3,lt,ev⟩;rw[aa,lp] at ev;refine⟨_,Z,d,tt,n,ps,l,Z,h3,lt,n1,J,pO,?_,fun H4 mi=>q H4 (sm.trans mi)⟩;rw[show Ld.at' tt=Ct.K7 a bs cs bs.length from funext ev];exact zn
inductive MX (K:PySem.W.Frag)(vs:List V)(H:Hp)(Q:VK)(E_:XK):Prop
 | mk (t r s wt:Addr)(a W:List Int)(bs:List (List Int))(s0:Int)(n N M:Nat)(ps:List (Int×Int))(_:vs=[.ref t,.ref r,.ref s])(_:H r=some (.lst (a.map V.int)))(_:lH H s bs)(_:a.length=n)(_:Bd N a)(_:∀y∈bs,y.length=n/\Bd N y)(_:1<=n)(_:n<=60)(_:N<=1000000)(_:M<=1000000)(_:Pt.Parts n ps)(_:H t=some (.tup [.str "bar",.ref wt,.int s0]))(_:H wt=some (.lst (W.map V.int)))(_:W.length=n)(_:0<=s0)(_:Bd M W)(_:∀p st:Nat,((p:Nat):Int)∈ps.map Prod.fst->0<st->n=p*st->∀s:Int,0<=s->s<st->Ld.S p (fun t=>Ld.at' W (s+t*st))=0)(_:∀b∈bs,s0∣Rx.dot b W)(_:¬s0∣Rx.dot a W)(_:∀H',jU H H'->Q (.bl true) H')
theorem Ce (T:Txt K mg CF tL tF tM):Df P w K mg base 3 "_law_bar" ["found","load","blocks"] (MX K):=by
 refine kR T.d_law_bar BR fun f cdv A outer s H vs Q E hr nd h=>?_;obtain⟨t,r,s',wt,a,W,bs,s0,n,N,M,ps,rfl,ha,hS,la,bA,lb,n1,n2,N1,M1,hp,ht,hw,lW,s1,bW,zr,dv,ndv,q⟩:=h;obtain⟨as,h1,pa⟩:=id hS;have lp:=j7 pa;have i0:me [V.str "bar",V.ref wt,V.int s0] 0=some (.str "bar"):=Z;have i1:me [V.str "bar",V.ref wt,V.int s0] 1=some (.ref wt):=Z;have i2:me [V.str "bar",V.ref wt,V.int s0] 2=some (.int s0):=Z;have ne1:s0≠1:=fun z=>ndv (by rw[z];exact fY _);refine⟨_,(jK (kh 3 nd (nQ T.b_len (pv 1))) (jK (kY (PW.pt (oY (nB (mY (kP mE jI T.b_isinstance L2.lY (ko (pv 0) (pR (v:=.ty "tuple") jI T.b_tuple L2.t5 jI))))) (oY (lI ox (nQ T.b_len (pv 0)) jM) (rW (lI ox (ki j9 (pv 0) jM) oG))))) (jQ (j4 qk)) kD) (jK (kY (PW.pt (oY (nB (mY (kf (r8 T) hr (ko (ki j9 (pv 0) jM) (pv 3))))) (oY (nB (mY (kf (qT T) hr (kL (ki j9 (pv 0) jM))))) (oY (lI Dt (ki j9 (pv 0) jM) jM) (rW (lI nS (ki j9 (pv 0) jM) jM)))))) (jQ (j4 qk)) kD) (jK (kZ aJ Z (kG (kf (oj T) hr (kL (pv 3)))) (lX 4 nd) (jQ (kZ aJ Z (mC jI T.b_range (kL (jV ky (pv 3) (pv 4)))) (lX 5 nd) (jQ (kY (lI ox (kP (yC Z) jI T.b_sum L2.G6 (kL (nh [("found",0),("n",3),("hole",5),("p",4)] ["k"] (mC jI T.b_range (kL (pv 4))) (fun C s H fp=>⟨(nT 4),kq,(ki (oC (K:=K) Z) (ki (t8 (K:=K) Z) (pv 0) jM) (jV kJ (jV kM (pv 2) (jV ks (pv 4) (jV ky (pv 1) (pv 3)))) (pv 1)))⟩)))) jM) (jQ (j4 qk)) kD))))) (jK (kZ aJ Z (kG (pv 2)) (lX 6 nd) (jQ (kY (nB (mY (kf (yF T) hr (ko (kf (wc T) hr (ko (pv 6) (ki j9 (pv 0) jM))) (ki j9 (pv 0) jM))))) (jQ (j4 qk)) kD))) (jQ (j4 (GQ (kf (yF T) hr (ko (kf (wc T) hr (ko (pv 1) (ki j9 (pv 0) jM))) (ki j9 (pv 0) jM))))))))))),?_⟩;refine⟨_,Z,r,_,Z,.inl (j6.of ha),?_⟩;rw[aa,la]
 try dsimp only[kW,oh,oi]
 refine⟨_,Z,_,_,_,true,Z,.tup ht,oy _,true,Z,Ae ?_⟩;refine⟨_,Z,t,_,Z,.inr (kQ.of ht),Z,_,Z,mB (by show ¬(!decide (V.int 3=V.int 3))=true;simp) ?_⟩;refine⟨_,Z,t,_,_,_,Z,Z,kQ.of ht,i0,Z,_,Z,yw Z ?_⟩;refine⟨_,Z,t,_,_,_,Z,Z,kQ.of ht,i1,_,Z,wt,W,(by rw[lW];rfl),hw,J,fun H1 lU=>⟨_,Z,mB O ?_⟩⟩;refine⟨_,Z,t,_,_,_,Z,Z,kQ.of (lU _ _ ht),i2,s0,Z,⟨_,Z,mB O ?_⟩⟩;refine⟨_,Z,t,_,_,_,Z,Z,kQ.of (lU _ _ ht),i2,_,_,Z,Z,_,Z,mB (by simpa using s1) ?_⟩;refine⟨_,Z,t,_,_,_,Z,Z,kQ.of (lU _ _ ht),i2,Z,_,Z,mB (fun z=>ne1 (uC z)) ?_⟩;refine⟨_,Z,n,Z,n1,J,fun r1 H2 vh lQ f2 h2 Q8=>⟨r1,Z,⟨_,j6.of h2⟩,?_⟩⟩;have Iz:=Pt.nJ Q8 hp;subst Iz;have nw:=lU.trans lQ;refine mI (xs:=(vh.map Prod.fst).map V.int) (fun i σ H3=>jU H2 H3/\∃(o1 o2 o3:Option V),σ=[some (.ref t),some (.ref r),some (.ref s'),some (.int n),o1,o2,o3]) ⟨jU.refl _,none,none,none,Z⟩ (fun i σ H3 _ z=>z.1.seq (j6.of h2)) ?_ ?_
 .rintro i xv σ H3 hx ⟨k9,o1,o2,o3,rfl⟩;obtain⟨p,rfl,ep⟩:=int_at hx;have pm:p∈vh.map Prod.fst:=ak ep;obtain⟨y,hy,ey⟩:=List.mem_map.mp pm;have pd:p∣(n:Int):=by rw[<-ey];exact((Pt.oB hp y).mp hy).2.1
  have p2:2<=p:=by rw[<-ey];exact(hp.row y hy).pr.1
  have pn:=aU J pd;obtain⟨st,Bv,Ej,Iy,_⟩:=Rg.yS n1 p2 pd;have stn:(st:Int)<=n:=by rw[<-Bv];exact b8 _ J
  refine⟨_,Z,_,Z,_,_,Z,Z,kO J J,st,cQ (fun z=>[V.int z]) Bv,J,J,?_⟩;refine oe (n:=st) (fun j σ H4=>jU H2 H4/\∃(o2 o3:Option V),σ=[some (.ref t),some (.ref r),some (.ref s'),some (.int n),some (.int p),o2,o3]) ⟨k9,_,_,Z⟩ ?_ ?_
  .rintro j σ H4 hj ⟨mi,o2,o3,rfl⟩;have smW:=nw.trans mi;have hW4:=smW _ _ hw;refine⟨_,Z,p.toNat,(by rw[cq J]),J,J,?_⟩;refine FR (lo:=0) (n:=p.toNat) ((List.range p.toNat).map fun (t:Nat)=>Ld.at' W ((j:Int)+(t:Int)*st)) (by rw[aa,gn]) J ?_ ?_
   .intro k H5 hk mL R kk;rw[dF];have bd:(j:Int)+(k:Int)*st<n:=by
     have a1:=av (show (k:Int)<=p-1 by lia) (show 0<=(st:Int) by lia);have a2:(n:Int)=p*st:=by rw[Iy,aP,cq J]
     rw[cU] at a1;lia
    have bd0:0<=(k:Int)*st:=bE J J;have em:((j:Int)+(k:Int)*((n:Int)/p))%n=(j:Int)+(k:Int)*st:=by rw[Bv];exact aR J bd
    refine⟨_,Z,t,_,_,_,Z,Z,kQ.of (mL _ _ (smW _ _ ht)),i1,_,Z,_,Z,_,Z,_,Z,_,_,Z,Z,kO J J,_,_,Z,Z,mJ J J,_,_,Z,Z,_,Z,_,_,Z,Z,(show 0<(n:Int) by lia),?_⟩;dsimp only;rw[em];exact⟨wt,_,_,_,Z,Z,j6.of (mL _ _ hW4),AL J J,kk _ _ (jU.refl _) (by rw[af,dC hk];rfl)⟩
   .intro D H5 mL _ h5;refine⟨D,_,Z,j6.of h5,?_⟩;rw[Pl.GD (fun t=>Ld.at' W ((j:Int)+t*st)),zr p.toNat st (by rw[cq J];exact pm) Ej Iy j J J];exact⟨Z,_,Z,yw Z ⟨mi.trans mL,_,_,Z⟩⟩
  .rintro σ H4 ⟨mi,o2,o3,rfl⟩;exact⟨mi,_,_,_,Z⟩
 rintro σ H3 ⟨k9,o1,o2,o3,rfl⟩;have tJ:=nw.trans k9;refine⟨_,Z,s',Z,⟨_,j6.of (tJ _ _ h1)⟩,mI (K:=K) (xs:=as.map V.ref) (fun i σ H4=>jU H H4/\∃o4:Option V,σ=[some (.ref t),some (.ref r),some (.ref s'),some (.int n),o1,o2,o4]) ⟨tJ,_,Z⟩ (fun i σ H4 _ z=>z.1.seq (j6.of h1)) ?_ ?_⟩
 .rintro i x σ H4 hx ⟨sm,o,rfl⟩;obtain⟨b,row,rfl,hb,lE,hh⟩:=mK pa hx;have rm:=ak lE;have rl:=lb row rm;refine⟨_,Z,_,Z,t,_,_,_,Z,Z,kQ.of (sm _ _ ht),i1,b,wt,row,W,N,M,Z,sm _ _ hh,sm _ _ hw,by rw[rl.1,lW],rl.2,bW,N1,M1,fun H5 mL=>?_⟩;exact⟨_,Z,t,_,_,_,Z,Z,kQ.of (mL _ _ (sm _ _ ht)),i2,Rx.dot row W,s0,Z,s1,fun _=>⟨_,Z,mB O ⟨sm.trans mL,_,Z⟩⟩,fun J3=>absurd (dv row rm) J3⟩
 .rintro σ H4 ⟨sm,o,rfl⟩;refine⟨_,Z,_,Z,t,_,_,_,Z,Z,kQ.of (sm _ _ ht),i1,r,wt,a,W,N,M,Z,sm _ _ ha,sm _ _ hw,by rw[la,lW],bA,bW,N1,M1,fun H5 mL=>?_⟩;exact⟨_,Z,t,_,_,_,Z,Z,kQ.of (mL _ _ (sm _ _ ht)),i2,Rx.dot a W,s0,Z,s1,fun d=>absurd d ndv,fun _=>⟨_,Z,q H5 (sm.trans mL)⟩⟩
inductive Po (vs:List V)(H:Hp)(Q:VK)(E_:XK):Prop
 | mk (n ms:Nat)(c:Int)(_:vs=[.int n,.int c,.int ms])(_:1<=n)(_:n<=60)(_:ms<=10^6)(_:∀t H' (b:List Int),jU H H'->H t=none->H' t=some (.lst (b.map V.int))->b.length=n->(∀x∈b,x.natAbs<=3*ms)->Q (.ref t) H')
theorem y3 (T:Txt K mg CF tL tF tM):Df P w K mg base 1 "_law_block" ["n","cell","most"] Po:=by
 refine kR T.d_law_block zV fun f cdv A outer s H vs Q E hr nd h=>?_;obtain⟨n,ms,c,rfl,n1,n2,mz,q⟩:=h;refine⟨_,(jK (kh 3 nd (jV p9 (lR (kL jM)) (pv 0))) (jK (kZ aJ Z (mC jI T.b_range (kL jM)) (lX 4 nd) (jK (kh 5 nd (jV kJ (jV ks (jV kM (jV kJ (pv 1) (jV qU jM jM)) (pv 4)) (ki kN (lR (jL jM (jL jM (jL jM ke)))) (pv 4))) (ki kN (lR (jL jM (jL jM (jL jM ke)))) (pv 4)))) (jK (kh 5 nd (jV kJ (jV ks (pv 5) (pv 5)) jM)) (jK (kh 6 nd (jV kJ (pv 5) (pv 0))) (jQ (oM (jV mw (jV kM (ki kN (pv 3) (pv 6)) (jV kJ (jV ky (pv 5) jM) (jV kM (jV ks jM (pv 2)) jM))) (pv 2)) (oH (pv 3) (pv 6) set_list))))))) (jQ (j4 (pv 3))))),?_⟩;refine⟨jS,fun lo yK=>⟨_,Z,lo,_,_,Z,Z,jO,J,J,zgW,fun p hp=>?_⟩⟩;rw[rep0];have Fp:jU H (upd (upd H lo (.lst [V.int 0])) p (.lst ((List.replicate n (0:Int)).map V.int))):=jR (jR (jU.refl _) yK) hp;have pn:H p=none:=(jR (jU.refl _) yK).free hp;have hP:upd (upd H lo (.lst [V.int 0])) p (.lst ((List.replicate n (0:Int)).map V.int)) p=some (.lst ((List.replicate n (0:Int)).map V.int)):=jO;generalize upd (upd H lo (.lst [V.int 0])) p (.lst ((List.replicate n (0:Int)).map V.int))=H0 at Fp hP ⊢;refine⟨3,Z,O,O,oe (n:=3) (fun i σ H2=>jU H H2/\∃(ns:List Int)(o1 o2 o3:Option V),σ=[some (.int n),some (.int c),some (.int ms),some (.ref p),o1,o2,o3]/\H2 p=some (.lst (ns.map V.int))/\ns.length=n/\∀x∈ns,x.natAbs<=i*ms) ⟨Fp,_,none,none,none,Z,hP,aV,fun x hx=>by rw[(fH.mp hx).2];exact dJ _⟩ ?_ ?_⟩
 .rintro i σ H2 hi ⟨sm,ns,o1,o2,o3,rfl,hn,ln,bn⟩;obtain⟨u1,e1,a1,a2⟩:∃u:Int,me [V.int 48271,V.int 69621,V.int 16807] (i:Int)=some (.int u)/\0<=u/\u<100000:=by
   have:i=0\/i=1\/i=2:=J;rcases this with z | z | z<;>subst z<;>exact⟨_,rfl,O,O⟩
  obtain⟨u2,e2,b1,b2⟩:∃u:Int,me [V.int 2147483647,V.int 2147483629,V.int 2147483587] (i:Int)=some (.int u)/\0<u/\u<2147483648:=by
   have:i=0\/i=1\/i=2:=J;rcases this with z | z | z<;>subst z<;>exact⟨_,rfl,O,O⟩
  refine⟨_,Z,_,_,Z,Z,⟨O,O,O⟩,_,_,Z,Z,(show (0:Int)<10^(30:Int).toNat by decide),_,Z,_,_,Z,Z,jY,fun l1 Fs=>?_⟩;refine⟨_,Z,l1,_,_,_,Z,Z,j6.of jO,e1,_,_,Z,Z,gN (fi J J),jY,fun l2 Kh=>?_⟩;have lQ:=jR (o:=.lst [V.int 2147483647,V.int 2147483629,V.int 2147483587]) (jR (o:=.lst [V.int 48271,V.int 69621,V.int 16807]) (jU.refl H2) Fs) Kh;refine⟨_,Z,l2,_,_,_,Z,Z,j6.of jO,e2,_,_,Z,Z,b1,?_⟩;generalize upd (upd H2 l1 (.lst [V.int 48271,V.int 69621,V.int 16807])) l2 (.lst [V.int 2147483647,V.int 2147483629,V.int 2147483587])=H3 at lQ ⊢;dsimp only;obtain⟨nu,YV⟩:∃nu:Int,nu=(c%10^(30:Int).toNat+(i:Int))*u1%u2:=⟨_,Z⟩;rw[<-YV];have m1:0<=nu:=by rw[YV];exact aC _ J
  have m2:nu<u2:=by rw[YV];exact az _ b1
  refine⟨_,Z,_,Z,_,_,Z,Z,qB J J,_,_,Z,Z,(show (0:Int)<2147483563 by decide),?_⟩;dsimp only;obtain⟨nv,Ll⟩:∃nv:Int,nv=nu*nu%2147483563:=⟨_,Z⟩;rw[<-Ll];have m3:0<=nv:=by rw[Ll];exact aC _ O
  have m4:nv<2147483563:=by rw[Ll];exact az _ O
  obtain⟨j,hj⟩:∃j:Nat,(j:Int)=nv%(n:Int):=⟨(nv%(n:Int)).toNat,Int.toNat_of_nonneg (Int.emod_nonneg _ J)⟩;have jn:(j:Int)<n:=by rw[hj];exact az _ J
  refine⟨_,Z,_,Z,_,_,Z,Z,(show (0:Int)<n by lia),?_⟩;dsimp only;rw[<-hj];have hn3:=lQ _ _ hn;have cg:me (ns.map V.int) (j:Int)=some (.int (Lt.g ns j)):=lP zgV;refine⟨_,Z,_,Z,p,_,_,_,Z,Z,j6.of hn3,cg,_,Z,_,_,Z,Z,kO O O,_,Z,_,_,Z,Z,mJ O O,_,_,Z,Z,_,_,Z,Z,(show (0:Int)<2*ms+1 by lia),_,_,Z,Z,_,Z,_,_,Z,Z,_,Z,_,Z,p,_,_,_,Z,Z,hn3,oX J zgU,?_⟩;rw[ae,set_int];refine⟨kK (sm.trans lQ) pn,_,_,_,_,Z,jO,by rw[cf,ln],fun x hx=>?_⟩;rw[fQ];rcases List.mem_or_eq_of_mem_set hx with z | z
  .have:=bn x z;lia
  .have c1:=aC (nv/61) (show (2*(ms:Int)+1)≠0 by lia);have c2:=az (nv/61) (show (0:Int)<2*ms+1 by lia);have b:=bn _ (Rx.nH (l:=ns) (i:=j) J);rw[z];lia
 .rintro σ H2 ⟨sm,ns,o1,o2,o3,rfl,hn,ln,bn⟩;exact⟨_,Z,q p H2 ns sm pn hn ln bn⟩
theorem FJ {n:Nat}(hp:Pt.Parts n ps)(n2:2<=n):0<ps.length:=by
 cases ps with
 | nil=>have:=hp.prd;have e:Pt.rC []=1:=Z;rw[e] at this;lia
 | cons a r=>exact g8 _
inductive Mg (vs:List V)(H:Hp)(Q:VK)(E_:XK):Prop
 | mk (n pl:Nat)(c:Int)(ps:List (Int×Int))(_:vs=[.int n,.int c,.int pl])(_:2<=n)(_:n<=60)(_:pl<=100)(_:Pt.Parts n ps)(_:∀t H' (z:Int×Int×Int),jU H H'->H' t=some (.tup [.int z.1,.int z.2.1,.int z.2.2])->z.1∈ps.map Prod.fst->0<=z.2.1->z.2.1<n->z.2.2.natAbs<=10^60->Q (.ref t) H')
theorem BJ (T:Txt K mg CF tL tF tM):Df P w K mg base 2 "_law_row" ["n","cell","place"] Mg:=by
 refine kR T.d_law_row Cm fun f cdv A outer s H vs Q E hr nd h=>?_;obtain⟨n,pl,c,ps,rfl,n1,n2,p1,hp,q⟩:=h;refine⟨_,(jK (kh 3 nd (kf (oj T) hr (kL (pv 0)))) (jK (kh 4 nd (ki kN (pv 3) (jV kJ (jV kM (jV ky (pv 1) jM) (jV ks (pv 2) (pv 2))) (nQ T.b_len (pv 3))))) (jQ (j4 (lL (jL (pv 4) (jL (jV kJ (jV kM (pv 1) (pv 2)) (pv 0)) (jL (jV mw (jV kJ (jV ky (pv 1) jM) (jV kM (jV ks jM (jV qU jM jM)) jM)) (jV qU jM jM)) ke)))))))),?_⟩;refine⟨_,Z,n,Z,J,J,fun r1 H1 vh lU f1 h1 Ek=>?_⟩;have Iz:=Pt.nJ Ek hp;subst Iz;have lp:=FJ hp n1
 try dsimp only[kW,oh,oi]
 obtain⟨j,hj⟩:∃j:Nat,(j:Int)=(c/7+(pl:Int)*(pl:Int))%((((vh.map Prod.fst).map V.int).length:Nat):Int):=⟨((c/7+(pl:Int)*(pl:Int))%((((vh.map Prod.fst).map V.int).length:Nat):Int)).toNat,Int.toNat_of_nonneg (Int.emod_nonneg _ (by rw[List.length_map,List.length_map];lia))⟩;have jl:(j:Int)<((((vh.map Prod.fst).map V.int).length:Nat):Int):=by rw[hj];exact az _ (by rw[aa,aa];lia)
 rw[aa] at jl;have jl':j<(vh.map Prod.fst).length:=J;have cg:me ((vh.map Prod.fst).map V.int) (j:Int)=some (.int (Lt.g (vh.map Prod.fst) j)):=lP (by rw[af,Rx.lD jl'];rfl);rw[hj] at cg;refine⟨_,Z,_,Z,_,_,Z,Z,kO O O,_,Z,_,Z,_,_,Z,Z,mJ J J,_,_,Z,Z,_,Z,r1,_,Z,.inl (j6.of h1),_,_,Z,Z,(by rw[aa,aa];lia),r1,_,_,_,Z,Z,j6.of h1,cg,?_⟩;have h0:=aC (c+(pl:Int)) (show (n:Int)≠0 by lia);have h2:=az (c+(pl:Int)) (show 0<(n:Int) by lia);have S9:(10:Int)^(60:Int).toNat=1000000000000000000000000000000000000000000000000000000000000:=O;have m0:=aC (c/11) (show (2*(10:Int)^(60:Int).toNat+1)≠0 by rw[S9];decide);have m1:=az (c/11) (show (0:Int)<2*(10:Int)^(60:Int).toNat+1 by rw[S9];decide);refine⟨_,Z,_,Z,_,Z,_,_,Z,Z,_,Z,_,_,Z,Z,(show (0:Int)<n by lia),_,Z,_,_,Z,Z,kO O O,_,_,Z,Z,⟨O,O,O⟩,_,_,Z,Z,mJ O O,_,_,Z,Z,_,_,Z,Z,(show (0:Int)<2*(10:Int)^(60:Int).toNat+1 by rw[S9];decide),_,_,Z,Z,⟨O,O,O⟩,_,_,Z,Z,jY,fun t ht=>?_⟩;exact q t _ (Lt.g (vh.map Prod.fst) j,(c+(pl:Int))%n,c/11%(2*(10:Int)^(60:Int).toNat+1)-(10:Int)^(60:Int).toNat) (jR lU ht) jO (Rx.nH jl') h0 h2 (by rw[S9] at m0 m1 ⊢;lia)
theorem lH.push {H:Hp}{D c:Addr}{z:List Int}(hD:H D=some (.lst (as.map V.ref)))(pa:Paired (fun a (x:List Int)=>H a=some (.lst (x.map V.int))) as rows)(hc:H c=some (.lst (z.map V.int)))(ne:∀r∈rows,r≠[])(nz:z≠[]):upd H D (.lst (as.map V.ref++[.ref c])) D=some (.lst ((as++[c]).map V.ref))/\Paired (fun a (x:List Int)=>upd H D (.lst (as.map V.ref++[.ref c])) a=some (.lst (x.map V.int))) (as++[c]) (rows++[z]):=by
 have key:∀{a:Addr}{x:List Int},x≠[]->H a=some (.lst (x.map V.int))->a≠D:=fun {a x} nx ha e=>by
  rw[e,hD] at ha;have e2:as.map V.ref=x.map V.int:=by injection ha with e;injection e
  cases x with
  | nil=>exact nx Z
  | cons y r =>
   cases as with
   | nil=>cases e2
   | cons b r'=>injection e2 with e3;cases e3
 refine⟨by rw[jO,aO];rfl,hE ?_ ((j5 (key nz hc)).trans hc)⟩;generalize HO.lst (as.map V.ref++[V.ref c])=zgS;clear hD hc
 induction pa with
 | nil=>exact .nil
 | cons h _ ih=>exact .cons ((j5 (key (ne _ aq) h)).trans h) (ih fun r hr=>ne r (ar _ hr))
theorem Hr {g:TG}{te:TE}{lh:St}{H:Hp}{Q:VK}{lo:Int}{n:Nat} (Φ:Int×Int×Int->Prop)(hz:n<=20000)
 (hs:∀(i:Nat) H2,i<n->jU H H2->∀R:VK,(∀H4 c (z:Int×Int×Int),jU H2 H4->Φ z->H4 c=some (.tup [.int z.1,.int z.2.1,.int z.2.2])->R (.ref c) H4)->g (.int (lo+i)) lh H2 fun mU H3=>te mU H3 R)
 (hd:∀D H2 zs,jU H H2->H D=none->xL H2 D zs->zs.length=n->(∀z∈zs,Φ z)->Q (.ref D) H2):m8 (B9 lo n) g xT te lh Q H:=by
  refine sS (fun i rs H2=>jU H H2/\∃(as:List Addr)(zs:List (Int×Int×Int)),rs=as.map V.ref/\Paired (fun a (x:Int×Int×Int)=>H2 a=some (.tup [.int x.1,.int x.2.1,.int x.2.2])) as zs/\zs.length=i/\∀z∈zs,Φ z) ⟨jU.refl H,[],[],Z,.nil,Z,fun _ h=>nomatch h⟩
    (fun i rs H2 hi z=>by obtain⟨as,zs,e,pa,l,_⟩:=z.2;rw[e,List.length_map,j7 pa,l];exact mH J) ?_ ?_
  · rintro i rs H2 hi ⟨sm,as,zs,rfl,pa,l,hp⟩
    exact hs i H2 hi sm (fun y H4=>jU H H4/\∃(sH:List Addr)(YW:List (Int×Int×Int)),as.map V.ref++[y]=sH.map V.ref/\Paired (fun a (x:Int×Int×Int)=>H4 a=some (.tup [.int x.1,.int x.2.1,.int x.2.2])) sH YW/\YW.length=i+1/\∀z∈YW,Φ z) fun H4 c z s4 hz hc=>⟨sm.trans s4,as++[c],zs++[z],by rw[aO];rfl,hE (Paired.xU pa fun d x e=>s4 _ _ e) hc,by rw[aI,l];rfl,fun y hy=>by
      rcases List.mem_append.mp hy with h | h
      · exact hp y h
      · rw[bw.mp h];exact hz⟩
  · rintro rs H2 ⟨sm,as,zs,rfl,pa,l,hp⟩ D hD
    exact hd D _ zs (jR sm hD) (sm.free hD) ⟨as,jO,Paired.xU pa fun d x e=>jR (jU.refl _) hD _ _ e⟩ l hp
theorem zx {n:Int}{M:Nat}:∀{rows:List (Int×Int×Int)},(∀t∈rows,t.2.2.natAbs<=M)->∀x,(Rg.xI n rows x).natAbs<=rows.length*M
 | [],_,x=>by simp[Rg.xI]
 | t::r,h,x=>by
  have a:(Rg.rv n t x).natAbs<=M:=by have:=h t aq;unfold Rg.rv;split<;>lia
  have b:=zx (n:=n) (rows:=r) (fun y hy=>h y (ar _ hy)) x;have e:Rg.xI n (t::r) x=Rg.rv n t x+Rg.xI n r x:=by unfold Rg.xI;rw[List.map_cons,List.sum_cons]
  rw[e,bj,fQ];lia
theorem Dp {n B:Nat}{b:List Int}(lb:b.length=n){f:Int->Int}(h:∀x,Ld.at' b x=f x)(hf:∀x,(f x).natAbs<=B):∀x∈b,x.natAbs<=B:=fun x hx=>by
 obtain⟨k,hk,e⟩:=List.getElem_of_mem hx;have e2:Ld.at' b k=x:=Ld.oO (by rw[<-e];exact ax hk);rw[<-e2,h];exact hf k
theorem M0 (T:Txt K mg CF tL tF tM){f:Addr}{fd:FuncData}(F:Dx K "law" "law" G4 f fd):rD P w K mg base D5 14 f fd ["script"] (D6 K):=by
 refine F.ok FU (fun vs H Q E h=>?_) (fun cdv A outer s H vs Q E hr h=>?_)
 .obtain⟨_,_,rfl,_⟩:=h;rfl
 obtain⟨a,ns,rfl,hS,h63,q⟩:=h;have nd:=FU.nd;refine⟨_,(jK (kh 1 nd (jV kM jM (jV kJ (jV ky (kf (kS T) hr (ko (pv 0) jM)) jM) jM))) (zy (kY (lI nS (jV kJ (kf (kS T) hr (ko (pv 0) jM)) jM) jM) (jQ (kh 1 nd (jV kM jM (jV kJ (jV ky (kf (kS T) hr (ko (pv 0) jM)) jM) jM)))) kD) (jK (kh 2 nd (jV kJ (kf (kS T) hr (ko (pv 0) jM)) jM)) (jK (kh 3 nd (ki kN (lR (ko jM (jV qU jM jM))) (jV kJ (jV ky (kf (kS T) hr (ko (pv 0) jM)) jM) jM))) (jK (kh 4 nd jM) (zy (kY (lI nS (jV kJ (kf (kS T) hr (ko (pv 0) jM)) jM) jM) (jQ (kh 4 nd (jV kM jM (jV kJ (jV ky (kf (kS T) hr (ko (pv 0) jM)) jM) (jV qU jM jM))))) kD) (jK (tj 5 [("n",1),("script",0)] ["k"] nd (Ey jI T.b_range (ko jM (kP (yD Z) jI T.b_min L2.Ft (ko (nQ T.b_len (pv 0)) jM)))) (fun C s H fp=>⟨(nT 2),kq,(kf (BJ T) hr (jL (pv 0) (jL (ki (oC (K:=K) Z) (pv 1) (pv 2)) (jL (pv 2) ke))))⟩)) (jK (kh 6 nd (kf (rG T) hr (ko (pv 1) (pv 5)))) (jK (kh 7 nd (lR ke)) (jK (kZ aJ Z (mC jI T.b_range (kL (pv 2))) (lX 8 nd) (jK (kh 9 nd (kf (kS T) hr (ko (pv 0) (jV kM jM (pv 8))))) (jK (tj 10 [("share_v",4)] ["one"] nd (kG (kf (y3 T) hr (jL (pv 1) (jL (pv 9) (jL (pv 3) ke))))) (fun C s H fp=>⟨(nT 1),kq,(jV ks (pv 0) (pv 1))⟩)) (jK (kh 11 nd (jV mw (jV kJ (jV kM (jV ks (jV kJ (pv 9) (jV qU jM jM)) jM) (pv 8)) (jV kM (jV ks jM (jV qU jM jM)) jM)) (jV qU jM jM))) (jK (tj 6 [("often",11)] ["one","other"] nd (m7 jI T.b_zip (ko (pv 6) (pv 10))) (fun C s H fp=>⟨(sJ 1 2),kq,(jV kM (pv 1) (jV ks (pv 0) (pv 2)))⟩)) (jK (kh 12 nd (kf (rG T) hr (ko (pv 1) (lR (kL (lL (jL (ki kN (kf (oj T) hr (kL (pv 1))) jM) (jL (jV kJ (jV ky (pv 9) jM) (pv 1)) (jL (jV mw (jV kJ (jV ky (pv 9) jM) jM) jM) ke))))))))) (jQ (mR (t6 cM cD cF mS (pv 7) (kL (nh [] ["one","other"] (m7 jI T.b_zip (ko (pv 10) (pv 12))) (fun C s H fp=>⟨(sJ 0 1),kq,(jV kM (pv 0) (pv 1))⟩)))))))))))) (zy (kY (lI t7 (pv 4) jM) (jK (kh 13 nd (jV kJ (kf (kS T) hr (ko (pv 0) jM)) (pv 1))) (jK (oM (jV kM (ki kN (pv 6) (pv 13)) (jV ks (pv 4) (jV mw (jV kJ (kf (kS T) hr (ko (pv 0) jM)) jM) jM))) (oH (pv 6) (pv 13) set_list)) (jQ (oM (jV kM (jV kM (ki kN (pv 6) (pv 13)) jM) (jV kJ (jV ky (kf (kS T) hr (ko (pv 0) jM)) jM) (jV mw (pv 4) jM))) (oH (pv 6) (pv 13) set_list))))) kD) (jK (kh 14 nd (kf (CP T) hr (ko (qm nU jI T.b_list L2.pQ (kL (pv 6))) (nh [] ["block"] (kG (pv 7)) (fun C s H fp=>⟨(nT 0),kq,(qm (xK (K:=K) Z) jI T.b_list L2.pQ (kL (pv 0)))⟩))))) (jK (kY (lI t7 (pv 4) jM) (jQ (j4 (kf (Ce T) hr (jL (pv 14) (jL (pv 6) (jL (pv 7) ke)))))) kD) (jQ (j4 (kf (Cv T) hr (jL (pv 14) (jL (pv 6) (jL (pv 7) ke))))))))))))))))))),?_⟩;rw[show start ["script","n","many","most","share_v","rows","load","blocks","k","cell","block","often","circle","at","found"] [V.ref a]=[some (.ref a),none,none,none,none,none,none,none,none,none,none,none,none,none,none] from Z]
 -- n
 refine⟨_,Z,a,ns,0,Z,hS,dY 0,fun v0=>⟨_,_,Z,Z,kO O O,_,_,Z,Z,(show (0:Int)<15 by decide),_,_,Z,Z,?_⟩⟩
 try dsimp only[kW,oh,oi]
 refine⟨fun σ H2=>H=H2/\∃n:Nat,σ=[some (.ref a),some (.int n),none,none,none,none,none,none,none,none,none,none,none,none,none]/\2<=n/\n<=60,?_,?_⟩
 .have r0:=aC (v0/3) (show (15:Int)≠0 by decide);have r1:=az (v0/3) (show (0:Int)<15 by decide);refine⟨_,Z,a,ns,0,Z,hS,dY 0,fun v1=>⟨_,_,Z,Z,(show (0:Int)<3 by decide),Z,_,Z,mZ (fun _=>?_) (fun _=>⟨Z,(2+v0/3%15).toNat,by rw[cq J]<;>rfl,J,J⟩)⟩⟩;refine⟨_,Z,a,ns,0,Z,hS,dY 0,fun v2=>⟨_,_,Z,Z,kO O O,_,_,Z,Z,(show (0:Int)<59 by decide),_,_,Z,Z,?_⟩⟩;have r2:=aC (v2/3) (show (59:Int)≠0 by decide);have r3:=az (v2/3) (show (0:Int)<59 by decide);exact⟨Z,(2+v2/3%59).toNat,by rw[cq J];rfl,J,J⟩
 rintro σ H2 ⟨rfl,n,rfl,n1,n2⟩
 -- many
 refine⟨_,Z,a,ns,1,Z,hS,O,fun v3=>⟨_,_,Z,Z,(show (0:Int)<6 by decide),?_⟩⟩;obtain⟨many,RP,m5⟩:∃many:Nat,v3%6=(many:Int)/\many<=5:=⟨(v3%6).toNat,J,J⟩;dsimp only;rw[RP]
 try dsimp only[kW,oh,oi]
 -- most
 refine⟨_,_,Z,Z,⟨O,O,O⟩,jP,fun ml XS=>?_⟩;have lU:=jR (o:=.lst [V.int 9,V.int (10^6)]) (jU.refl H) XS;have RQ:upd H ml (.lst [V.int 9,V.int (10^6)]) ml=some (.lst [V.int 9,V.int (10^6)]):=jO;have eml:(HO.lst [V.int 9,(fun (i j:Int)=>V.int (i^j.toNat)) 10 6])=.lst [V.int 9,V.int (10^6)]:=Z;rw[eml];generalize upd H ml (.lst [V.int 9,V.int (10^6)])=H1 at lU RQ ⊢;have Kw:=lU.seq hS;refine⟨_,Z,a,ns,1,Z,Kw,O,fun c1=>⟨_,_,Z,Z,kO O O,_,_,Z,Z,(show (0:Int)<2 by decide),?_⟩⟩;obtain⟨ms,hms,bms⟩:∃ms:Nat,me [V.int 9,V.int (10^6)] (c1/6%2)=some (.int ms)/\ms<=10^6:=by
  have r0:=aC (c1/6) (show (2:Int)≠0 by decide);have r1:=az (c1/6) (show (0:Int)<2 by decide);have:c1/6%2=0\/c1/6%2=1:=J;rcases this with z | z<;>rw[z]
  .exact⟨9,Z,O⟩
  .exact⟨10^6,Z,O⟩
 refine⟨ml,_,_,_,Z,Z,j6.of RQ,hms,?_⟩
 try dsimp only[kW,oh,oi]
 -- share
 refine⟨fun σ H2=>H1=H2/\∃sv:Int,σ=[some (.ref a),some (.int n),some (.int many),some (.int ms),some (.int sv),none,none,none,none,none,none,none,none,none,none]/\1<=sv/\sv<=1000001,?_,?_⟩
 .refine⟨_,Z,a,ns,2,Z,Kw,O,fun v5=>⟨_,_,Z,Z,(show (0:Int)<2 by decide),Z,_,Z,mZ (fun _=>?_) (fun _=>⟨Z,1,Z,O,O⟩)⟩⟩;refine⟨_,Z,a,ns,2,Z,Kw,O,fun v6=>⟨_,_,Z,Z,kO O O,_,_,Z,Z,⟨O,O,O⟩,_,_,Z,Z,(show (0:Int)<10^(6:Int).toNat by decide),_,_,Z,Z,?_⟩⟩;have p6:(10:Int)^(6:Int).toNat=1000000:=O;have r0:=aC (v6/2) (show (10:Int)^(6:Int).toNat≠0 by rw[p6];decide);have r1:=az (v6/2) (show (0:Int)<10^(6:Int).toNat by rw[p6];decide);rw[p6] at r0 r1;exact⟨Z,_,Z,by rw[p6];lia,by rw[p6];lia⟩
 rintro σ H2 ⟨rfl,sv,rfl,sv1,sv2⟩;obtain⟨ps,NW⟩:=Pl.FG (n:=(n:Int)) J;have N1:1<=n:=J;obtain⟨l,pO⟩:=Rt.oA.ex N1 NW
 -- rows
 have zfy:((ns.map V.int).length:Int)<=63:=by rw[aa];lia
 obtain⟨mx,hmx,mx1,mx2⟩:∃mx:Int,mx=(if (90:Int)<((ns.map V.int).length:Int) then 90 else ((ns.map V.int).length:Int))/\0<=mx/\mx<=(ns.length:Int):=⟨_,Z,by split<;>lia,by rw[List.length_map];split<;>lia⟩;refine⟨_,Z,a,_,Z,.inl Kw,_,_,Z,10,mx,(by rw[hmx]),⟨J,J,J,J⟩,?_⟩;obtain⟨nn,hnn⟩:∃nn:Nat,nn=(mx-10).toNat:=⟨_,Z⟩;rw[<-hnn];refine Hr (lo:=10) (n:=nn) (fun z=>(z.1∈ps.map Prod.fst/\0<=z.2.1/\z.2.1<n)/\z.2.2.natAbs<=10^60) J ?_ ?_
 .intro i H2 hi lQ R kk;obtain⟨kx,hkx⟩:∃kx:Nat,kx=10+i:=⟨_,Z⟩;have ek:(10:Int)+(i:Int)=(kx:Nat):=J;rw[ek];have cc:me (ns.map V.int) (kx:Int)=some (.int (Lt.g ns kx)):=lP zgV;exact⟨_,Z,_,Z,_,Z,a,_,_,_,Z,Z,lQ.seq Kw,cc,_,Z,n,kx,Lt.g ns kx,ps,Z,n1,n2,J,NW,fun t H3 z k9 h3 z1 z2 z3 z4=>kk H3 t z k9 ⟨⟨z1,z2,z3⟩,z4⟩ h3⟩
 intro ro H2 rows lQ _ Yk lr rok
 try dsimp only[kW,oh,oi]
 -- load
 refine⟨_,Z,_,Z,ro,n,rows,ps,Z,N1,J,Yk,NW,fun x hx=>(rok x hx).1,fun la0 H3 Tc k9 fl0 h3 ll0 bv0=>?_⟩;have R0:∀x,Rt.R n l (Ld.at' Tc) x=0:=fun x=>by
  rw[show Ld.at' Tc=Rg.xI n rows from funext bv0];exact pO.sG (fun t ht=>(rok t ht).1.1) x
 have b0:∀x∈Tc,x.natAbs<=63*10^60:=Dp ll0 bv0 fun x=>bL (zx (fun t ht=>(rok t ht).2) x) (cB _ J);have tJ:=lQ.trans k9;have hS3:=tJ.seq Kw
 try dsimp only[kW,oh,oi]
 -- blocks
 refine⟨dJ _,fun bl Td=>?_⟩;have mi:=jR (o:=.lst []) (jU.refl H3) Td;have RR:upd H3 bl (.lst []) bl=some (.lst []):=jO;have YX:bl≠la0:=fun z=>by rw[z,h3] at Td;cases Td
 generalize upd H3 bl (.lst [])=H4 at mi RR ⊢
 try dsimp only[kW,oh,oi]
 refine⟨_,Z,many,Z,J,J,oe (n:=many) (fun i σ H5=>jU H3 H5/\∃(la:Addr)(as:List Addr)(ld os:List Int)(bs:List (List Int))(o8 o9 NG NH Te:Option V),σ=[some (.ref a),some (.int n),some (.int many),some (.int ms),some (.int sv),some (.ref ro),some (.ref la),some (.ref bl),o8,o9,NG,NH,Te,none,none]/\H5 la=some (.lst (ld.map V.int))/\ld.length=n/\H5 bl=some (.lst (as.map V.ref))/\Paired (fun a (x:List Int)=>H5 a=some (.lst (x.map V.int))) as bs/\(∀x∈as,x≠la)/\bl≠la/\H1 la=none/\bs.length=i/\os.length=i/\(∀x,Rt.R n l (Ld.at' ld) x=Ld.S i fun j=>Lt.g os j.toNat*Rt.R n l (Ld.at' (bs.getD j.toNat [])) x)/\(∀b∈bs,(b.length=n/\∀x∈b,x.natAbs<=4*10^12)/\∀x,sv∣Rt.R n l (Ld.at' b) x)/\∀x∈ld,x.natAbs<=63*10^60+i*(4*10^24)) ⟨mi,la0,[],Tc,[],[],none,none,none,none,none,Z,mi _ _ h3,ll0,RR,.nil,(fun _ h=>nomatch h),YX,lQ.free fl0,Z,Z,R0,(fun _ h=>nomatch h),fun x hx=>by have:=b0 x hx;lia⟩ ?_ ?_⟩
 .rintro i σ H5 hi ⟨mL,la,as,ld,os,bs,o8,o9,NG,NH,Te,rfl,h5,ll,C7,pa,nla,YY,fla,Ko,Tg,ev,bb,YZ⟩;have Th:=mL.seq hS3
  -- cell
  refine⟨_,Z,_,Z,_,_,Z,Z,a,ns,5+(i:Int),Z,Th,J,fun cv=>?_⟩
  try dsimp only[kW,oh,oi]
  -- block
  refine⟨_,Z,_,Z,_,Z,n,ms,cv,Z,N1,n2,bms,fun bk H6 uf sx _ h6 Ti bb6=>⟨bk,Z,⟨_,j6.of h6⟩,?_⟩⟩;have KC:(Ld.scaled uf sv).length=n:=by unfold Ld.scaled;rw[List.length_map];exact Ti
  refine lJ (K:=K) (xs:=uf.map V.int) (Ld.scaled uf sv) (by rw[KC,aa,Ti]) (by rw[aa,Ti];lia) (j6.of h6) ?_ ?_
  .intro j y H7 hy uu R kk;obtain⟨u,rfl,hu⟩:=int_at hy;exact⟨_,Z,_,Z,_,_,Z,Z,qB J J,kk _ _ (jU.refl _) (by unfold Ld.scaled;rw[List.getElem?_map,hu];exact congrArg some (Int.mul_comm ..))⟩
  intro bq H7 uu _ h7
  try dsimp only[kW,oh,oi]
  have bq7:∀x∈Ld.scaled uf sv,x.natAbs<=3*10^12+3*10^6:=fun x hx=>by
   unfold Ld.scaled at hx;obtain⟨y,hy,rfl⟩:=List.mem_map.mp hx;show (y*sv).natAbs<=_
   rw[aM];have:=cL (bL (bb6 y hy) (show 3*ms<=3*10^6 by lia)) (show sv.natAbs<=1000001 by lia);lia
  -- zbk
  have Tj:(10:Int)^(12:Int).toNat=1000000000000:=O;refine⟨_,Z,_,_,Z,Z,⟨O,O,O⟩,_,_,Z,Z,(show (0:Int)<10^(30:Int).toNat by decide),_,_,Z,Z,gN (fi O O),_,Z,_,_,Z,Z,_,_,Z,Z,⟨O,O,O⟩,_,_,Z,Z,mJ O O,_,_,Z,Z,_,_,Z,Z,(show (0:Int)<2*10^(12:Int).toNat+1 by rw[Tj];decide),_,_,Z,Z,⟨O,O,O⟩,_,_,Z,Z,?_⟩;dsimp only;obtain⟨vV,NX⟩:∃vV:Int,vV=(cv%10^(30:Int).toNat*48271+(i:Int))%(2*10^(12:Int).toNat+1)-10^(12:Int).toNat:=⟨_,Z⟩;rw[<-NX];have bo:-1000000000000<=vV/\vV<=1000000000000:=by
   have r0:=aC (cv%10^(30:Int).toNat*48271+(i:Int)) (show (2*(10:Int)^(12:Int).toNat+1)≠0 by rw[Tj];decide);have r1:=az (cv%10^(30:Int).toNat*48271+(i:Int)) (show (0:Int)<2*(10:Int)^(12:Int).toNat+1 by rw[Tj];decide);rw[NX];generalize (cv%10^(30:Int).toNat*48271+(i:Int))%(2*(10:Int)^(12:Int).toNat+1)=zz at r0 r1 ⊢;rw[Tj] at r1 ⊢;lia
  clear NX
  try dsimp only[kW,oh,oi]
  -- load
  have Ak:=sx.trans uu;have h57:=Ak _ _ h5;refine⟨_,Z,_,Z,la,bq,Z,⟨_,j6.of h57⟩,⟨_,j6.of h7⟩,?_⟩;have Y0:(Ld.scaled (Ld.scaled uf sv) vV).length=n:=by unfold Ld.scaled;rw[List.length_map,List.length_map];exact Ti
  have lz:(Ld.plus ld (Ld.scaled (Ld.scaled uf sv) vV)).length=n:=by rw[Ld.n6 (by rw[ll,Y0])];exact ll
  refine n5 (K:=K) (xs:=ld.map V.int) (ys:=(Ld.scaled uf sv).map V.int) (Ld.plus ld (Ld.scaled (Ld.scaled uf sv) vV)) (by rw[aa,aa,ll,KC]) (by rw[lz,aa,ll]) zgU (j6.of h57) (j6.of h7) ?_ ?_
  .intro j u v H8 pp hu hv vE xz R kk;obtain⟨u',rfl,eu⟩:=int_at hu;obtain⟨v',rfl,Fo⟩:=int_at hv;refine⟨pp,_,Z,kQ.of jO,Z,_,_,Z,_,_,Z,Z,?_⟩;refine⟨_,Z,_,Z,_,Z,_,_,Z,Z,qB J J,_,_,Z,Z,kk _ _ (jR (jU.refl _) xz) ?_⟩;unfold Ld.plus;rw[bU,eu];unfold Ld.scaled at Fo ⊢;rw[af,Fo];exact cQ some (show u'+v'*vV=u'+vV*v' by rw[aB v' vV])
  intro lb H8 vE flb h8
  try dsimp only[kW,oh,oi]
  have Y1:=Ak.trans vE
  -- Y2
  refine⟨_,Z,_,Z,n,Z,N1,J,fun r1 H9 vh vU _ h9 hp9=>?_⟩;have Iz:=Pt.nJ hp9 NW;subst Iz;have lp:=FJ NW n1;have c0:me ((vh.map Prod.fst).map V.int) 0=some (.int (Lt.g (vh.map Prod.fst) 0)):=lP (j:=0) (by rw[af,Rx.lD (by rw[aa];exact lp)];rfl);have q0:=aC (cv/5) (show (n:Int)≠0 by lia);have q1:=az (cv/5) (show 0<(n:Int) by lia);have q2:=aC (cv/13) (show (7:Int)≠0 by decide);have q3:=az (cv/13) (show (0:Int)<7 by decide);refine⟨r1,_,_,_,Z,Z,j6.of h9,c0,_,Z,_,_,Z,Z,kO O O,_,Z,_,_,Z,Z,(show (0:Int)<n by lia),_,Z,_,_,Z,Z,kO O O,_,_,Z,Z,(show (0:Int)<7 by decide),_,_,Z,Z,jY,fun t ht=>⟨jS,fun li hli=>?_⟩⟩;obtain⟨z,hz⟩:∃z:Int×Int×Int,z=(Lt.g (vh.map Prod.fst) 0,cv/5%n,cv/13%7-3):=⟨_,Z⟩;have NS:=jR (o:=.tup [V.int (Lt.g (vh.map Prod.fst) 0),V.int (cv/5%n),V.int (cv/13%7-3)]) (jU.refl H9) ht;have sml:=jR (o:=.lst [V.ref t]) NS hli;have zm:∀x∈[z],x.1∈vh.map Prod.fst/\0<=x.2.1/\x.2.1<n:=fun x hx=>by
   rw[bw.mp hx,hz];exact⟨Rx.nH (by rw[aa];exact lp),q0,q1⟩
  refine⟨li,n,[z],vh,Z,N1,J,⟨[t],jO,.cons (by rw[hz];exact jR (jU.refl _) hli _ _ jO) .nil⟩,NW,zm,fun ci Aj cl xC _ Q4 OB bvc=>?_⟩;have El:=(vU.trans sml).trans xC;have LA:=Y1.trans El
  try dsimp only[kW,oh,oi]
  have bcl:∀x∈cl,x.natAbs<=3:=Dp OB bvc fun x=>bL (zx (M:=3) (fun t ht=>by rw[bw.mp ht,hz];show (cv/13%7-3).natAbs<=3;lia) x) (aH 3);have Rc:∀x,Rt.R n l (Ld.at' cl) x=0:=fun x=>by
   rw[show Ld.at' cl=Rg.xI n [z] from funext bvc];exact pO.sG (fun t ht=>(zm t ht).1) x
  -- append
  have RS:=LA _ _ C7;have RT:=(vE.trans El) _ _ h7;refine⟨_,Z,.inl ⟨Z,_,j6.of RS⟩,_,Z,_,Z,bq,ci,Z,⟨_,j6.of RT⟩,⟨_,j6.of Q4⟩,?_⟩;have RU:(Ld.plus (Ld.scaled uf sv) cl).length=n:=by rw[Ld.n6 (by rw[KC,OB])];exact KC
  refine n5 (K:=K) (xs:=(Ld.scaled uf sv).map V.int) (ys:=cl.map V.int) (Ld.plus (Ld.scaled uf sv) cl) (by rw[aa,aa,KC,OB]) (by rw[RU,aa,KC]) zgU (j6.of RT) (j6.of Q4) ?_ ?_
  .intro j u v Lk pp hu hv vF xz R kk;obtain⟨u',rfl,eu⟩:=int_at hu;obtain⟨v',rfl,Fo⟩:=int_at hv;refine⟨pp,_,Z,kQ.of jO,Z,_,_,Z,_,_,Z,Z,?_⟩;refine⟨_,Z,_,Z,_,_,Z,Z,kk _ _ (jR (jU.refl _) xz) ?_⟩;unfold Ld.plus;rw[bU,eu,Fo]
  intro nb Lk vF fnb RV;have sm511:=LA.trans vF;have LB:=sm511 _ _ C7;have Y3:=(El.trans vF) _ _ h8;have Y4:=Paired.xU pa fun d x e=>sm511 _ _ e;have asl:=j7 pa;refine⟨bl,_,_,Z,Z,LB,by rw[aa];exact mH J,?_⟩;have nl8:bl≠lb:=fun z=>by rw[z] at C7;rw[Ak _ _ C7] at flb;cases flb
  have QV:=lH.push LB Y4 RV (fun r hr z=>by have:=(bb r hr).1.1;rw[z] at this;have:(0:Nat)=n:=this;lia) (fun z=>by rw[z] at RU;have:(0:Nat)=n:=RU;lia);obtain⟨ha',Ow⟩:=QV;refine⟨kK (mL.trans sm511) Td,lb,as++[nb],Ld.plus ld (Ld.scaled (Ld.scaled uf sv) vV),os++[vV],bs++[Ld.plus (Ld.scaled uf sv) cl],_,_,_,_,_,Z,(j5 (dj nl8)).trans Y3,lz,ha',Ow,?_,nl8,((tJ.trans mL).trans Ak).free flb,by rw[aI,Ko];rfl,by rw[aI,Tg];rfl,fun x=>?_,fun b hb=>?_,fun x hx=>?_⟩
  .intro x hx;rcases List.mem_append.mp hx with z | z
   .obtain⟨k,hk,e⟩:=List.getElem_of_mem z;obtain⟨y,_,hy⟩:=kU pa (show as[k]?=some x by rw[<-e];exact List.getElem?_eq_getElem hk);intro e';rw[e'] at hy;rw[Ak _ _ hy] at flb;cases flb
   .rw[bw.mp z];intro e';rw[e',(El _ _ h8)] at fnb;cases fnb
  .have e1:Ld.at' (Ld.plus ld (Ld.scaled (Ld.scaled uf sv) vV))=fun x=>Ld.at' ld x+Ld.at' (Ld.scaled uf sv) x*vV:=funext fun y=>by
    rw[Ld.oS (by rw[ll,Y0]) J,Ld.qD J]
   have e2:Ld.at' (Ld.plus (Ld.scaled uf sv) cl)=fun x=>Ld.at' (Ld.scaled uf sv) x+Ld.at' cl x:=funext fun y=>Ld.oS (by rw[KC,OB]) J y;rw[e1,Rt.sP,Rt.C8,ev x];show _=(Ld.S i fun j=>Lt.g (os++[vV]) j.toNat*Rt.R n l (Ld.at' ((bs++[Ld.plus (Ld.scaled uf sv) cl]).getD j.toNat [])) x)+Lt.g (os++[vV]) (i:Int).toNat*Rt.R n l (Ld.at' ((bs++[Ld.plus (Ld.scaled uf sv) cl]).getD (i:Int).toNat [])) x
   rw[ae,Rx.lB (l:=os++[vV]) (i:=i) (v:=vV) (by rw[cK J,Tg,gE];rfl),ah,cK J,Ko,gE];show _=_+vV*Rt.R n l (Ld.at' (Ld.plus (Ld.scaled uf sv) cl)) x
   rw[e2,Rt.sP,Rc,cW,aB vV];congr 1;refine Ld.jT fun j hj=>?_;rw[ae,ah,ah,cO J];congr 1;unfold Lt.g;rw[ah,ah,cO J]
  .rcases List.mem_append.mp hb with z | z
   .exact bb b z
   .rw[bw.mp z];refine⟨⟨RU,Dp RU (Ld.oS (by rw[KC,OB]) J) fun x=>?_⟩,fun x=>?_⟩
    .have:=Ld.A5 (B:=3*10^12+3*10^6) bq7 x;have:=Ld.A5 (B:=3) bcl x;lia
    .rw[show Ld.at' (Ld.plus (Ld.scaled uf sv) cl)=fun x=>Ld.at' (Ld.scaled uf sv) x+Ld.at' cl x from funext fun y=>Ld.oS (by rw[KC,OB]) J y,Rt.sP,Rc,cW,show Ld.at' (Ld.scaled uf sv)=fun x=>Ld.at' uf x*sv from funext fun y=>Ld.qD J _ y,Rt.C8];exact fq ..
  .refine Dp lz (f:=fun x=>Ld.at' ld x+Ld.at' (Ld.scaled uf sv) x*vV) (fun y=>by rw[Ld.oS (by rw[ll,Y0]) J,Ld.qD J]) (fun x=>?_) x hx;have c1:=Ld.A5 (B:=63*10^60+i*(4*10^24)) YZ x;have c2:=cL (Ld.A5 (B:=3*10^12+3*10^6) bq7 x) (show vV.natAbs<=10^12 by lia);have c3:(Ld.at' (Ld.scaled uf sv) x*vV).natAbs<=4*10^24:=by rw[aM];exact bL c2 O
   have c4:=Int.natAbs_add_le (Ld.at' ld x) (Ld.at' (Ld.scaled uf sv) x*vV);rw[fQ];lia
 rintro σ H5 ⟨mL,la,as,ld,os,bs,o8,o9,NG,NH,Te,rfl,h5,ll,C7,pa,nla,YY,fla,Ko,Tg,ev,bb,YZ⟩;have Th:=mL.seq hS3;have NY:∀x∈ld,x.natAbs<=63*10^60+10^26:=fun x hx=>bL (YZ x hx) (by have:=cB (4*10^24) m5;lia);refine⟨fun σ H6=>∃(le:List Int)(o13:Option V),σ=[some (.ref a),some (.int n),some (.int many),some (.int ms),some (.int sv),some (.ref ro),some (.ref la),some (.ref bl),o8,o9,NG,NH,Te,o13,none]/\H6 la=some (.lst (le.map V.int))/\le.length=n/\lH H6 bl bs/\(∀x∈le,x.natAbs<=64*10^60)/\((sv<=1/\le=ld)\/(1<sv/\∃(Ai:Nat)(d:Int),Ai<n/\¬sv∣d/\∀x,Ld.at' le x=Ld.at' ld x+(if x%n=(Ai:Int) then d else 0))),?_,?_⟩
 .refine⟨_,Z,_,_,Z,Z,_,Z,mZ (fun c=>?_) (fun c=>⟨ld,none,Z,h5,ll,⟨as,C7,pa⟩,fun x hx=>by have:=NY x hx;lia,.inl ⟨by have:=xk c;lia,Z⟩⟩)⟩;have sg:1<sv:=dec c;refine⟨_,Z,a,ns,3,Z,Th,O,fun v7=>⟨_,Z,_,_,Z,Z,(show (0:Int)<n by lia),?_⟩⟩;dsimp only;obtain⟨j,hj⟩:∃j:Nat,(j:Int)=v7%(n:Int):=⟨(v7%(n:Int)).toNat,Int.toNat_of_nonneg (Int.emod_nonneg _ J)⟩;have jn:(j:Int)<n:=by rw[hj];exact az _ J
  rw[<-hj]
  try dsimp only[kW,oh,oi]
  have cg:me (ld.map V.int) (j:Int)=some (.int (Lt.g ld j)):=lP zgV;refine⟨_,Z,_,Z,la,_,_,_,Z,Z,j6.of h5,cg,_,Z,_,Z,a,ns,4,Z,Th,O,fun v8=>⟨_,_,Z,Z,(show (0:Int)<1001 by decide),_,_,Z,Z,_,_,Z,Z,qB J J,_,_,Z,Z,_,Z,_,Z,la,_,_,_,Z,Z,h5,oX J zgU,?_⟩⟩;rw[ae,set_int];obtain⟨A,hA⟩:∃A:Int,A=Lt.g ld j+sv*(v8%1001-500):=⟨_,Z⟩;have y0:=aC v8 (show (1001:Int)≠0 by decide);have y1:=az v8 (show (0:Int)<1001 by decide);rw[<-hA];have Ei:jU H1 (upd H5 la (.lst ((ld.set j A).map V.int))):=kK (tJ.trans mL) fla;have hS6:=Ei.seq Kw;have cg2:me ((ld.set j A).map V.int) (j:Int)=some (.int A):=lP (by rw[af,eJ J];rfl);refine⟨_,Z,_,Z,la,_,_,_,Z,Z,j6.of jO,cg2,_,_,Z,Z,_,Z,a,ns,4,Z,hS6,O,fun v9=>⟨_,_,Z,Z,kO O O,_,Z,_,_,Z,Z,_,_,Z,Z,(show (0:Int)<sv-1 by lia),_,_,Z,Z,_,Z,_,Z,la,_,_,_,Z,Z,jO,oX J (by rw[aa,cf];lia),?_⟩⟩;rw[ae,set_int,List.set_set];obtain⟨w0,Y5⟩:∃w0:Int,w0=v9/1001%(sv-1):=⟨_,Z⟩;have w1:0<=w0:=by rw[Y5];exact aC _ J
  have w2:w0<sv-1:=by rw[Y5];exact az _ J
  rw[<-Y5];have ys:(sv*(v8%1001-500)).natAbs<=1000001*500:=by rw[aM];exact cL J J
  refine⟨ld.set j (A+1+w0),_,Z,jO,by rw[cf,ll],⟨as,?_,?_⟩,fun x hx=>?_,.inr ⟨sg,j,sv*(v8%1001-500)+1+w0,J,fun dv=>?_,fun x=>?_⟩⟩
  .rw[j5 YY,j5 YY];exact C7
  .have key:∀{sH:List Addr}{Y6:List (List Int)},(∀x∈sH,x≠la)->Paired (fun a (x:List Int)=>H5 a=some (.lst (x.map V.int))) sH Y6->Paired (fun a (x:List Int)=>upd (upd H5 la (.lst ((ld.set j A).map V.int))) la (.lst ((ld.set j (A+1+w0)).map V.int)) a=some (.lst (x.map V.int))) sH Y6:=fun {sH Y6} ne pp=>by
    induction pp with
    | nil=>exact .nil
    | cons h _ ih=>exact .cons (by rw[j5 (ne _ aq),j5 (ne _ aq)];exact h) (ih fun x hx=>ne x (ar _ hx))
   exact key nla pa
  .rcases List.mem_or_eq_of_mem_set hx with z | z
   .have:=NY x z;lia
   .have:=NY _ (Rx.nH (l:=ld) (i:=j) J);rw[z,hA];lia
  .have e:sv∣1+w0:=(jj (cV sv (v8%1001-500))).mp (by rw[<-iD];exact dv);have:=aU J e;lia
  .have eg:Ld.at' ld (j:Int)=Lt.g ld j:=Ld.oO (Rx.lD J);have Bu:=Ld.om ll;have ej:=Ld.vW ll J (j:Int) (A+1+w0) x;rw[aR J jn,ae] at ej;rw[ej]
   by_cases c:x%n=(j:Int)
   .rw[aD c,aD c,<-Bu.md x,c,eg,hA];lia
   .rw[ao c,ao c,cW]
 rintro σ H6 ⟨le,o13,rfl,h6,NB,NZ,ble,rel⟩;have Tk:∀b∈bs,b.length=n:=fun b hb=>(bb b hb).1.1;obtain⟨as6,h16,Sz⟩:=id NZ;have lp6:=j7 Sz
 -- counter
 refine⟨_,Z,la,_,Z,.inl (j6.of h6),fun ai hai=>?_⟩;have uu:=jR (o:=.lst (le.map V.int)) (jU.refl H6) hai;have RW:upd H6 ai (.lst (le.map V.int)) ai=some (.lst (le.map V.int)):=jO;generalize upd H6 ai (.lst (le.map V.int))=H7 at uu RW ⊢;refine⟨_,Z,bl,Z,⟨_,j6.of (uu _ _ h16)⟩,?_⟩;refine qy (K:=K) (xs:=as6.map V.ref) bs (by rw[aa,lp6]) zgU (j6.of (uu _ _ h16)) ?_ ?_
 .intro i x H9 hx vU R kk;obtain⟨b,row,rfl,hb,lE,hh⟩:=mK Sz hx;exact⟨_,Z,b,_,Z,.inl (j6.of (vU _ _ (uu _ _ hh))),fun l hl=>kk _ l row (jR (jU.refl _) hl) lE jO⟩
 intro hd H8 vE _ hhd;have RX:=uu.trans vE;have kln:=Rt.ue n l;have rc:Rco bs.length (Rt.nK n l).length (2^51) (2^216):=L7 O O Ct.Vo O fun k _ _=>by lia
 have lwN:∀y∈bs,y.length=n/\Bd 400 y:=fun y hy=>⟨Tk y hy,fun z hz=>b3 ((bb y hy).1.2 z hz) O⟩;have leN:Bd 400 le:=fun z hz=>b3 (ble z hz) O;refine⟨ai,hd,le,bs,n,2^51,2^216,ps,l,Z,vE _ _ RW,hhd,NB,Tk,N1,n2,J,pO,rc,fun b hb z hz=>bL (Ct.KW pO J (bb b hb).1.2 z hz) O,fun z hz=>bL (Ct.KW pO J ble z hz) O,fun t ct Lk cs vF RV Y7 lc bc sh=>?_,fun t wt Lk AW W s0 vF RV Y7 lA s1 bA lW Fo sh=>?_⟩
 .try dsimp only[kW,oh,oi]
  rcases rel with ⟨s1,el⟩ | ⟨s1,Ai,d,ha,J3,evl⟩
  .refine⟨_,Z,_,_,Z,Z,_,Z,mB (by simpa using s1) ?_⟩;have ux:=RX.trans vF;exact⟨_,Z,_,Z,_,Z,t,la,bl,le,bs,n,400,ps,l,Z,ux _ _ h6,NZ.same ux,NB,lwN,N1,n2,J,O,pO,.inl ⟨ct,cs,RV,Y7,lc,bc,Ct.way pO N1 NB Tk sh,fun Yo _=>q Yo⟩⟩
  .refine(Ct.Nj pO N1 ll NB ha evl (fun x=>?_) (fun b hb=>(bb b hb).2) J3 sh).elim;rw[ev x];exact Ct.Mo fun j hj=>ay ((bb _ (by rw[ae];exact Rx.k5 J)).2 x)
 .try dsimp only[kW,oh,oi]
  rcases rel with ⟨s1',el⟩ | ⟨s1',Ai,d,ha,J3,evl⟩
  .subst el;exact(Ct.Nl (by rw[Tg,Ko]) (by rw[Ko];exact ev) lW sh).elim
  .have br:=Ct.bar pO NB Tk lW sh lA Fo;have ux:=RX.trans vF;refine⟨_,Z,_,_,Z,Z,_,Z,qx (by simpa using s1') ?_⟩;refine⟨_,Z,_,Z,_,Z,t,la,bl,wt,le,AW,bs,s0,n,400,9007,ps,Z,ux _ _ h6,NZ.same ux,NB,leN,lwN,N1,n2,O,O,NW,RV,Y7,lA,s1,bA,fun p' st pm Ej en Oj z0 z1=>?_,br.1,br.2,fun Ov _=>q Ov⟩;rw[<-Ct.Jp pO (W:=W) pm Ej en z0 z1];refine Ld.jT fun t' Sm=>?_;have pos:0<=(t':Int)*st:=bE J J;have bd:Oj+(t':Int)*st<n:=by
    have a1:=av (show (t':Int)<=p'-1 by lia) (show 0<=(st:Int) by lia);have a2:(n:Int)=p'*st:=by rw[en,aP]
    rw[cU] at a1;lia
   have:=Fo (Oj+(t':Int)*st).toNat J;rwa [cq J] at this
end
theorem all_mk {w:World}{K:PySem.W.Frag}{h:Heap}{mg:Str->Option Value}{fa:Addr}(X:K.In h)(G:h.Ns mainGlobals mg)(hfa:mg "law"=some (.ref fa))
 (a0:Fa K "divisor" uX)
 (a1:Fa K "joint" yT)
 (a2:Fa K "euclid" wK)
 (a3:Fa K "turned_on" sf)
 (a4:Fa K "next_turn" rK)
 (a5:Fa K "sure_turn" rO)
 (a6:Fa K "hung" BS)
 (a7:Fa K "plus" CO)
 (a8:Fa K "check_fit" sk)
 (a9:Fa K "scaled" wx)
 (L8:Fa K "parts" zI)
 (MH:Fa K "prime_power" p8)
 (Mc:Fa K "back" BC)
 (LS:Fa K "lay_ring" tx)
 (LP:Fa K "ring_holes" qS)
 (MK:Fa K "share" zX)
 (OW:Fa K "is_kept" u8)
 (OK:Fa K "first_dropped" oJ)
 (OU:Fa K "kept" Cj)
 (UM:Fa K "rest" CD)
 (Wn:Fa K "dropped" uM)
 (Uk:Fa K "weighed" vd)
 (UP:Fa K "weighing" s9)
 (WH:Fa K "part_weighing" oN)
 (TN:Fa K "paper" yQ)
 (Xa:Fa K "picked" wV)
 (VD:Fa K "spread" wR)
 (Uj:Fa K "flipped" u9)
 (WM:Fa K "column_of" si)
 (Ve:Fa K "corners" uL)
 (Wk:Fa K "cleared" uF)
 (Ut:Fa K "first_filled" pF)
 (Ur:Fa K "lessened" sU)
 (Ub:Fa K "taken_times" pX)
 (WO:Fa K "undone_rows" p4)
 (VF:Fa K "solved" vZ)
 (U6:Fa K "is_solution" qh)
 (V0:Fa K "fractions" rZ)
 (UJ:Fa K "least_bottom" pB)
 (U1:Fa K "centred" uA)
 (Wx:Fa K "reach" y7)
 (V2:Fa K "next_prime" qX)
 (T8:Fa K "is_shown" tE)
 (T2:Fa K "summed" wY)
 (VS:Fa K "first_unbarred" og)
 (UF:Fa K "divides" uz)
 (T3:Fa K "sought" wZ)
 (Vd:Fa K "sought_within" oF)
 (U4:Fa K "sought_with" qg)
 (WC:Fa K "whole_counts" pA)
 (TH:Fa K "leads_of" sV)
 (Vb:Fa K "entered" uD)
 (UC:Fa K "mixed" zS)
 (Vn:Fa K "barring" uN)
 (W8:Fa K "inner_bar" se)
 (V8:Fa K "counter" uW)
 (U0:Fa K "kept_rest" rR)
 (VP:Fa K "all_weighings" oI)
 (To:Fa K "_law_cell_at" pU)
 (Wi:Fa K "_law_whole" rV)
 (VI:Fa K "_law_numbers" qa)
 (WY:Fa K "_law_sum" uJ)
 (Xc:Fa K "_law_by" wE)
 (WI:Fa K "_law_primes" qJ)
 (UA:Fa K "_law_laid" tq)
 (UK:Fa K "_law_rows_of" p5)
 (U5:Fa K "_law_even" sX)
 (Wr:Fa K "_law_way" uE)
 (VQ:Fa K "_law_bar" vf)
 (T9:Fa K "_law_block" r6)
 (Vm:Fa K "_law_row" uV)
 (WP:Fa K "law" G4)
 (z0:PySem.W.nsIn K mainGlobals "len"=some none:=by kernel_rfl)
 (z1:PySem.W.nsIn K mainGlobals "isinstance"=some none:=by kernel_rfl)
 (z2:PySem.W.nsIn K mainGlobals "int"=some none:=by kernel_rfl)
 (z3:PySem.W.nsIn K mainGlobals "bool"=some none:=by kernel_rfl)
 (z4:PySem.W.nsIn K mainGlobals "list"=some none:=by kernel_rfl)
 (z5:PySem.W.nsIn K mainGlobals "tuple"=some none:=by kernel_rfl)
 (z6:PySem.W.nsIn K mainGlobals "range"=some none:=by kernel_rfl)
 (z7:PySem.W.nsIn K mainGlobals "min"=some none:=by kernel_rfl)
 (z8:PySem.W.nsIn K mainGlobals "max"=some none:=by kernel_rfl)
 (z9:PySem.W.nsIn K mainGlobals "abs"=some none:=by kernel_rfl)
 (z10:PySem.W.nsIn K mainGlobals "zip"=some none:=by kernel_rfl)
 (z11:PySem.W.nsIn K mainGlobals "all"=some none:=by kernel_rfl)
 (z12:PySem.W.nsIn K mainGlobals "enumerate"=some none:=by kernel_rfl)
 (z13:PySem.W.nsIn K mainGlobals "sum"=some none:=by kernel_rfl)
 {tL:Tok}(Al:PySem.W.nsIn K mainGlobals "LEAD_BITS"=some (some (.int 128 tL)):=by kernel_rfl)
 {tF:Tok}(xF:PySem.W.nsIn K mainGlobals "FIRST_PRIME"=some (some (.int 1000000007 tF)):=by kernel_rfl)
 {tM:Tok}(qH:PySem.W.nsIn K mainGlobals "MOST_HOLES_COUNTERED"=some (some (.int 60 tM)):=by kernel_rfl)
 {CF:Addr}(Bq:PySem.W.nsIn K mainGlobals "Frame"=some (some (.ref CF)):=by kernel_rfl)
 (aM0:Fm K CF "__init__" "Frame.__init__" qV)
 (aM1:Fm K CF "missed" "Frame.missed" pE)
 (aM2:Fm K CF "counts" "Frame.counts" o6)
 (aM3:Fm K CF "weights" "Frame.weights" oE)
 (IA:PySem.W.plainGet K CF Str.empty=true:=by kernel_rfl)(IB:PySem.W.hasDictIn K CF=true:=by kernel_rfl)(IC:PySem.W.plainOver K CF=true:=by kernel_rfl)(ID:PySem.W.findIn K (.ref CF) "__setattr__"=some (some (.builtin "object.__setattr__")):=by kernel_rfl)(IE:PySem.W.makesIn K CF=true:=by kernel_rfl)(IF:PySem.W.keepIn K (.ref CF)=true:=by kernel_rfl)
 (na_size:PySem.W.findIn K (.ref CF) "size"=some none:=by kernel_rfl)
 (na_prime:PySem.W.findIn K (.ref CF) "prime"=some none:=by kernel_rfl)
 (na_found:PySem.W.findIn K (.ref CF) "found"=some none:=by kernel_rfl)
 (na_chosen:PySem.W.findIn K (.ref CF) "chosen"=some none:=by kernel_rfl)
 (na_columns:PySem.W.findIn K (.ref CF) "columns"=some none:=by kernel_rfl)
 (na_rows:PySem.W.findIn K (.ref CF) "rows"=some none:=by kernel_rfl)
 (na_modulus:PySem.W.findIn K (.ref CF) "modulus"=some none:=by kernel_rfl)
 (na_undoing:PySem.W.findIn K (.ref CF) "undoing"=some none:=by kernel_rfl)
 : ∃fd:FuncData,(∀(s:Shared)(v:Value),BindsTo s fd ⟨[v],[]⟩ [("script",v)])/\∀base:Heap,K.In base->base.Ns mainGlobals mg->rD l.prog w K mg base D5 14 fa fd ["script"] (D6 K):=by
  have T:Txt K mg CF tL tF tM:=⟨fE X G Al,fE X G xF,fE X G qH,fE X G Bq,a0.dn X G (rF Z fun _ _ _ _ _ _ _ _=>Z),a1.dn X G (rF Z fun _ _ _ _ _ _ _ _=>Z),a2.dn X G (w6 Z fun _ _ _ _ _ _ _ _ _=>Z),a3.dn X G (rF Z fun _ _ _ _ _ _ _ _=>Z),a4.dn X G (rF Z fun _ _ _ _ _ _ _ _=>Z),a5.dn X G (rF Z fun _ _ _ _ _ _ _ _=>Z),a6.dn X G (w6 Z fun _ _ _ _ _ _ _ _ _=>Z),a7.dn X G (rF Z fun _ _ _ _ _ _ _ _=>Z),a8.dn X G (rF Z fun _ _ _ _ _ _ _ _=>Z),a9.dn X G (rF Z fun _ _ _ _ _ _ _ _=>Z),L8.dn X G (Hz Z fun _ _ _ _ _ _ _=>Z),MH.dn X G (rF Z fun _ _ _ _ _ _ _ _=>Z),Mc.dn X G (rF Z fun _ _ _ _ _ _ _ _=>Z),LS.dn X G (Ph Z fun _ _ _ _ _ _ _ _ _ _=>Z),LP.dn X G (w6 Z fun _ _ _ _ _ _ _ _ _=>Z),MK.dn X G (w6 Z fun _ _ _ _ _ _ _ _ _=>Z),OW.dn X G (rF Z fun _ _ _ _ _ _ _ _=>Z),OK.dn X G (rF Z fun _ _ _ _ _ _ _ _=>Z),OU.dn X G (Hz Z fun _ _ _ _ _ _ _=>Z),UM.dn X G (Hz Z fun _ _ _ _ _ _ _=>Z),Wn.dn X G (w6 Z fun _ _ _ _ _ _ _ _ _=>Z),Uk.dn X G (rF Z fun _ _ _ _ _ _ _ _=>Z),UP.dn X G (rF Z fun _ _ _ _ _ _ _ _=>Z),WH.dn X G (w6 Z fun _ _ _ _ _ _ _ _ _=>Z),TN.dn X G (Hz Z fun _ _ _ _ _ _ _=>Z),Xa.dn X G (rF Z fun _ _ _ _ _ _ _ _=>Z),VD.dn X G (w6 Z fun _ _ _ _ _ _ _ _ _=>Z),Uj.dn X G (Hz Z fun _ _ _ _ _ _ _=>Z),WM.dn X G (rF Z fun _ _ _ _ _ _ _ _=>Z),Ve.dn X G (rF Z fun _ _ _ _ _ _ _ _=>Z),Wk.dn X G (w6 Z fun _ _ _ _ _ _ _ _ _=>Z),Ut.dn X G (Hz Z fun _ _ _ _ _ _ _=>Z),Ur.dn X G (Ph Z fun _ _ _ _ _ _ _ _ _ _=>Z),Ub.dn X G (w6 Z fun _ _ _ _ _ _ _ _ _=>Z),WO.dn X G (rF Z fun _ _ _ _ _ _ _ _=>Z),VF.dn X G (Ph Z fun _ _ _ _ _ _ _ _ _ _=>Z),U6.dn X G (w6 Z fun _ _ _ _ _ _ _ _ _=>Z),V0.dn X G (rF Z fun _ _ _ _ _ _ _ _=>Z),UJ.dn X G (w6 Z fun _ _ _ _ _ _ _ _ _=>Z),U1.dn X G (rF Z fun _ _ _ _ _ _ _ _=>Z),Wx.dn X G (rF Z fun _ _ _ _ _ _ _ _=>Z),V2.dn X G (Hz Z fun _ _ _ _ _ _ _=>Z),T8.dn X G (w6 Z fun _ _ _ _ _ _ _ _ _=>Z),T2.dn X G (w6 Z fun _ _ _ _ _ _ _ _ _=>Z),VS.dn X G (rF Z fun _ _ _ _ _ _ _ _=>Z),UF.dn X G (rF Z fun _ _ _ _ _ _ _ _=>Z),T3.dn X G (w6 Z fun _ _ _ _ _ _ _ _ _=>Z),Vd.dn X G (w6 Z fun _ _ _ _ _ _ _ _ _=>Z),U4.dn X G (Ph Z fun _ _ _ _ _ _ _ _ _ _=>Z),WC.dn X G (rF Z fun _ _ _ _ _ _ _ _=>Z),TH.dn X G (w6 Z fun _ _ _ _ _ _ _ _ _=>Z),Vb.dn X G (w6 Z fun _ _ _ _ _ _ _ _ _=>Z),UC.dn X G (ba5 Z fun _ _ _ _ _ _ _ _ _ _ _=>Z),Vn.dn X G (w6 Z fun _ _ _ _ _ _ _ _ _=>Z),W8.dn X G (rF Z fun _ _ _ _ _ _ _ _=>Z),V8.dn X G (rF Z fun _ _ _ _ _ _ _ _=>Z),U0.dn X G (rF Z fun _ _ _ _ _ _ _ _=>Z),VP.dn X G (w6 Z fun _ _ _ _ _ _ _ _ _=>Z),To.dn X G (rF Z fun _ _ _ _ _ _ _ _=>Z),Wi.dn X G (Hz Z fun _ _ _ _ _ _ _=>Z),VI.dn X G (rF Z fun _ _ _ _ _ _ _ _=>Z),WY.dn X G (rF Z fun _ _ _ _ _ _ _ _=>Z),Xc.dn X G (rF Z fun _ _ _ _ _ _ _ _=>Z),WI.dn X G (Hz Z fun _ _ _ _ _ _ _=>Z),UA.dn X G (rF Z fun _ _ _ _ _ _ _ _=>Z),UK.dn X G (rF Z fun _ _ _ _ _ _ _ _=>Z),U5.dn X G (Hz Z fun _ _ _ _ _ _ _=>Z),Wr.dn X G (w6 Z fun _ _ _ _ _ _ _ _ _=>Z),VQ.dn X G (w6 Z fun _ _ _ _ _ _ _ _ _=>Z),T9.dn X G (w6 Z fun _ _ _ _ _ _ _ _ _=>Z),Vm.dn X G (w6 Z fun _ _ _ _ _ _ _ _ _=>Z),⟨IA,IB,IC,ID⟩,na_size,na_prime,na_found,na_chosen,na_columns,na_rows,na_modulus,na_undoing,aM0.kn IE IF (fE X G Bq) (Ph Z fun _ _ _ _ _ _ _ _ _ _=>Z),aM1.mn (rF Z fun _ _ _ _ _ _ _ _=>Z),aM2.mn (rF Z fun _ _ _ _ _ _ _ _=>Z),aM3.mn (rF Z fun _ _ _ _ _ _ _ _=>Z),b5 X G z0,b5 X G z1,b5 X G z2,b5 X G z3,b5 X G z4,b5 X G z5,b5 X G z6,b5 X G z7,b5 X G z8,b5 X G z9,b5 X G z10,b5 X G z11,b5 X G z12,b5 X G z13⟩;obtain⟨fd,F⟩:=WP.law X G hfa;exact⟨fd,F.to (Hz Z fun _ _ _ _ _ _ _=>Z),fun base _ _=>M0 T F⟩
theorem walk {q:Program}{loose:List Str}{XP:(Str->Option Value)->Heap->Prop}{YP:World->Heap->Prop}{d:DefRec}{K:Params->PySem.W.Frag}(hn:l.most=some 63)(QF:d.params.defaults=[])
 (hY:∀(w:World)(h:Heap),YP w h->(K w.params).In h)
 (F:∀(w:World)(mg:Str->Option Value)(fa:Addr)(h:Heap),(K w.params).In h->h.Ns mainGlobals mg->mg d.name=some (.ref fa) ->
 ∃fd:FuncData,(∀(s:Shared)(u:Value),BindsTo s fd ⟨[u],[]⟩ [("script",u)])/\∀base:Heap,(K w.params).In base->base.Ns mainGlobals mg->rD l.prog w (K w.params) mg base D5 14 fa fd ["script"] (D6 (K w.params))) :
    PySem.W.WalkO q loose XP YP l.row.toRowW d [] (fun f vs=>PySem.call f vs) :=
  L2.Ju (n:=63) (k:=14) (x:="script") (CX:=fun _=>D5) (sp:=fun w=>D6 (K w.params)) hn O QF ⟨Z,O,O⟩ hY F (fun _ _ a ns hl _ hS=>⟨a,ns,Z,hS,hl,fun _=>Z⟩) fun _ _ _ _ _ z=>z
end K39
namespace PwT
open PySem
abbrev S:=Str.ofString
noncomputable def kE (l:List Str):Nat->Str:=@List.rec Str (fun _=>Nat->Str) (fun _=>⟨#[]⟩) (fun a _ ih n=>@Nat.rec (fun _=>Str) a (fun m _=>ih m) n) l
noncomputable def A:List Str:=[S "_law_even",S "load",S "told",S "paper",S "list",S "isinstance",S "tuple",S "len",S "even",S "_law_rows_of",S "_law_laid",S "_law_way",S "found",S "blocks",S "way",S "_law_numbers",S "total",S "block",S "many",S "zip",S "one",S "other",S ".0",S "fast",S "_law_bar",S "n",S "bar",S "_law_whole",S "p",S "_law_primes",S "hole",S "range",S "sum",S "k",S "_law_by",S "_law_sum",S "_law_block",S "cell",S "most",S "number",S "at",S "_law_row",S "place",S "primes",S "law",S "script",S "_law_cell_at",S "share_v",S "rows",S "min",S "often",S "circle",S "append",S "counter",S "all",S "row",S "weights",S "modulus",S "check_fit",S "MOST_HOLES_COUNTERED",S "TooWide",S "counterweights are sought on wheels of at most ",S " holes",S "holes",S "kept",S "reach",S "kept_rest",S "scaled",S "all_weighings",S "left",S "rest",S "outcome",S "plus",S "weighing",S "__name__",S "law_evenhub_k39_whole_blocks_and_rings",S "int",S "bool",S "mixed",S "more",S "beyond",S "barring",S "leads",S "column",S "amounts",S "hung",S "lead",S "later",S "weighed",S "inner_bar",S "frame",S "evenhub.counters",S "sought",S "steps",S "goal",S "prime",S "Frame",S "missed",S "sought_within",S "counts",S "column_of",S "picked",S "chosen",S "goal_made",S "others",S "sought_with",S "first_unbarred",S "made",S "joint",S "whole_counts",S "leads_of",S "enumerate",S "lessened",S "taken",S "centred",S "spared",S "summed",S "spread",S "top",S "size",S "entered",S "euclid",S "FIRST_PRIME",S "is_shown",S "next_prime",S "parts",S "step",S "divides",S "is_solution",S "fractions",S "rests",S "scale",S "bits",S "bit_length",S "bottom",S "least_bottom",S "abs",S "evenhub.steps",S "first_filled",S "less",S "taken_times",S "undone_rows",S "back",S "solved",S "undoing",S "count",S "things",S "places",S "numbers",S "flipped",S "corners",S "cleared",S "weight",S "is_kept",S "NoHole",S "the hole isn't kept",S "q",S "factors",S "part_weighing",S "share",S "kept_share",S "uneven",S "evenhub.frames",S "__init__",S "self",S "columns",S "first_dropped",S "dropped",S "lay_ring",S "evenhub.papers",S "evenhub.rings",S "ring_holes",S "evenhub.rests",S "NoFit",S "the loads have unlike numbers of holes",S "evenhub.primes",S "prime_power",S "NoTurn",S "the divisor of the step and the number isn't 1",S "turned_on",S "pair",S "turn",S "next_turn",S "length",S "LEAD_BITS",S "behind",S "sure_turn",S "later_rest",S "new_rest",S "further",S "doubt",S "max",S "evenhub.loads",S "HubError",S "evenhub.wholes",S "divisor",S "great",S "small",S "evenhub.errors",S "ValueError",S "/claim/cut.py"]
noncomputable def B:List Str:=[⟨⟨[95,108,97,119,95,101,118,101,110]⟩⟩,⟨⟨[108,111,97,100]⟩⟩,⟨⟨[116,111,108,100]⟩⟩,⟨⟨[112,97,112,101,114]⟩⟩,⟨⟨[108,105,115,116]⟩⟩,⟨⟨[105,115,105,110,115,116,97,110,99,101]⟩⟩,⟨⟨[116,117,112,108,101]⟩⟩,⟨⟨[108,101,110]⟩⟩,⟨⟨[101,118,101,110]⟩⟩,⟨⟨[95,108,97,119,95,114,111,119,115,95,111,102]⟩⟩,⟨⟨[95,108,97,119,95,108,97,105,100]⟩⟩,⟨⟨[95,108,97,119,95,119,97,121]⟩⟩,⟨⟨[102,111,117,110,100]⟩⟩,⟨⟨[98,108,111,99,107,115]⟩⟩,⟨⟨[119,97,121]⟩⟩,⟨⟨[95,108,97,119,95,110,117,109,98,101,114,115]⟩⟩,⟨⟨[116,111,116,97,108]⟩⟩,⟨⟨[98,108,111,99,107]⟩⟩,⟨⟨[109,97,110,121]⟩⟩,⟨⟨[122,105,112]⟩⟩,⟨⟨[111,110,101]⟩⟩,⟨⟨[111,116,104,101,114]⟩⟩,⟨⟨[46,48]⟩⟩,⟨⟨[102,97,115,116]⟩⟩,⟨⟨[95,108,97,119,95,98,97,114]⟩⟩,⟨⟨[110]⟩⟩,⟨⟨[98,97,114]⟩⟩,⟨⟨[95,108,97,119,95,119,104,111,108,101]⟩⟩,⟨⟨[112]⟩⟩,⟨⟨[95,108,97,119,95,112,114,105,109,101,115]⟩⟩,⟨⟨[104,111,108,101]⟩⟩,⟨⟨[114,97,110,103,101]⟩⟩,⟨⟨[115,117,109]⟩⟩,⟨⟨[107]⟩⟩,⟨⟨[95,108,97,119,95,98,121]⟩⟩,⟨⟨[95,108,97,119,95,115,117,109]⟩⟩,⟨⟨[95,108,97,119,95,98,108,111,99,107]⟩⟩,⟨⟨[99,101,108,108]⟩⟩,⟨⟨[109,111,115,116]⟩⟩,⟨⟨[110,117,109,98,101,114]⟩⟩,⟨⟨[97,116]⟩⟩,⟨⟨[95,108,97,119,95,114,111,119]⟩⟩,⟨⟨[112,108,97,99,101]⟩⟩,⟨⟨[112,114,105,109,101,115]⟩⟩,⟨⟨[108,97,119]⟩⟩,⟨⟨[115,99,114,105,112,116]⟩⟩,⟨⟨[95,108,97,119,95,99,101,108,108,95,97,116]⟩⟩,⟨⟨[115,104,97,114,101,95,118]⟩⟩,⟨⟨[114,111,119,115]⟩⟩,⟨⟨[109,105,110]⟩⟩,⟨⟨[111,102,116,101,110]⟩⟩,⟨⟨[99,105,114,99,108,101]⟩⟩,⟨⟨[97,112,112,101,110,100]⟩⟩,⟨⟨[99,111,117,110,116,101,114]⟩⟩,⟨⟨[97,108,108]⟩⟩,⟨⟨[114,111,119]⟩⟩,⟨⟨[119,101,105,103,104,116,115]⟩⟩,⟨⟨[109,111,100,117,108,117,115]⟩⟩,⟨⟨[99,104,101,99,107,95,102,105,116]⟩⟩,⟨⟨[77,79,83,84,95,72,79,76,69,83,95,67,79,85,78,84,69,82,69,68]⟩⟩,⟨⟨[84,111,111,87,105,100,101]⟩⟩,⟨⟨[99,111,117,110,116,101,114,119,101,105,103,104,116,115,32,97,114,101,32,115,111,117,103,104,116,32,111,110,32,119,104,101,101,108,115,32,111,102,32,97,116,32,109,111,115,116,32]⟩⟩,⟨⟨[32,104,111,108,101,115]⟩⟩,⟨⟨[104,111,108,101,115]⟩⟩,⟨⟨[107,101,112,116]⟩⟩,⟨⟨[114,101,97,99,104]⟩⟩,⟨⟨[107,101,112,116,95,114,101,115,116]⟩⟩,⟨⟨[115,99,97,108,101,100]⟩⟩,⟨⟨[97,108,108,95,119,101,105,103,104,105,110,103,115]⟩⟩,⟨⟨[108,101,102,116]⟩⟩,⟨⟨[114,101,115,116]⟩⟩,⟨⟨[111,117,116,99,111,109,101]⟩⟩,⟨⟨[112,108,117,115]⟩⟩,⟨⟨[119,101,105,103,104,105,110,103]⟩⟩,⟨⟨[95,95,110,97,109,101,95,95]⟩⟩,⟨⟨[108,97,119,95,101,118,101,110,104,117,98,95,107,51,57,95,119,104,111,108,101,95,98,108,111,99,107,115,95,97,110,100,95,114,105,110,103,115]⟩⟩,⟨⟨[105,110,116]⟩⟩,⟨⟨[98,111,111,108]⟩⟩,⟨⟨[109,105,120,101,100]⟩⟩,⟨⟨[109,111,114,101]⟩⟩,⟨⟨[98,101,121,111,110,100]⟩⟩,⟨⟨[98,97,114,114,105,110,103]⟩⟩,⟨⟨[108,101,97,100,115]⟩⟩,⟨⟨[99,111,108,117,109,110]⟩⟩,⟨⟨[97,109,111,117,110,116,115]⟩⟩,⟨⟨[104,117,110,103]⟩⟩,⟨⟨[108,101,97,100]⟩⟩,⟨⟨[108,97,116,101,114]⟩⟩,⟨⟨[119,101,105,103,104,101,100]⟩⟩,⟨⟨[105,110,110,101,114,95,98,97,114]⟩⟩,⟨⟨[102,114,97,109,101]⟩⟩,⟨⟨[101,118,101,110,104,117,98,46,99,111,117,110,116,101,114,115]⟩⟩,⟨⟨[115,111,117,103,104,116]⟩⟩,⟨⟨[115,116,101,112,115]⟩⟩,⟨⟨[103,111,97,108]⟩⟩,⟨⟨[112,114,105,109,101]⟩⟩,⟨⟨[70,114,97,109,101]⟩⟩,⟨⟨[109,105,115,115,101,100]⟩⟩,⟨⟨[115,111,117,103,104,116,95,119,105,116,104,105,110]⟩⟩,⟨⟨[99,111,117,110,116,115]⟩⟩,⟨⟨[99,111,108,117,109,110,95,111,102]⟩⟩,⟨⟨[112,105,99,107,101,100]⟩⟩,⟨⟨[99,104,111,115,101,110]⟩⟩,⟨⟨[103,111,97,108,95,109,97,100,101]⟩⟩,⟨⟨[111,116,104,101,114,115]⟩⟩,⟨⟨[115,111,117,103,104,116,95,119,105,116,104]⟩⟩,⟨⟨[102,105,114,115,116,95,117,110,98,97,114,114,101,100]⟩⟩,⟨⟨[109,97,100,101]⟩⟩,⟨⟨[106,111,105,110,116]⟩⟩,⟨⟨[119,104,111,108,101,95,99,111,117,110,116,115]⟩⟩,⟨⟨[108,101,97,100,115,95,111,102]⟩⟩,⟨⟨[101,110,117,109,101,114,97,116,101]⟩⟩,⟨⟨[108,101,115,115,101,110,101,100]⟩⟩,⟨⟨[116,97,107,101,110]⟩⟩,⟨⟨[99,101,110,116,114,101,100]⟩⟩,⟨⟨[115,112,97,114,101,100]⟩⟩,⟨⟨[115,117,109,109,101,100]⟩⟩,⟨⟨[115,112,114,101,97,100]⟩⟩,⟨⟨[116,111,112]⟩⟩,⟨⟨[115,105,122,101]⟩⟩,⟨⟨[101,110,116,101,114,101,100]⟩⟩,⟨⟨[101,117,99,108,105,100]⟩⟩,⟨⟨[70,73,82,83,84,95,80,82,73,77,69]⟩⟩,⟨⟨[105,115,95,115,104,111,119,110]⟩⟩,⟨⟨[110,101,120,116,95,112,114,105,109,101]⟩⟩,⟨⟨[112,97,114,116,115]⟩⟩,⟨⟨[115,116,101,112]⟩⟩,⟨⟨[100,105,118,105,100,101,115]⟩⟩,⟨⟨[105,115,95,115,111,108,117,116,105,111,110]⟩⟩,⟨⟨[102,114,97,99,116,105,111,110,115]⟩⟩,⟨⟨[114,101,115,116,115]⟩⟩,⟨⟨[115,99,97,108,101]⟩⟩,⟨⟨[98,105,116,115]⟩⟩,⟨⟨[98,105,116,95,108,101,110,103,116,104]⟩⟩,⟨⟨[98,111,116,116,111,109]⟩⟩,⟨⟨[108,101,97,115,116,95,98,111,116,116,111,109]⟩⟩,⟨⟨[97,98,115]⟩⟩,⟨⟨[101,118,101,110,104,117,98,46,115,116,101,112,115]⟩⟩,⟨⟨[102,105,114,115,116,95,102,105,108,108,101,100]⟩⟩,⟨⟨[108,101,115,115]⟩⟩,⟨⟨[116,97,107,101,110,95,116,105,109,101,115]⟩⟩,⟨⟨[117,110,100,111,110,101,95,114,111,119,115]⟩⟩,⟨⟨[98,97,99,107]⟩⟩,⟨⟨[115,111,108,118,101,100]⟩⟩,⟨⟨[117,110,100,111,105,110,103]⟩⟩,⟨⟨[99,111,117,110,116]⟩⟩,⟨⟨[116,104,105,110,103,115]⟩⟩,⟨⟨[112,108,97,99,101,115]⟩⟩,⟨⟨[110,117,109,98,101,114,115]⟩⟩,⟨⟨[102,108,105,112,112,101,100]⟩⟩,⟨⟨[99,111,114,110,101,114,115]⟩⟩,⟨⟨[99,108,101,97,114,101,100]⟩⟩,⟨⟨[119,101,105,103,104,116]⟩⟩,⟨⟨[105,115,95,107,101,112,116]⟩⟩,⟨⟨[78,111,72,111,108,101]⟩⟩,⟨⟨[116,104,101,32,104,111,108,101,32,105,115,110,39,116,32,107,101,112,116]⟩⟩,⟨⟨[113]⟩⟩,⟨⟨[102,97,99,116,111,114,115]⟩⟩,⟨⟨[112,97,114,116,95,119,101,105,103,104,105,110,103]⟩⟩,⟨⟨[115,104,97,114,101]⟩⟩,⟨⟨[107,101,112,116,95,115,104,97,114,101]⟩⟩,⟨⟨[117,110,101,118,101,110]⟩⟩,⟨⟨[101,118,101,110,104,117,98,46,102,114,97,109,101,115]⟩⟩,⟨⟨[95,95,105,110,105,116,95,95]⟩⟩,⟨⟨[115,101,108,102]⟩⟩,⟨⟨[99,111,108,117,109,110,115]⟩⟩,⟨⟨[102,105,114,115,116,95,100,114,111,112,112,101,100]⟩⟩,⟨⟨[100,114,111,112,112,101,100]⟩⟩,⟨⟨[108,97,121,95,114,105,110,103]⟩⟩,⟨⟨[101,118,101,110,104,117,98,46,112,97,112,101,114,115]⟩⟩,⟨⟨[101,118,101,110,104,117,98,46,114,105,110,103,115]⟩⟩,⟨⟨[114,105,110,103,95,104,111,108,101,115]⟩⟩,⟨⟨[101,118,101,110,104,117,98,46,114,101,115,116,115]⟩⟩,⟨⟨[78,111,70,105,116]⟩⟩,⟨⟨[116,104,101,32,108,111,97,100,115,32,104,97,118,101,32,117,110,108,105,107,101,32,110,117,109,98,101,114,115,32,111,102,32,104,111,108,101,115]⟩⟩,⟨⟨[101,118,101,110,104,117,98,46,112,114,105,109,101,115]⟩⟩,⟨⟨[112,114,105,109,101,95,112,111,119,101,114]⟩⟩,⟨⟨[78,111,84,117,114,110]⟩⟩,⟨⟨[116,104,101,32,100,105,118,105,115,111,114,32,111,102,32,116,104,101,32,115,116,101,112,32,97,110,100,32,116,104,101,32,110,117,109,98,101,114,32,105,115,110,39,116,32,49]⟩⟩,⟨⟨[116,117,114,110,101,100,95,111,110]⟩⟩,⟨⟨[112,97,105,114]⟩⟩,⟨⟨[116,117,114,110]⟩⟩,⟨⟨[110,101,120,116,95,116,117,114,110]⟩⟩,⟨⟨[108,101,110,103,116,104]⟩⟩,⟨⟨[76,69,65,68,95,66,73,84,83]⟩⟩,⟨⟨[98,101,104,105,110,100]⟩⟩,⟨⟨[115,117,114,101,95,116,117,114,110]⟩⟩,⟨⟨[108,97,116,101,114,95,114,101,115,116]⟩⟩,⟨⟨[110,101,119,95,114,101,115,116]⟩⟩,⟨⟨[102,117,114,116,104,101,114]⟩⟩,⟨⟨[100,111,117,98,116]⟩⟩,⟨⟨[109,97,120]⟩⟩,⟨⟨[101,118,101,110,104,117,98,46,108,111,97,100,115]⟩⟩,⟨⟨[72,117,98,69,114,114,111,114]⟩⟩,⟨⟨[101,118,101,110,104,117,98,46,119,104,111,108,101,115]⟩⟩,⟨⟨[100,105,118,105,115,111,114]⟩⟩,⟨⟨[103,114,101,97,116]⟩⟩,⟨⟨[115,109,97,108,108]⟩⟩,⟨⟨[101,118,101,110,104,117,98,46,101,114,114,111,114,115]⟩⟩,⟨⟨[86,97,108,117,101,69,114,114,111,114]⟩⟩,⟨⟨[47,99,108,97,105,109,47,99,117,116,46,112,121]⟩⟩]
noncomputable def p (i:Nat):Str:=kE B i
theorem a0:S "_law_even"=kE A 0:=rfl
theorem a1:S "load"=kE A 1:=rfl
theorem a2:S "told"=kE A 2:=rfl
theorem a3:S "paper"=kE A 3:=rfl
theorem a4:S "list"=kE A 4:=rfl
theorem a5:S "isinstance"=kE A 5:=rfl
theorem a6:S "tuple"=kE A 6:=rfl
theorem a7:S "len"=kE A 7:=rfl
theorem a8:S "even"=kE A 8:=rfl
theorem a9:S "_law_rows_of"=kE A 9:=rfl
theorem L8:S "_law_laid"=kE A 10:=rfl
theorem MH:S "_law_way"=kE A 11:=rfl
theorem Mc:S "found"=kE A 12:=rfl
theorem LS:S "blocks"=kE A 13:=rfl
theorem LP:S "way"=kE A 14:=rfl
theorem MK:S "_law_numbers"=kE A 15:=rfl
theorem OW:S "total"=kE A 16:=rfl
theorem OK:S "block"=kE A 17:=rfl
theorem OU:S "many"=kE A 18:=rfl
theorem UM:S "zip"=kE A 19:=rfl
theorem Wn:S "one"=kE A 20:=rfl
theorem Uk:S "other"=kE A 21:=rfl
theorem UP:S ".0"=kE A 22:=rfl
theorem WH:S "fast"=kE A 23:=rfl
theorem TN:S "_law_bar"=kE A 24:=rfl
theorem Xa:S "n"=kE A 25:=rfl
theorem VD:S "bar"=kE A 26:=rfl
theorem Uj:S "_law_whole"=kE A 27:=rfl
theorem WM:S "p"=kE A 28:=rfl
theorem Ve:S "_law_primes"=kE A 29:=rfl
theorem Wk:S "hole"=kE A 30:=rfl
theorem Ut:S "range"=kE A 31:=rfl
theorem Ur:S "sum"=kE A 32:=rfl
theorem Ub:S "k"=kE A 33:=rfl
theorem WO:S "_law_by"=kE A 34:=rfl
theorem VF:S "_law_sum"=kE A 35:=rfl
theorem U6:S "_law_block"=kE A 36:=rfl
theorem V0:S "cell"=kE A 37:=rfl
theorem UJ:S "most"=kE A 38:=rfl
theorem U1:S "number"=kE A 39:=rfl
theorem Wx:S "at"=kE A 40:=rfl
theorem V2:S "_law_row"=kE A 41:=rfl
theorem T8:S "place"=kE A 42:=rfl
theorem T2:S "primes"=kE A 43:=rfl
theorem VS:S "law"=kE A 44:=rfl
theorem UF:S "script"=kE A 45:=rfl
theorem T3:S "_law_cell_at"=kE A 46:=rfl
theorem Vd:S "share_v"=kE A 47:=rfl
theorem U4:S "rows"=kE A 48:=rfl
theorem WC:S "min"=kE A 49:=rfl
theorem TH:S "often"=kE A 50:=rfl
theorem Vb:S "circle"=kE A 51:=rfl
theorem UC:S "append"=kE A 52:=rfl
theorem Vn:S "counter"=kE A 53:=rfl
theorem W8:S "all"=kE A 54:=rfl
theorem V8:S "row"=kE A 55:=rfl
theorem U0:S "weights"=kE A 56:=rfl
theorem VP:S "modulus"=kE A 57:=rfl
theorem To:S "check_fit"=kE A 58:=rfl
theorem Wi:S "MOST_HOLES_COUNTERED"=kE A 59:=rfl
theorem VI:S "TooWide"=kE A 60:=rfl
theorem WY:S "counterweights are sought on wheels of at most "=kE A 61:=rfl
theorem Xc:S " holes"=kE A 62:=rfl
theorem WI:S "holes"=kE A 63:=rfl
theorem UA:S "kept"=kE A 64:=rfl
theorem UK:S "reach"=kE A 65:=rfl
theorem U5:S "kept_rest"=kE A 66:=rfl
theorem Wr:S "scaled"=kE A 67:=rfl
theorem VQ:S "all_weighings"=kE A 68:=rfl
theorem T9:S "left"=kE A 69:=rfl
theorem Vm:S "rest"=kE A 70:=rfl
theorem WP:S "outcome"=kE A 71:=rfl
theorem a72:S "plus"=kE A 72:=rfl
theorem a73:S "weighing"=kE A 73:=rfl
theorem a74:S "__name__"=kE A 74:=rfl
theorem a75:S "law_evenhub_k39_whole_blocks_and_rings"=kE A 75:=rfl
theorem a76:S "int"=kE A 76:=rfl
theorem a77:S "bool"=kE A 77:=rfl
theorem a78:S "mixed"=kE A 78:=rfl
theorem a79:S "more"=kE A 79:=rfl
theorem a80:S "beyond"=kE A 80:=rfl
theorem a81:S "barring"=kE A 81:=rfl
theorem a82:S "leads"=kE A 82:=rfl
theorem a83:S "column"=kE A 83:=rfl
theorem a84:S "amounts"=kE A 84:=rfl
theorem a85:S "hung"=kE A 85:=rfl
theorem a86:S "lead"=kE A 86:=rfl
theorem a87:S "later"=kE A 87:=rfl
theorem a88:S "weighed"=kE A 88:=rfl
theorem a89:S "inner_bar"=kE A 89:=rfl
theorem a90:S "frame"=kE A 90:=rfl
theorem a91:S "evenhub.counters"=kE A 91:=rfl
theorem a92:S "sought"=kE A 92:=rfl
theorem a93:S "steps"=kE A 93:=rfl
theorem a94:S "goal"=kE A 94:=rfl
theorem a95:S "prime"=kE A 95:=rfl
theorem a96:S "Frame"=kE A 96:=rfl
theorem a97:S "missed"=kE A 97:=rfl
theorem a98:S "sought_within"=kE A 98:=rfl
theorem a99:S "counts"=kE A 99:=rfl
theorem UE:S "column_of"=kE A 100:=rfl
theorem Wg:S "picked"=kE A 101:=rfl
theorem V6:S "chosen"=kE A 102:=rfl
theorem Xb:S "goal_made"=kE A 103:=rfl
theorem Uh:S "others"=kE A 104:=rfl
theorem W9:S "sought_with"=kE A 105:=rfl
theorem Wo:S "first_unbarred"=kE A 106:=rfl
theorem Vf:S "made"=kE A 107:=rfl
theorem Um:S "joint"=kE A 108:=rfl
theorem WB:S "whole_counts"=kE A 109:=rfl
theorem WS:S "leads_of"=kE A 110:=rfl
theorem W4:S "enumerate"=kE A 111:=rfl
theorem WJ:S "lessened"=kE A 112:=rfl
theorem W7:S "taken"=kE A 113:=rfl
theorem UB:S "centred"=kE A 114:=rfl
theorem Wl:S "spared"=kE A 115:=rfl
theorem Tq:S "summed"=kE A 116:=rfl
theorem Wd:S "spread"=kE A 117:=rfl
theorem U2:S "top"=kE A 118:=rfl
theorem WQ:S "size"=kE A 119:=rfl
theorem Xd:S "entered"=kE A 120:=rfl
theorem W5:S "euclid"=kE A 121:=rfl
theorem WX:S "FIRST_PRIME"=kE A 122:=rfl
theorem WZ:S "is_shown"=kE A 123:=rfl
theorem TM:S "next_prime"=kE A 124:=rfl
theorem TK:S "parts"=kE A 125:=rfl
theorem U9:S "step"=kE A 126:=rfl
theorem VC:S "divides"=kE A 127:=rfl
theorem TV:S "is_solution"=kE A 128:=rfl
theorem Uz:S "fractions"=kE A 129:=rfl
theorem UN:S "rests"=kE A 130:=rfl
theorem Ux:S "scale"=kE A 131:=rfl
theorem TQ:S "bits"=kE A 132:=rfl
theorem Tz:S "bit_length"=kE A 133:=rfl
theorem UR:S "bottom"=kE A 134:=rfl
theorem UQ:S "least_bottom"=kE A 135:=rfl
theorem UD:S "abs"=kE A 136:=rfl
theorem WE:S "evenhub.steps"=kE A 137:=rfl
theorem WK:S "first_filled"=kE A 138:=rfl
theorem Vv:S "less"=kE A 139:=rfl
theorem WL:S "taken_times"=kE A 140:=rfl
theorem W3:S "undone_rows"=kE A 141:=rfl
theorem UI:S "back"=kE A 142:=rfl
theorem Ug:S "solved"=kE A 143:=rfl
theorem Ua:S "undoing"=kE A 144:=rfl
theorem Uy:S "count"=kE A 145:=rfl
theorem WT:S "things"=kE A 146:=rfl
theorem Vs:S "places"=kE A 147:=rfl
theorem Vy:S "numbers"=kE A 148:=rfl
theorem VO:S "flipped"=kE A 149:=rfl
theorem TX:S "corners"=kE A 150:=rfl
theorem Uv:S "cleared"=kE A 151:=rfl
theorem VV:S "weight"=kE A 152:=rfl
theorem WU:S "is_kept"=kE A 153:=rfl
theorem TC:S "NoHole"=kE A 154:=rfl
theorem Ws:S "the hole isn't kept"=kE A 155:=rfl
theorem UX:S "q"=kE A 156:=rfl
theorem UG:S "factors"=kE A 157:=rfl
theorem Vi:S "part_weighing"=kE A 158:=rfl
theorem TY:S "share"=kE A 159:=rfl
theorem UL:S "kept_share"=kE A 160:=rfl
theorem Ts:S "uneven"=kE A 161:=rfl
theorem WF:S "evenhub.frames"=kE A 162:=rfl
theorem WD:S "__init__"=kE A 163:=rfl
theorem Vp:S "self"=kE A 164:=rfl
theorem Wf:S "columns"=kE A 165:=rfl
theorem Us:S "first_dropped"=kE A 166:=rfl
theorem Wu:S "dropped"=kE A 167:=rfl
theorem WA:S "lay_ring"=kE A 168:=rfl
theorem TR:S "evenhub.papers"=kE A 169:=rfl
theorem VN:S "evenhub.rings"=kE A 170:=rfl
theorem VW:S "ring_holes"=kE A 171:=rfl
theorem UZ:S "evenhub.rests"=kE A 172:=rfl
theorem Vl:S "NoFit"=kE A 173:=rfl
theorem Tx:S "the loads have unlike numbers of holes"=kE A 174:=rfl
theorem TU:S "evenhub.primes"=kE A 175:=rfl
theorem Uu:S "prime_power"=kE A 176:=rfl
theorem Uq:S "NoTurn"=kE A 177:=rfl
theorem UY:S "the divisor of the step and the number isn't 1"=kE A 178:=rfl
theorem Vg:S "turned_on"=kE A 179:=rfl
theorem T6:S "pair"=kE A 180:=rfl
theorem VJ:S "turn"=kE A 181:=rfl
theorem UT:S "next_turn"=kE A 182:=rfl
theorem VR:S "length"=kE A 183:=rfl
theorem Vj:S "LEAD_BITS"=kE A 184:=rfl
theorem Vu:S "behind"=kE A 185:=rfl
theorem Uf:S "sure_turn"=kE A 186:=rfl
theorem WV:S "later_rest"=kE A 187:=rfl
theorem Tp:S "new_rest"=kE A 188:=rfl
theorem T4:S "further"=kE A 189:=rfl
theorem Ud:S "doubt"=kE A 190:=rfl
theorem Vr:S "max"=kE A 191:=rfl
theorem VZ:S "evenhub.loads"=kE A 192:=rfl
theorem T7:S "HubError"=kE A 193:=rfl
theorem Wz:S "evenhub.wholes"=kE A 194:=rfl
theorem TJ:S "divisor"=kE A 195:=rfl
theorem Uw:S "great"=kE A 196:=rfl
theorem US:S "small"=kE A 197:=rfl
theorem W1:S "evenhub.errors"=kE A 198:=rfl
theorem V3:S "ValueError"=kE A 199:=rfl
theorem Ul:S "/claim/cut.py"=kE A 200:=rfl
theorem cc {a b:Str}{l m:List Str}(h:a=b)(k:l=m):a::l=b::m:=by rw[h,k]
set_option maxRecDepth 100000 in
theorem AB:A=B:=by
 delta A B
 repeat (refine cc (PySem.W.Fast.ofString_ofList _) ?_)
 rfl
set_option maxRecDepth 100000 in
noncomputable def G:{g:List Str->Program // PySem.Challenge.pw_evenhub_k39_whole_blocks_and_rings=g A}:=by
 refine⟨?g,?h⟩
 case h =>
  delta PySem.Challenge.pw_evenhub_k39_whole_blocks_and_rings
  dsimp only[a0,a1,a2,a3,a4,a5,a6,a7,a8,a9,L8,MH,Mc,LS,LP,MK,OW,OK,OU,UM,Wn,Uk,UP,WH,TN,Xa,VD,Uj,WM,Ve,Wk,Ut,Ur,Ub,WO,VF,U6,V0,UJ,U1,Wx,V2,T8,T2,VS,UF,T3,Vd,U4,WC,TH,Vb,UC,Vn,W8,V8,U0,VP,To,Wi,VI,WY,Xc,WI,UA,UK,U5,Wr,VQ,T9,Vm,WP,a72,a73,a74,a75,a76,a77,a78,a79,a80,a81,a82,a83,a84,a85,a86,a87,a88,a89,a90,a91,a92,a93,a94,a95,a96,a97,a98,a99,UE,Wg,V6,Xb,Uh,W9,Wo,Vf,Um,WB,WS,W4,WJ,W7,UB,Wl,Tq,Wd,U2,WQ,Xd,W5,WX,WZ,TM,TK,U9,VC,TV,Uz,UN,Ux,TQ,Tz,UR,UQ,UD,WE,WK,Vv,WL,W3,UI,Ug,Ua,Uy,WT,Vs,Vy,VO,TX,Uv,VV,WU,TC,Ws,UX,UG,Vi,TY,UL,Ts,WF,WD,Vp,Wf,Us,Wu,WA,TR,VN,VW,UZ,Vl,Tx,TU,Uu,Uq,UY,Vg,T6,VJ,UT,VR,Vj,Vu,Uf,WV,Tp,T4,Ud,Vr,VZ,T7,Wz,TJ,Uw,US,W1,V3,Ul];generalize A=f;exact Z
end PwT
noncomputable def PySem.W.Fast.tw12191482977409828614:PySem.Program:=PwT.G.1 PwT.B
theorem PySem.W.Fast.te12191482977409828614:PySem.Challenge.pw_evenhub_k39_whole_blocks_and_rings=PySem.W.Fast.tw12191482977409828614:=PwT.G.2.trans (cQ PwT.G.1 PwT.AB)
namespace Hd
open PySem PySem.W PwT PySem.W.Fast
abbrev PO:=Params->Obj
abbrev PB:=Params->BT
abbrev LF:Life:=(PySem.Life.mk [] [] [] 0 [] [] Bool.false ⟨[]⟩ [] 0 Bool.false Bool.false Bool.false (Int.ofNat 0) [(Int.ofNat 2000),(Int.ofNat 10),(Int.ofNat 10)] Bool.false 0 Bool.true [] [] 0 Bool.false)
noncomputable def nN (a:PO)(l r:PB):PB:=fun P=>.node (a P) (l P) (r P)
noncomputable def nL (a:PO):PB:=fun P=>.node (a P) .nil .nil
noncomputable def nA (a:PO)(l:PB):PB:=fun P=>.node (a P) (l P) .nil
noncomputable abbrev TW:PySem.Program:=PySem.W.Fast.tw12191482977409828614
noncomputable def tp (i:Nat):PySem.Stmt:=TW.main.body.getD i (.Pass ⟨0,0,0,0⟩)
noncomputable abbrev E (P:Params)(q:PySem.Str)(t:Nat)(v:Value):DictEntry:=⟨PyData.keyHash P q,.str q t,v⟩
noncomputable abbrev I (n t:Nat):Value:=.int (Int.ofNat n) t
noncomputable abbrev l0:String:=SL.s2766695959194262286x5
noncomputable def o0:PO:=fun P=>Obj.mk (.type l0) none (.seq ⟨[]⟩ 0) ⟨[]⟩
noncomputable def o2:PO:=fun P=>Obj.mk .none none (.fields ⟨[]⟩) ⟨[]⟩
noncomputable abbrev l1:String:=SL.s5856160107412720595x4
noncomputable def q0:Str:=⟨⟨[60,109,111,100,117,108,101,62]⟩⟩
noncomputable def ha (a:Str)(b:Nat)(c:Nat)(d:Nat):PO:=fun _=>Obj.mk (.type l1) none (.fields ⟨[(.str a b),(.str a (b+1)),(.str (p 200) (b+2)),(I c 0),(I 0 0),(I 0 0),(I 0 0),(I 0 0),(.ref d),(.bool Bool.false),(I 181 0),(.ref (d+1)),.none,.none,.none,.none,(I (b+3) 0),(I c 0),(.str (p 200) (b+4))]⟩) ⟨[]⟩
noncomputable def o3:PO:=ha q0 182 1 11
noncomputable abbrev l2:String:=SL.s658472552662922059x5
noncomputable def q2:Str:=⟨⟨[95,95,109,97,105,110,95,95]⟩⟩
noncomputable def hb (a:Nat)(b:Nat)(c:Str)(d:Nat):PO:=fun _=>Obj.mk (.type l2) none .plain ⟨[(some (.ref a)),(some (.ref 3)),(some (.ref b)),none,(some (.str c d)),none,(some (.ref 0))]⟩
noncomputable def o7:PO:=hb 13 3 q2 164
noncomputable def Ta:PB:=(nN boot_o_0 (nN boot_o_1 (nN boot_o_3 (nL boot_o_7) (nL o0)) (nN boot_o_5 (nL boot_o_9) (nL o3))) (nN boot_o_2 (nN boot_o_4 (nL boot_o_8) (nL o2)) (nN boot_o_6 (nL boot_o_10) (nL o7))))
noncomputable def Zc (w:PySem.World)(os:PySem.OsState):PySem.W.SharedT:=PySem.W.SharedT.mk (Ta w.params) 15 LF (Array.mk []) (PySem.Drawn.mk 0 0 0 0) 187 os
noncomputable def Tb:PB:=Ta
noncomputable def OV (w:PySem.World)(os:PySem.OsState):PySem.W.SharedT:=PySem.W.SharedT.mk (Tb w.params) 15 LF (Array.mk []) (PySem.Drawn.mk 0 0 0 0) 187 os
noncomputable def env:PySem.Env:={ scope:=TW.main.scope,locals:=PySem.mainNs,globals:=PySem.mainNs,cells:=[],code:=(.ref 13),frame:=some 14 }
abbrev ann:Option PySem.Value:=(some (.ref 6))
abbrev m0:Nat:=11
abbrev Bs:List PySem.Frame:=[PySem.W.topFrame (PySem.Pos.mk 0 0 0 0)]
noncomputable abbrev cE:PySem.Code:=.body (behindTheImports TW) env
abbrev Pa:PySem.Pos:=(PySem.Pos.mk 0 0 0 0)
abbrev posB:PySem.Pos:=(PySem.Pos.mk 0 0 0 0)
abbrev kA:Nat:=12
abbrev kB:Nat:=0
abbrev kF:Nat:=1
noncomputable abbrev l3:String:=SL.s14018661285674007319x4
noncomputable def q5:Str:=⟨⟨[95,95,100,111,99,95,95]⟩⟩
noncomputable def q6:Str:=⟨⟨[95,95,112,97,99,107,97,103,101,95,95]⟩⟩
noncomputable def q7:Str:=⟨⟨[95,95,108,111,97,100,101,114,95,95]⟩⟩
noncomputable abbrev l4:String:=SL.s7097527257260152453x26
noncomputable def q8:Str:=⟨⟨[95,95,115,112,101,99,95,95]⟩⟩
noncomputable def q9:Str:=⟨⟨[95,95,97,110,110,111,116,97,116,105,111,110,115,95,95]⟩⟩
noncomputable def q10:Str:=⟨⟨[95,95,98,117,105,108,116,105,110,115,95,95]⟩⟩
noncomputable def q11:Str:=⟨⟨[95,95,102,105,108,101,95,95]⟩⟩
noncomputable def q12:Str:=⟨⟨[95,95,99,97,99,104,101,100,95,95]⟩⟩
noncomputable def o24:PO:=fun P=>Obj.mk (.type l3) none (.dict ⟨[(E P (p 74) 165 (.str (p 75) 833)),(E P q5 166 .none),(E P q6 167 .none),(E P q7 168 (.builtin l4)),(E P q8 169 .none),(E P q9 170 (.ref 6)),(E P q10 171 (.ref 4)),(E P q11 173 (.str (p 200) 172)),(E P q12 174 .none),(E P (p 193) 206 (.ref 24)),(E P (p 177) 222 (.ref 37)),(E P (p 173) 238 (.ref 49)),(E P (p 60) 254 (.ref 61)),(E P (p 154) 270 (.ref 73)),(E P (p 184) 274 (I 128 273)),(E P (p 195) 285 (.ref 82)),(E P (p 108) 293 (.ref 89)),(E P (p 121) 305 (.ref 96)),(E P (p 179) 313 (.ref 103)),(E P (p 182) 324 (.ref 110)),(E P (p 186) 337 (.ref 117)),(E P (p 85) 349 (.ref 124)),(E P (p 72) 355 (.ref 129)),(E P (p 58) 363 (.ref 136)),(E P (p 67) 369 (.ref 141)),(E P (p 125) 382 (.ref 148)),(E P (p 176) 391 (.ref 155)),(E P (p 142) 400 (.ref 162)),(E P (p 168) 413 (.ref 169)),(E P (p 171) 423 (.ref 176)),(E P (p 159) 434 (.ref 183)),(E P (p 153) 440 (.ref 188)),(E P (p 166) 448 (.ref 195)),(E P (p 64) 454 (.ref 200)),(E P (p 70) 468 (.ref 207)),(E P (p 167) 474 (.ref 212)),(E P (p 88) 482 (.ref 217)),(E P (p 73) 488 (.ref 222)),(E P (p 158) 499 (.ref 229)),(E P (p 3) 509 (.ref 236)),(E P (p 96) 570 (.ref 272)),(E P (p 101) 576 (.ref 281)),(E P (p 117) 588 (.ref 288)),(E P (p 149) 594 (.ref 293)),(E P (p 100) 600 (.ref 298)),(E P (p 150) 613 (.ref 305)),(E P (p 151) 619 (.ref 310)),(E P (p 138) 628 (.ref 317)),(E P (p 112) 634 (.ref 322)),(E P (p 140) 640 (.ref 327)),(E P (p 141) 646 (.ref 332)),(E P (p 143) 652 (.ref 337)),(E P (p 128) 658 (.ref 342)),(E P (p 129) 664 (.ref 347)),(E P (p 135) 673 (.ref 354)),(E P (p 114) 682 (.ref 361)),(E P (p 122) 686 (I 1000000007 685)),(E P (p 65) 696 (.ref 368)),(E P (p 124) 704 (.ref 375)),(E P (p 123) 713 (.ref 382)),(E P (p 116) 719 (.ref 387)),(E P (p 106) 729 (.ref 394)),(E P (p 127) 737 (.ref 401)),(E P (p 92) 743 (.ref 406)),(E P (p 98) 755 (.ref 413)),(E P (p 105) 761 (.ref 418)),(E P (p 109) 767 (.ref 423)),(E P (p 110) 773 (.ref 428)),(E P (p 120) 779 (.ref 433)),(E P (p 78) 785 (.ref 438)),(E P (p 81) 798 (.ref 445)),(E P (p 89) 804 (.ref 450)),(E P (p 59) 808 (I 60 807)),(E P (p 53) 814 (.ref 455)),(E P (p 66) 820 (.ref 460)),(E P (p 68) 832 (.ref 467)),(E P (p 46) 842 (.ref 474)),(E P (p 27) 849 (.ref 481)),(E P (p 15) 855 (.ref 486)),(E P (p 35) 866 (.ref 493)),(E P (p 34) 874 (.ref 500)),(E P (p 29) 883 (.ref 507)),(E P (p 10) 897 (.ref 514)),(E P (p 9) 903 (.ref 519)),(E P (p 0) 911 (.ref 526)),(E P (p 11) 917 (.ref 531)),(E P (p 24) 923 (.ref 536)),(E P (p 36) 936 (.ref 543)),(E P (p 41) 947 (.ref 550)),(E P (p 44) 953 (.ref 555))]⟩ 90) ⟨[]⟩
noncomputable def T5:PO:=fun P=>Obj.mk .none none (.fields ⟨[(I 2 0),(I 0 0),(.ref 20),(I 4 0),(I 0 0),(.ref 33),(I 6 0),(I 0 0),(.ref 45),(I 8 0),(I 0 0),(.ref 57),(I 10 0),(I 0 0),(.ref 69),(I 14 0),(I 0 0),(.ref 81),(I 22 0),(I 0 0),(.ref 88),(I 24 0),(I 0 0),(.ref 95),(I 32 0),(I 0 0),(.ref 102),(I 34 0),(I 0 0),(.ref 109),(I 42 0),(I 0 0),(.ref 116),(I 56 0),(I 0 0),(.ref 123),(I 60 0),(I 0 0),(.ref 128),(I 63 0),(I 0 0),(.ref 135),(I 66 0),(I 0 0),(.ref 140),(I 69 0),(I 0 0),(.ref 147),(I 82 0),(I 0 0),(.ref 154),(I 87 0),(I 0 0),(.ref 161),(I 93 0),(I 0 0),(.ref 168),(I 96 0),(I 0 0),(.ref 175),(I 100 0),(I 0 0),(.ref 182),(I 102 0),(I 0 0),(.ref 187),(I 104 0),(I 0 0),(.ref 194),(I 106 0),(I 0 0),(.ref 199),(I 108 0),(I 0 0),(.ref 206),(I 119 0),(I 0 0),(.ref 211),(I 123 0),(I 0 0),(.ref 216),(I 126 0),(I 0 0),(.ref 221),(I 135 0),(I 0 0),(.ref 228),(I 141 0),(I 0 0),(.ref 235),(I 148 0),(I 0 0),(.ref 242),(I 169 0),(I 0 0),(.ref 280),(I 171 0),(I 0 0),(.ref 287),(I 176 0),(I 0 0),(.ref 292),(I 178 0),(I 0 0),(.ref 297),(I 180 0),(I 0 0),(.ref 304),(I 188 0),(I 0 0),(.ref 309),(I 193 0),(I 0 0),(.ref 316),(I 198 0),(I 0 0),(.ref 321),(I 202 0),(I 0 0),(.ref 326),(I 204 0),(I 0 0),(.ref 331),(I 212 0),(I 0 0),(.ref 336),(I 227 0),(I 0 0),(.ref 341),(I 231 0),(I 0 0),(.ref 346),(I 239 0),(I 0 0),(.ref 353),(I 241 0),(I 0 0),(.ref 360),(I 246 0),(I 0 0),(.ref 367),(I 253 0),(I 0 0),(.ref 374),(I 258 0),(I 0 0),(.ref 381),(I 262 0),(I 0 0),(.ref 386),(I 267 0),(I 0 0),(.ref 393),(I 272 0),(I 0 0),(.ref 400),(I 276 0),(I 0 0),(.ref 405),(I 285 0),(I 0 0),(.ref 412),(I 295 0),(I 0 0),(.ref 417),(I 311 0),(I 0 0),(.ref 422),(I 313 0),(I 0 0),(.ref 427),(I 318 0),(I 0 0),(.ref 432),(I 330 0),(I 0 0),(.ref 437),(I 332 0),(I 0 0),(.ref 444),(I 339 0),(I 0 0),(.ref 449),(I 344 0),(I 0 0),(.ref 454),(I 355 0),(I 0 0),(.ref 459),(I 358 0),(I 0 0),(.ref 466),(I 364 0),(I 0 0),(.ref 473),(I 368 0),(I 0 0),(.ref 480),(I 370 0),(I 0 0),(.ref 485),(I 374 0),(I 0 0),(.ref 492),(I 379 0),(I 0 0),(.ref 499),(I 383 0),(I 0 0),(.ref 506),(I 393 0),(I 0 0),(.ref 513),(I 400 0),(I 0 0),(.ref 518),(I 409 0),(I 0 0),(.ref 525),(I 414 0),(I 0 0),(.ref 530),(I 423 0),(I 0 0),(.ref 535),(I 437 0),(I 0 0),(.ref 542),(I 445 0),(I 0 0),(.ref 549),(I 449 0),(I 0 0),(.ref 554)]⟩) ⟨[]⟩
noncomputable abbrev l5:String:=SL.s6070975301684473832x10
noncomputable abbrev l6:String:=SL.s11030030927630378310x26
noncomputable abbrev l7:String:=SL.s10062305145149207511x16
noncomputable abbrev l8:String:=SL.s17162191345867700912x4
noncomputable def E3:PO:=fun P=>Obj.mk (.type l6) none (.fields ⟨[(.builtin l7),(.type l8)]⟩) ⟨[]⟩
noncomputable def Fl:Str:=⟨⟨[95,95,109,111,100,117,108,101,95,95]⟩⟩
noncomputable def N3:Str:=⟨⟨[95,95,113,117,97,108,110,97,109,101,95,95]⟩⟩
noncomputable def Fj:Str:=⟨⟨[95,95,102,105,114,115,116,108,105,110,101,110,111,95,95]⟩⟩
noncomputable def Fh:Str:=⟨⟨[95,95,115,116,97,116,105,99,95,97,116,116,114,105,98,117,116,101,115,95,95]⟩⟩
noncomputable def R9:Str:=⟨⟨[95,95,119,101,97,107,114,101,102,95,95]⟩⟩
noncomputable abbrev l9:String:=SL.s5946037652744460706x9
noncomputable abbrev Zk:String:=SL.s4278001404047624695x13
noncomputable abbrev R6:String:=SL.s2742458400755230247x6
noncomputable abbrev Zm:String:=SL.s4209523147560561109x18
noncomputable abbrev V1:String:=SL.s14755015743595814543x17
noncomputable abbrev Zi:String:=SL.s10220274742760427390x26
noncomputable abbrev l15:String:=SL.s4290257624100764138x5
noncomputable def hc (a:Nat):PO:=fun _=>Obj.mk (.type l15) none (.fields ⟨[(.ref a),(.ref a),(.ref a)]⟩) ⟨[]⟩
noncomputable abbrev l16:String:=SL.s4860613602091757760x24
noncomputable def hd (a:Nat):PO:=fun _=>Obj.mk (.type l6) none (.fields ⟨[(.builtin l16),(.ref a)]⟩) ⟨[]⟩
noncomputable def Jq:PO:=fun P=>Obj.mk (.type l0) none (.seq ⟨[(.ref 24)]⟩ 0) ⟨[]⟩
noncomputable def he (a:Str)(b:Nat)(c:Nat)(d:Nat)(e:Nat):PO:=fun _=>Obj.mk (.type l8) none (.cls (PySem.ClassData.mk a [(.ref 24)] [(.ref b),(.ref 24),(.type l5),(.type l9),(.type Zk),(.type R6)] c a Bool.true [] [] Bool.false none Bool.false)) ⟨[(some (.ref d)),none,(some (.str a e)),(some (.str a (e+8))),(some (.builtin Zm)),(some (.bool Bool.true))]⟩
noncomputable def hf (a:Str)(b:Nat)(c:Str)(d:Str)(e:Str)(f:Str):PO:=fun _=>Obj.mk (.type l0) none (.seq ⟨[(.str a b),(.str c (b+1)),(.str d (b+2)),(.str e (b+3)),(.str f (b+4))]⟩ 0) ⟨[]⟩
noncomputable def hg (a:Str)(b:Nat):PO:=fun _=>Obj.mk .none none (.func { fnOf a a (L2.ma (tp b)) (L2.lC (tp b)) (L2.jW (tp b)) .none .none .none .none none .none .none with globals:=0,builtins:=0 }) ⟨[]⟩
noncomputable def hh (a:Str)(b:Nat)(c:Str)(d:Nat)(e:Nat)(f:Nat)(g:Value)(h:Value)(i:Nat)(j:Nat):PO:=fun _=>Obj.mk (.type l1) none (.fields ⟨[(.str a b),(.str c (b+1)),(.str (p 200) (b+2)),(I d 0),(I e 0),(I 0 0),(I 0 0),(I 3 0),(.ref f),(.bool Bool.true),(I 181 0),(.ref (f+1)),.none,g,h,(.ref i),(I j 0),(I d 0),(.str (p 200) (j+1))]⟩) ⟨[]⟩
noncomputable abbrev RZ:String:=SL.s7174869446012820540x8
noncomputable def hi (a:Str)(b:Nat)(c:Str)(d:Nat)(e:Nat):PO:=fun _=>Obj.mk (.type RZ) none (.func (fnOf a a (L2.ma (tp b)) (L2.lC (tp b)) (L2.jW (tp b)) .none .none .none (.str c d) none (.ref e) .none)) ⟨[]⟩
noncomputable def hj (a:Str)(b:Nat)(c:Str):PO:=fun _=>Obj.mk (.type l0) none (.seq ⟨[(.str a b),(.str c (b+1))]⟩ 0) ⟨[]⟩
noncomputable def hk (a:Str)(b:Nat)(c:Str)(d:Str)(e:Str)(f:Str)(g:Str):PO:=fun _=>Obj.mk (.type l0) none (.seq ⟨[(.str a b),(.str c (b+1)),(.str d (b+2)),(.str e (b+3)),(.str f (b+4)),(.str g (b+5))]⟩ 0) ⟨[]⟩
noncomputable def hl (a:Str)(b:Nat)(c:Str)(d:Str)(e:Str)(f:Str)(g:Str)(h:Str):PO:=fun _=>Obj.mk (.type l0) none (.seq ⟨[(.str a b),(.str c (b+1)),(.str d (b+2)),(.str e (b+3)),(.str f (b+4)),(.str g (b+5)),(.str h (b+6))]⟩ 0) ⟨[]⟩
noncomputable def hm (a:Str)(b:Nat)(c:Str)(d:Str)(e:Str):PO:=fun _=>Obj.mk (.type l0) none (.seq ⟨[(.str a b),(.str c (b+1)),(.str d (b+2)),(.str e (b+3))]⟩ 0) ⟨[]⟩
noncomputable def hn (a:Str)(b:Nat)(c:Str)(d:Str):PO:=fun _=>Obj.mk (.type l0) none (.seq ⟨[(.str a b),(.str c (b+1)),(.str d (b+2))]⟩ 0) ⟨[]⟩
noncomputable def Me:Str:=⟨⟨[70,114,97,109,101,46,95,95,105,110,105,116,95,95]⟩⟩
noncomputable def ho (a:Str)(b:Str)(c:Nat):PO:=fun _=>Obj.mk .none none (.func { fnOf a b (L2.ma (L2.inClass (tp 39) c)) (L2.lC (L2.inClass (tp 39) c)) (L2.jW (L2.inClass (tp 39) c)) .none .none .none .none none .none .none with globals:=0,builtins:=0 }) ⟨[]⟩
noncomputable def hp (a:Str)(b:Str)(c:Nat)(d:Nat):PO:=fun _=>Obj.mk (.type RZ) none (.func (fnOf a b (L2.ma (L2.inClass (tp 39) c)) (L2.lC (L2.inClass (tp 39) c)) (L2.jW (L2.inClass (tp 39) c)) .none .none .none (.str (p 162) 510) none (.ref d) .none)) ⟨[]⟩
noncomputable def MR:Str:=⟨⟨[70,114,97,109,101,46,109,105,115,115,101,100]⟩⟩
noncomputable def MM:Str:=⟨⟨[70,114,97,109,101,46,99,111,117,110,116,115]⟩⟩
noncomputable def Ma:Str:=⟨⟨[70,114,97,109,101,46,119,101,105,103,104,116,115]⟩⟩
noncomputable def Pp:Str:=⟨⟨[95,95,100,105,99,116,95,95]⟩⟩
noncomputable abbrev l18:String:=SL.s11443829558043349243x14
noncomputable abbrev l19:String:=SL.s6511155373996960695x17
noncomputable abbrev l20:String:=SL.s12411053484034534018x21
noncomputable def T0:PB:=(nN boot_o_0 (nN boot_o_1 (nN o24 (nN boot_o_7 (nN (fun P=>Obj.mk (.type l0) none (.seq ⟨[(.type l5)]⟩ 0) ⟨[]⟩) (nN o0 (nN (hd 61) (nN (hg (p 72) 16) (nA (hp (p 97) MR 1 254) (nL o0)) (nL o0)) (nN (hj (p 28) 444 (p 156)) (nL o2) (nL o2))) (nN (hh (p 121) 294 (p 121) 24 3 90 (.ref 92) (.ref 93) 94 303) (nN o0 (nA (hh (p 117) 577 (p 117) 171 3 282 (.ref 284) (.ref 285) 286 586) (nL (hi (p 36) 89 (p 75) 833 542))) (nL o2)) (nN o0 (nL o0) (nL (hg (p 27) 79))))) (nN o0 (nN o0 (nN o2 (nA (fun P=>Obj.mk (.type l3) none (.dict ⟨[(E P Fl 519 (.str (p 162) 510)),(E P Fj 523 (I 148 522)),(E P (p 163) 529 (.ref 248)),(E P (p 97) 537 (.ref 255)),(E P (p 99) 545 (.ref 262)),(E P (p 56) 554 (.ref 269)),(E P Fh 563 (.ref 270)),(E P Pp 565 (.ref 273)),(E P R9 567 (.ref 274)),(E P q5 568 .none)]⟩ 4) ⟨[]⟩) (nL o0)) (nL (hg (p 127) 62))) (nN (hi (p 70) 31 (p 172) 424 206) (nL (hg (p 143) 50)) (nL (hk (p 25) 824 (p 63) (p 56) (p 71) (p 30) (p 18))))) (nN o0 (nN (hh (p 171) 414 (p 171) 96 3 170 (.ref 172) (.ref 173) 174 421) (nL (hg (p 150) 44)) (nL (hg (p 120) 68))) (nN (fun P=>Obj.mk (.type l3) none (.dict ⟨[(E P Fl 519 (.str (p 162) 510)),(E P N3 521 (.str (p 96) 520)),(E P Fj 523 (I 148 522)),(E P (p 163) 529 (.ref 248)),(E P (p 97) 537 (.ref 255)),(E P (p 99) 545 (.ref 262)),(E P (p 56) 554 (.ref 269)),(E P Fh 563 (.ref 270))]⟩ 8) ⟨[]⟩) (nL (hh (p 65) 687 (p 65) 246 2 362 (.ref 364) (.ref 365) 366 694)) (nL o2))))) (nN (fun P=>Obj.mk (.type l3) none (.dict ⟨[(E P Fl 196 (.str (p 198) 187)),(E P Fj 200 (I 2 199)),(E P Fh 201 (.ref 22)),(E P R9 203 (.ref 25)),(E P q5 204 .none)]⟩ 3) ⟨[]⟩) (nN (hd 37) (nN o0 (nN (hh (p 58) 356 (p 58) 63 2 130 (.ref 132) (.ref 133) 134 361) (nA o0 (nL (hi (p 9) 85 (p 75) 833 518))) (nL o0)) (nN (hh (p 64) 449 (p 64) 106 1 196 .none .none 198 452) (nL (hi (p 140) 48 (p 162) 510 326)) (nL (hi (p 53) 74 (p 91) 805 454)))) (nN (hi (p 179) 11 (p 194) 271 102) (nN (hg (p 168) 24) (nA o2 (nL o0)) (nL (hi (p 109) 66 (p 137) 683 422))) (nN o2 (nL (hg (p 114) 54)) (nL o0)))) (nN o0 (nN (hg (p 108) 9) (nN (hn (p 25) 386 (p 28) (p 156)) (nA (hg (p 101) 40) (nL (hh (p 24) 918 (p 24) 423 3 532 .none .none 534 921))) (nL o0)) (nN (hg (p 88) 34) (nL o0) (nL o0))) (nN o2 (nN (hi (p 159) 27 (p 172) 424 182) (nL o0) (nL o0)) (nN (hh (p 163) 524 Me 150 4 244 .none .none 246 527) (nL (hi (p 124) 58 (p 137) 683 374)) (nL (hn (p 25) 878 (p 12) (p 28)))))))) (nN o0 (nN o2 (nN o0 (nN o0 (nN o2 (nA o0 (nL o0)) (nL (hi (p 116) 60 (p 137) 683 386))) (nN (hi (p 166) 29 (p 172) 424 194) (nL o0) (nL o0))) (nN (hj (p 180) 309 (p 181)) (nN o0 (nA (hg (p 149) 42) (nL o0)) (nL o0)) (nN (hg (p 158) 36) (nL o0) (nL o2)))) (nN (hd 49) (nN o0 (nN (hh (p 125) 372 (p 125) 69 1 142 (.ref 144) (.ref 145) 146 380) (nA (hc 272) (nL (hi (p 11) 87 (p 75) 833 530))) (nL o2)) (nN (hh (p 167) 469 (p 167) 119 3 208 .none .none 210 472) (nL o2) (nL (hi (p 68) 76 (p 91) 805 466)))) (nN (hg (p 186) 13) (nN (hn (p 25) 429 (p 156) (p 30)) (nL o2) (nL o2)) (nN (hb 242 239 (p 162) 510) (nL (hj (p 39) 700 (p 12))) (nL (hh (p 34) 867 (p 34) 379 2 494 (.ref 496) (.ref 497) 498 872)))))) (nN (hd 24) (nN o0 (nN (hd 73) (nN (hg (p 67) 18) (nA (ho (p 56) Ma 3) (nL o0)) (nL o0)) (nN (fun P=>Obj.mk (.type l0) none (.seq ⟨[(.str (p 1) 458),(.str (p 25) 459),(.str (p 69) 460),(.str (p 48) 461),(.str (p 28) 462),(.str (p 156) 463),(.str (p 30) 464),(.str (p 18) 465)]⟩ 0) ⟨[]⟩) (nL (hh (p 141) 641 (p 141) 204 2 328 .none .none 330 644)) (nL (hh (p 66) 815 (p 66) 355 2 456 .none .none 458 818)))) (nN o0 (nN o2 (nA o0 (nL (hi (p 44) 91 (p 75) 833 554))) (nL (hh (p 110) 768 (p 110) 313 3 424 .none .none 426 771))) (nN (hh (p 3) 500 (p 3) 141 1 230 (.ref 232) (.ref 233) 234 507) (nL o2) (nL (hg (p 35) 81))))) (nN o0 (nN o2 (nN (hi (p 176) 21 (p 175) 370 154) (nA o2 (nL (hl (p 25) 927 (p 37) (p 38) (p 17) (p 33) (p 39) (p 40)))) (nL (hg (p 98) 64))) (nN o2 (nL (hi (p 129) 52 (p 162) 510 346)) (nL o0))) (nN (hh (p 85) 340 (p 85) 56 3 118 (.ref 120) (.ref 121) 122 347) (nN (hh (p 153) 435 (p 153) 102 2 184 .none .none 186 438) (nL (hg (p 138) 46)) (nL (hg (p 81) 70))) (nN (hj (p 164) 533 (p 94)) (nL o0) (nL (hi (p 29) 83 (p 75) 833 506)))))))) (nN boot_o_5 (nN boot_o_9 (nN (fun P=>Obj.mk (.type l3) none (.dict ⟨[(E P Fl 196 (.str (p 198) 187)),(E P N3 198 (.str (p 193) 197)),(E P Fj 200 (I 2 199)),(E P Fh 201 (.ref 22))]⟩ 4) ⟨[]⟩) (nN (ha (p 177) 209 4 31) (nN E3 (nN (hi (p 72) 16 (p 192) 338 128) (nA o2 (nL (hh (p 10) 884 (p 10) 393 2 508 (.ref 510) (.ref 511) 512 895))) (nL (hg (p 116) 60))) (nN (hg (p 166) 29) (nL (hh (p 112) 629 (p 112) 198 4 318 .none .none 320 632)) (nL (hh (p 89) 799 (p 89) 339 2 446 .none .none 448 802)))) (nN o0 (nN (hh (p 142) 392 (p 142) 87 2 156 (.ref 158) (.ref 159) 160 398) (nA o0 (nL o2)) (nL (hh (p 105) 756 (p 105) 295 4 414 .none .none 416 759))) (nN (hf (p 28) 492 (p 156) (p 160) (p 126) (p 157)) (nL (hh (p 135) 665 (p 135) 239 3 348 (.ref 350) (.ref 351) 352 671)) (nL (hi (p 27) 79 (p 75) 833 480))))) (nN (he (p 173) 49 48 40 223) (nN (hh (p 195) 275 (p 195) 14 2 76 (.ref 78) (.ref 79) 80 283) (nN o0 (nA (fun P=>Obj.mk (.type V1) none (.fields ⟨[(.str Pp 564),(.ref 272),(.builtin l19),(.builtin l20)]⟩) ⟨[]⟩) (nL (hg (p 11) 87))) (nL (hi (p 127) 62 (p 137) 683 400))) (nN o2 (nL (hi (p 143) 50 (p 162) 510 336)) (nL (hg (p 68) 76)))) (nN (hl (p 70) 328 (p 187) (p 181) (p 18) (p 188) (p 189) (p 190)) (nN o0 (nL (hi (p 150) 44 (p 162) 510 304)) (nL (hi (p 120) 68 (p 137) 683 432))) (nN (fun P=>Obj.mk .none none (.fields ⟨[(I 150 0),(I 4 0),(.ref 247),(I 160 0),(I 4 0),(.ref 254),(I 163 0),(I 4 0),(.ref 261),(I 166 0),(I 4 0),(.ref 268)]⟩) ⟨[]⟩) (nL o0) (nL o0))))) (nN (fun P=>Obj.mk (.type V1) none (.fields ⟨[(.str R9 202),(.ref 24),(.builtin Zi),.none]⟩) ⟨[]⟩) (nN E3 (nN (he (p 154) 73 72 64 255) (nN o0 (nA (hn (p 164) 549 (p 84) (p 2)) (nL o2)) (nL (hh (p 106) 720 (p 106) 267 2 388 (.ref 390) (.ref 391) 392 727))) (nN o0 (nL o2) (nL o2))) (nN o2 (nN (hi (p 168) 24 (p 170) 401 168) (nA (hh (p 100) 595 (p 100) 178 2 294 .none .none 296 598) (nL (hg (p 44) 91))) (nL o2)) (nN o0 (nL (hi (p 114) 54 (p 162) 510 360)) (nL (hf (p 55) 859 (p 56) (p 16) (p 20) (p 18)))))) (nN (ha (p 60) 241 8 55) (nN (hi (p 108) 9 (p 194) 271 88) (nN (hg (p 176) 21) (nA (hi (p 101) 40 (p 162) 510 280) (nL o0)) (nL (hk (p 93) 747 (p 90) (p 103) (p 104) (p 2) (p 39)))) (nN (hi (p 88) 34 (p 169) 475 216) (nL (hg (p 129) 52)) (nL (hh (p 46) 835 (p 46) 364 2 468 (.ref 470) (.ref 471) 472 840)))) (nN o0 (nN o2 (nL (hn (p 55) 623 (p 83) (p 39))) (nL (hl (p 82) 789 (p 83) (p 57) (p 84) (p 42) (p 86) (p 87)))) (nN o0 (nL o2) (nL (hg (p 29) 83))))))) (nN o3 (nN (hb 20 17 (p 198) 187) (nN (he (p 177) 37 36 28 207) (nN (ha (p 154) 257 10 67) (nN o0 (nA (hh (p 99) 538 MM 163 2 256 (.ref 258) (.ref 259) 260 543) (nL (hg (p 9) 85))) (nL o2)) (nN o2 (nL (hg (p 140) 48)) (nL (hg (p 53) 74)))) (nN (hg (p 179) 11) (nN (hf (p 1) 406 (p 28) (p 30) (p 18) (p 42)) (nA (hi (p 149) 42 (p 162) 510 292) (nL (hh (p 41) 937 (p 41) 445 3 544 (.ref 546) (.ref 547) 548 945))) (nL (hg (p 109) 66))) (nN (hi (p 158) 36 (p 169) 475 228) (nL (hn (p 39) 677 (p 131) (p 70))) (nL (hh (p 15) 850 (p 15) 370 2 482 .none .none 484 853))))) (nN E3 (nN (hj (p 20) 289 (p 21)) (nN o0 (nA o0 (nL o2)) (nL (hh (p 92) 738 (p 92) 276 3 402 .none .none 404 741))) (nN o0 (nL (hh (p 128) 653 (p 128) 227 3 338 .none .none 340 656)) (nL o2))) (nN (hi (p 186) 13 (p 194) 271 116) (nN (hg (p 159) 27) (nL (hh (p 151) 614 (p 151) 188 3 306 .none .none 308 617)) (nL (hh (p 78) 780 (p 78) 330 5 434 .none .none 436 783))) (nN o2 (nL (hg (p 124) 58)) (nL o0))))) (nN E3 (nN (ha (p 173) 225 6 43) (nN o2 (nN (hi (p 67) 18 (p 192) 338 140) (nA (hp (p 56) Ma 3 268) (nL (hh (p 0) 904 (p 0) 409 1 520 (.ref 522) (.ref 523) 524 909))) (nL (hj (p 57) 733 (p 39)))) (nN (hg (p 70) 31) (nL o0) (nL o0))) (nN (hh (p 182) 314 (p 182) 34 2 104 (.ref 106) (.ref 107) 108 322) (nN o0 (nL (hl (p 93) 604 (p 95) (p 12) (p 39) (p 126) (p 69) (p 83))) (nL o0)) (nN o0 (nL o0) (nL (hi (p 35) 81 (p 75) 833 492))))) (nN (he (p 60) 61 60 52 239) (nN o0 (nN o2 (nA o0 (nL (hg (p 36) 89))) (nL (hi (p 98) 64 (p 137) 683 412))) (nN (hh (p 73) 483 (p 73) 126 2 218 .none .none 220 486) (nL o2) (nL (fun P=>Obj.mk (.type l0) none (.seq ⟨[(.str (p 12) 846)]⟩ 0) ⟨[]⟩)))) (nN o0 (nN o0 (nL (hi (p 138) 46 (p 162) 510 316)) (nL (hi (p 81) 70 (p 137) 683 444))) (nN (ho (p 97) MR 1) (nL (hh (p 123) 705 (p 123) 258 3 376 (.ref 378) (.ref 379) 380 711)) (nL o2)))))))) (nN boot_o_2 (nN boot_o_4 (nN boot_o_8 (nN E3 (nN o2 (nN Jq (nN (hh (p 72) 350 (p 72) 60 2 125 .none .none 127 353) (nA o0 (nL (hg (p 10) 84))) (nL o2)) (nN o0 (nL (hg (p 112) 47)) (nL (hg (p 89) 71)))) (nN (hi (p 121) 10 (p 194) 271 95) (nN (hg (p 142) 22) (nA (hi (p 117) 41 (p 162) 510 287) (nL o0)) (nL (hg (p 105) 65))) (nN o2 (nL (hg (p 135) 53)) (nL (hh (p 27) 843 (p 27) 368 1 475 (.ref 477) (.ref 478) 479 847))))) (nN (fun P=>Obj.mk (.type l3) none (.dict ⟨[(E P Fl 230 (.str (p 198) 187)),(E P Fj 234 (I 6 233)),(E P Fh 235 (.ref 47)),(E P q5 236 .none)]⟩ 2) ⟨[]⟩) (nN (hg (p 195) 8) (nN (hf (p 25) 375 (p 12) (p 69) (p 28) (p 156)) (nA (fun P=>Obj.mk (.type l8) none (.cls (PySem.ClassData.mk (p 96) [(.type R6)] [(.ref 272),(.type R6)] 271 (p 96) Bool.true [] [] Bool.false none Bool.false)) ⟨[none,none,(some (.str (p 96) 512)),(some (.str (p 96) 520)),(some (.builtin l18)),(some (.bool Bool.true))]⟩) (nL o2)) (nL (hh (p 127) 730 (p 127) 272 2 395 (.ref 397) (.ref 398) 399 735))) (nN o0 (nL (hh (p 143) 647 (p 143) 212 4 333 .none .none 335 650)) (nL o0))) (nN o2 (nN (hi (p 171) 25 (p 170) 401 175) (nL (hh (p 150) 601 (p 150) 180 2 299 (.ref 301) (.ref 302) 303 611)) (nL (hh (p 120) 774 (p 120) 318 3 429 .none .none 431 777))) (nN o0 (nL (hi (p 65) 57 (p 137) 683 367)) (nL (hj (p 39) 870 (p 57))))))) (nN (fun P=>Obj.mk (.type l8) none (.cls (PySem.ClassData.mk (p 193) [(.type l5)] [(.ref 24),(.type l5),(.type l9),(.type Zk),(.type R6)] 23 (p 193) Bool.true [] [(.ref 37),(.ref 49),(.ref 61),(.ref 73)] Bool.false none Bool.false)) ⟨[(some (.ref 15)),none,(some (.str (p 193) 189)),(some (.str (p 193) 197)),(some (.builtin Zm)),(some (.bool Bool.true))]⟩) (nN Jq (nN (fun P=>Obj.mk (.type l3) none (.dict ⟨[(E P Fl 262 (.str (p 198) 187)),(E P Fj 266 (I 10 265)),(E P Fh 267 (.ref 71)),(E P q5 268 .none)]⟩ 2) ⟨[]⟩) (nN (hi (p 58) 17 (p 192) 338 135) (nA o2 (nL o0)) (nL (hg (p 106) 61))) (nN (hi (p 64) 30 (p 172) 424 199) (nL o0) (nL o0))) (nN o0 (nN (hh (p 168) 403 (p 168) 93 4 163 (.ref 165) (.ref 166) 167 411) (nA (hg (p 100) 43) (nL o2)) (nL o0)) (nN (hm (p 1) 503 (p 2) (p 30) (p 152)) (nL (hh (p 114) 674 (p 114) 241 2 355 (.ref 357) (.ref 358) 359 680)) (nL o2)))) (nN o2 (nN (hh (p 108) 286 (p 108) 22 2 83 (.ref 85) (.ref 86) 87 291) (nN o0 (nA (hh (p 101) 571 (p 101) 169 2 277 .none .none 279 574) (nL (hi (p 24) 88 (p 75) 833 535))) (nL o2)) (nN (hh (p 88) 477 (p 88) 123 2 213 .none .none 215 480) (nL o2) (nL (hg (p 46) 78)))) (nN (hm (p 25) 343 (p 30) (p 152) (p 71)) (nN o0 (nL o2) (nL o2)) (nN (hp (p 163) Me 0 247) (nL o0) (nL o0)))))) (nN T5 (nN (ha (p 193) 191 2 18) (nN (fun P=>Obj.mk (.type l3) none (.dict ⟨[(E P Fl 214 (.str (p 198) 187)),(E P Fj 218 (I 4 217)),(E P Fh 219 (.ref 35)),(E P q5 220 .none)]⟩ 2) ⟨[]⟩) (nN o2 (nN (hj (p 20) 359 (p 21)) (nA (ho (p 99) MM 2) (nL o2)) (nL o0)) (nN o0 (nL o2) (nL o2))) (nN o0 (nN o2 (nA (hh (p 149) 589 (p 149) 176 1 289 .none .none 291 592) (nL (hg (p 41) 90))) (nL o2)) (nN (hh (p 158) 489 (p 158) 135 3 223 (.ref 225) (.ref 226) 227 497) (nL o2) (nL (hg (p 15) 80))))) (nN Jq (nN o2 (nN (hi (p 125) 20 (p 175) 370 147) (nA (hd 272) (nL o0)) (nL (hg (p 92) 63))) (nN (hi (p 167) 32 (p 172) 424 211) (nL (hg (p 128) 51)) (nL o0))) (nN (hh (p 186) 325 (p 186) 42 2 111 (.ref 113) (.ref 114) 115 335) (nN o0 (nL (hg (p 151) 45)) (nL (hg (p 78) 69))) (nN o0 (nL o0) (nL (hi (p 34) 82 (p 75) 833 499)))))) (nN Jq (nN o2 (nN o0 (nN (hh (p 67) 364 (p 67) 66 2 137 .none .none 139 367) (nA (hh (p 56) 546 Ma 166 2 263 (.ref 265) (.ref 266) 267 552) (nL (hg (p 0) 86))) (nL o2)) (nN o0 (nL (hi (p 141) 49 (p 162) 510 331)) (nL (hi (p 66) 75 (p 91) 805 459)))) (nN (hg (p 182) 12) (nN (hm (p 25) 417 (p 28) (p 30) (p 126)) (nL o2) (nL (hi (p 110) 67 (p 137) 683 427))) (nN (hi (p 3) 37 (p 169) 475 235) (nL (hm (p 93) 690 (p 94) (p 95) (p 2))) (nL (hh (p 35) 856 (p 35) 374 2 487 (.ref 489) (.ref 490) 491 864))))) (nN (fun P=>Obj.mk (.type l3) none (.dict ⟨[(E P Fl 246 (.str (p 198) 187)),(E P Fj 250 (I 8 249)),(E P Fh 251 (.ref 59)),(E P q5 252 .none)]⟩ 2) ⟨[]⟩) (nN (hk (p 20) 297 (p 21) (p 132) (p 130) (p 99) (p 181)) (nN o0 (nA (hk (p 119) 580 (p 147) (p 148) (p 71) (p 42) (p 39)) (nL o0)) (nL (hh (p 98) 744 (p 98) 285 3 407 (.ref 409) (.ref 410) 411 753))) (nN (hg (p 73) 35) (nL o0) (nL o2))) (nN (hi (p 85) 15 (p 192) 338 123) (nN (hi (p 153) 28 (p 172) 424 187) (nL (hh (p 138) 620 (p 138) 193 1 311 (.ref 313) (.ref 314) 315 626)) (nL (hh (p 81) 786 (p 81) 332 3 439 (.ref 441) (.ref 442) 443 796))) (nN o0 (nL (hg (p 123) 59)) (nL o0))))))) (nN boot_o_6 (nN boot_o_10 (nN o0 (nN (hb 33 30 (p 198) 187) (nN (fun P=>Obj.mk (.type l3) none (.dict ⟨[(E P Fl 262 (.str (p 198) 187)),(E P N3 264 (.str (p 154) 263)),(E P Fj 266 (I 10 265)),(E P Fh 267 (.ref 71))]⟩ 4) ⟨[]⟩) (nN o0 (nA (hj (p 164) 541 (p 94)) (nL (hi (p 10) 84 (p 75) 833 513))) (nL (hh (p 116) 714 (p 116) 262 3 383 .none .none 385 717))) (nN (hh (p 166) 441 (p 166) 104 2 189 (.ref 191) (.ref 192) 193 446) (nL (hi (p 112) 47 (p 162) 510 321)) (nL (hi (p 89) 71 (p 137) 683 449)))) (nN o2 (nN (hi (p 142) 22 (p 175) 370 161) (nA o2 (nL (hf (p 25) 940 (p 37) (p 42) (p 43) (p 28)))) (nL (hi (p 105) 65 (p 137) 683 417))) (nN o0 (nL (hi (p 135) 53 (p 162) 510 353)) (nL o0)))) (nN (hc 49) (nN (hi (p 195) 8 (p 194) 271 81) (nN (hg (p 125) 20) (nA (fun P=>Obj.mk (.type V1) none (.fields ⟨[(.str R9 566),(.ref 272),(.builtin Zi),.none]⟩) ⟨[]⟩) (nL (hh (p 11) 912 (p 11) 414 3 527 .none .none 529 915))) (nL o0)) (nN (hg (p 167) 32) (nL o0) (nL (hh (p 68) 821 (p 68) 358 3 461 (.ref 463) (.ref 464) 465 830)))) (nN o0 (nN o2 (nL o0) (nL o0)) (nN (ha (p 96) 514 148 240) (nL o2) (nL (hg (p 34) 82)))))) (nN (hc 24) (nN (fun P=>Obj.mk (.type l3) none (.dict ⟨[(E P Fl 230 (.str (p 198) 187)),(E P N3 232 (.str (p 173) 231)),(E P Fj 234 (I 6 233)),(E P Fh 235 (.ref 47))]⟩ 4) ⟨[]⟩) (nN (hc 73) (nN o2 (nA o0 (nL (hj (p 1) 907 (p 2)))) (nL (hi (p 106) 61 (p 137) 683 393))) (nN o2 (nL (hg (p 141) 49)) (nL (hg (p 66) 75)))) (nN (hf (p 130) 317 (p 132) (p 183) (p 185) (p 181)) (nN o0 (nA (hi (p 100) 43 (p 162) 510 297) (nL (hh (p 44) 948 (p 44) 449 1 551 .none .none 553 951))) (nL (hg (p 110) 67))) (nN (hg (p 3) 37) (nL o0) (nL o0)))) (nN (hb 57 54 (p 198) 187) (nN o0 (nN (hh (p 176) 383 (p 176) 82 2 149 (.ref 151) (.ref 152) 153 389) (nA o0 (nL o2)) (nL o0)) (nN o0 (nL (hh (p 129) 659 (p 129) 231 2 343 .none .none 345 662)) (nL (hi (p 46) 78 (p 75) 833 473)))) (nN (hg (p 85) 15) (nN (hg (p 153) 28) (nL o0) (nL o0)) (nN o2 (nL (hn (p 93) 708 (p 94) (p 2))) (nL (hh (p 29) 875 (p 29) 383 1 501 (.ref 503) (.ref 504) 505 881))))))) (nN o7 (nN o0 (nN (hc 37) (nN (hb 69 66 (p 198) 187) (nN (hg (p 58) 17) (nA (hp (p 99) MM 2 261) (nL (hh (p 9) 898 (p 9) 400 2 515 .none .none 517 901))) (nL (hm (p 93) 723 (p 26) (p 39) (p 126)))) (nN (hg (p 64) 30) (nL (hh (p 140) 635 (p 140) 202 3 323 .none .none 325 638)) (nL (hh (p 53) 809 (p 53) 344 2 451 .none .none 453 812)))) (nN (hh (p 179) 306 (p 179) 32 2 97 (.ref 99) (.ref 100) 101 311) (nN o0 (nA o0 (nL (hi (p 41) 90 (p 75) 833 549))) (nL (hh (p 109) 762 (p 109) 311 2 419 .none .none 421 765))) (nN o0 (nL o0) (nL (hi (p 15) 80 (p 75) 833 485))))) (nN (fun P=>Obj.mk (.type l3) none (.dict ⟨[(E P Fl 246 (.str (p 198) 187)),(E P N3 248 (.str (p 60) 247)),(E P Fj 250 (I 8 249)),(E P Fh 251 (.ref 59))]⟩ 4) ⟨[]⟩) (nN o0 (nN o2 (nA o2 (nL (hg (p 24) 88))) (nL (hi (p 92) 63 (p 137) 683 405))) (nN o2 (nL (hi (p 128) 51 (p 162) 510 341)) (nL (hj (p 45) 838 (p 33))))) (nN o0 (nN (hh (p 159) 426 (p 159) 100 3 177 (.ref 179) (.ref 180) 181 432) (nL (hi (p 151) 45 (p 162) 510 309)) (nL (hi (p 78) 69 (p 137) 683 437))) (nN (ho (p 163) Me 0) (nL (hh (p 124) 697 (p 124) 253 1 369 (.ref 371) (.ref 372) 373 702)) (nL o2))))) (nN (fun P=>Obj.mk (.type l3) none (.dict ⟨[(E P Fl 214 (.str (p 198) 187)),(E P N3 216 (.str (p 177) 215)),(E P Fj 218 (I 4 217)),(E P Fh 219 (.ref 35))]⟩ 4) ⟨[]⟩) (nN (hb 45 42 (p 198) 187) (nN (hf (p 20) 278 (p 21) (p 196) (p 197) (p 69)) (nN o0 (nA (fun P=>Obj.mk (.type l0) none (.seq ⟨[(.str (p 102) 555),(.str (p 165) 556),(.str (p 12) 557),(.str (p 57) 558),(.str (p 95) 559),(.str (p 48) 560),(.str (p 119) 561),(.str (p 144) 562)]⟩ 0) ⟨[]⟩) (nL (hi (p 0) 86 (p 75) 833 525))) (nL o0)) (nN (hh (p 70) 455 (p 70) 108 1 201 (.ref 203) (.ref 204) 205 466) (nL o2) (nL o2))) (nN (hi (p 182) 12 (p 194) 271 109) (nN (hg (p 171) 25) (nL o0) (nL o2)) (nN E3 (nL (hg (p 65) 57)) (nL o0)))) (nN (hc 61) (nN (hg (p 121) 10) (nN (hn (p 126) 395 (p 25) (p 2)) (nA (hg (p 117) 41) (nL (hh (p 36) 924 (p 36) 437 3 537 (.ref 539) (.ref 540) 541 934))) (nL o0)) (nN (hi (p 73) 35 (p 169) 475 221) (nL (hn (p 39) 668 (p 131) (p 132))) (nL o0))) (nN o2 (nN o2 (nL o0) (nL o0)) (nN (hh (p 97) 530 MR 160 2 249 (.ref 251) (.ref 252) 253 535) (nL (hi (p 123) 59 (p 137) 683 381)) (nL (fun P=>Obj.mk (.type l0) none (.seq ⟨[(.str (p 25) 887),(.str (p 48) 888),(.str (p 1) 889),(.str (p 28) 890),(.str (p 30) 891),(.str (p 18) 892),(.str (p 33) 893),(.str (p 40) 894)]⟩ 0) ⟨[]⟩))))))))))
noncomputable def Y8 (w:PySem.World)(os:PySem.OsState):PySem.W.SharedT:=PySem.W.SharedT.mk (T0 w.params) 556 LF (Array.mk []) (PySem.Drawn.mk 0 0 0 0) 954 os
noncomputable def Tf:PB:=T0
noncomputable def R7 (w:PySem.World)(os:PySem.OsState):PySem.W.SharedT:=PySem.W.SharedT.mk (Tf w.params) 556 LF (Array.mk []) (PySem.Drawn.mk 0 0 0 0) 954 os
abbrev AS:List PySem.Addr:=List.range' 0 16++[22,23,24,25,28,35,36,37,40,47,48,49,52,59,60,61,64,71,72,73]++List.range' 76 161++List.range' 244 31++List.range' 277 279
noncomputable def KF:Params->Frag:=fun P=>AS.map fun a=>(a,((Tf P).get a).getD (o0 P))
abbrev keep:List Nat:=[1,2,3,4,5,7,8,9,10,11,12,13,15,16,17,18,20,21,22,24,25,27,28,29,30,31,32,34,35,36,37,39,40,41,42,43,44,45,46,47,48,49,50,51,52,53,54,56,57,58,59,60,61,62,63,64,65,66,67,68,69,70,71,73,74,75,76,78,79,80,81,82,83,84,85,86,87,88,89,90,91]
abbrev loose:List PySem.Str:=[]
noncomputable abbrev MY:List PySem.Stmt:=((behindTheImports TW).drop 0).take 92
abbrev PL:PySem.Pos:=(PySem.Pos.mk 449 0 475 40)
theorem pre (w:World):(fun os=>topGo treeTable TW w m0 ann kA ⟨boot_heap w.params,Array.mk [],boot_drawn,boot_toks,os⟩ (topStub TW))=fun os=>some ((Zc w os).abs,⟨denote treeTable cE,cE,Pa,Bs⟩):=by
 rw[te15667345088766844465,te14364793385576792824,te11892475500146522536]
 kernel_rfl
theorem uf (w:World):(fun os=>segRunT treeTable TW w m0 ann 1 (kB+1) (Zc w os) (blockOf (behindTheImports TW) env cE Pa Bs))=fun os=>some (Flow.next,OV w os,cE,posB):=by
 rw[te10110043849684766642,te14364793385576792824]
 kernel_rfl
theorem pc0 (w:World):(fun os=>segRunT treeTable TW w m0 ann 1 3605 (OV w os) (piecesOf MY env cE posB Bs))=fun os=>some (Flow.next,Y8 w os,cE,PL):=by
 rw[te10110043849684766642,te14364793385576792824]
 kernel_rfl
theorem fin (w:World):(fun os=>topRun treeTable TW w m0 ann (kF+1) (Y8 w os).abs ⟨doneF Flow.next,cE,PL,Bs⟩)=fun os=>some (R7 w os).abs:=by
 rw[te14082659384304107361,te14364793385576792824]
 kernel_rfl
theorem cut:behindTheImports TW=MY++[]:=by kernel_rfl
theorem rest (w:World)(os:OsState):topRun treeTable TW w m0 ann (3605+(kF+1)) (OV w os).abs (restOf (behindTheImports TW) env cE posB Bs)=some (R7 w os).abs:=by
 have h:topRun treeTable TW w m0 ann (3605+(kF+1)) (OV w os).abs (restOf (MY++[]) env cE posB Bs)=some (R7 w os).abs:=piece_app (segRun_of (i4 (pc0 w) os)) (piece_nil (i4 (fin w) os));exact(cQ (fun b=>topRun treeTable TW w m0 ann (3605+(kF+1)) (OV w os).abs (restOf b env cE posB Bs)) cut).trans h
theorem run (w:World)(os:OsState):topRun treeTable TW w m0 ann (kA+(kB+1+(3605+(kF+1)))) ⟨boot_heap w.params,Array.mk [],boot_drawn,boot_toks,os⟩ (topStub TW)=some (R7 w os).abs:=go_top (i4 (pre w) os) (piece_block (segRun_of (i4 (uf w) os)) (rest w os))
theorem opn:opening TW=plainProg TW.main.scope.names:=by
 kernel_rfl
theorem fence (s:Shared):fenceModules? TW s=some s:=by
 try rw[te14289696077712309145]
 kernel_rfl
theorem size (w:World):((boot_heap w.params).isNs mainGlobals && (Array.mk []:Array GenState).size == 0,(boot_heap w.params).objs.size,(boot_heap w.params).nsMap mainGlobals "__annotations__")=(true,m0,ann):=by
 try rw[te8920871248978507458]
 kernel_rfl
noncomputable abbrev Q:PySem.Program:=view TW keep
noncomputable def Hf (P:Params):Heap:=absHeap (Tf P) 556 LF
noncomputable abbrev Xt (s:Shared):Bool:=xlAt Q [] s && recOk (RowW.records (OpenRow.toRowW (OpenLaw.row PySem.Challenge.rw_evenhub_k39_whole_blocks_and_rings))) s
theorem lk0 (w:World)(os:OsState):(staticsOk (importedModules TW.main.body) (boot_heap w.params) (Hf w.params) && namesBound TW (Hf w.params) && gensDone ⟨Hf w.params,(Array.mk []),(PySem.Drawn.mk 0 0 0 0),954,os⟩ && laidKept (boot_heap w.params) (Hf w.params))=true:=by
 try rw[te5923862056798008813]
 try rw[te5160383126252970620]
 try rw[te3399658132070893891]
 try rw[te5991557255702980513]
 try rw[te10880121769531294198]
 try rw[te821141287760084731]
 try rw[te7409074990110511671]
 try rw[te13664370479719496447]
 try rw[te14722251495701143533]
 try rw[te10994771534591457954]
 try rw[te479339242167458305]
 try rw[te16090120013241838585]
 try rw[te3247288618530077131]
 try rw[te2386780881361962483]
 try rw[te11698064438423848299]
 try rw[te7317090234206586261]
 try rw[te7369524293546568484]
 kernel_rfl
theorem lk1 (w:World)(os:OsState):openSeen Q loose (importedModules TW.main.body) Xt true ⟨Hf w.params,(Array.mk []),(PySem.Drawn.mk 0 0 0 0),954,os⟩=openGood Q loose:=by
 unfold openSeen openGood;refine fJ ?_ (fJ ?_ (fJ ?_ (fJ ?_ (fJ ?_ (fJ ?_ (fJ ?_ (fJ ?_ ?_)))))))<;>((try rw[te5923862056798008813]);(try rw[te5160383126252970620]);(try rw[te3399658132070893891]);(try rw[te5991557255702980513]);(try rw[te10880121769531294198]);(try rw[te821141287760084731]);(try rw[te7409074990110511671]);(try rw[te13664370479719496447]);(try rw[te14722251495701143533]);(try rw[te10994771534591457954]);(try rw[te479339242167458305]);(try rw[te16090120013241838585]);(try rw[te3247288618530077131]);(try rw[te2386780881361962483]);(try rw[te11698064438423848299]);(try rw[te7317090234206586261]);(try rw[te7369524293546568484]);kernel_rfl)
theorem lk2 (w:World)(os:OsState):X.obsZ AS ⟨Hf w.params,(Array.mk []),(PySem.Drawn.mk 0 0 0 0),954,os⟩=X.valZ KF 556 954 w:=by kernel_rfl
theorem left:LeftO TW Q loose Xt (X.obsZ AS) (X.valZ KF 556 954) 7334 :=
 LeftO.of_pieces (H₀:=boot_heap) (H₁:=Hf) (gs₀:=Array.mk []) (gs₁:=(Array.mk [])) (d₀:=boot_drawn) (d₁:=(PySem.Drawn.mk 0 0 0 0)) (k₀:=boot_toks) (k₁:=954) (m₀:=m0) (ann:=ann) (M:=kA+(kB+1+(3605+(kF+1))))
  (boot_open opn L fence) size run L (fun w=>funext fun os=>fJ (lk0 w os) (fJ (lk1 w os) (lk2 w os)))
theorem oa:LeftO PySem.Challenge.pw_evenhub_k39_whole_blocks_and_rings (view PySem.Challenge.pw_evenhub_k39_whole_blocks_and_rings keep) loose (fun s=>xlAt (view PySem.Challenge.pw_evenhub_k39_whole_blocks_and_rings keep) [] s && recOk (RowW.records (OpenRow.toRowW (OpenLaw.row PySem.Challenge.rw_evenhub_k39_whole_blocks_and_rings))) s) (X.obsZ AS) (X.valZ KF 556 954) 7334:=by
 rw[te12191482977409828614];exact left
end Hd
theorem PySem.W.X.walkX_of {q:PySem.Program}{loose:List PySem.Str}{XP:(PySem.Str->Option PySem.Value)->PySem.Heap->Prop}{K:PySem.Params->PySem.W.Frag}{as:List PySem.Addr}{n t:Nat}{r:PySem.W.RowW}{d:PySem.DefRec}{kwd:List (PySem.Str×PySem.Expr)}{run:PySem.Value->List PySem.Value->PySem.Sem PySem.Value}
  (e:∀P,as=(K P).map (·.1))(W:PySem.W.WalkO q loose XP (fun w h=>(K w.params).In h) r d kwd run):PySem.W.WalkX q loose XP (PySem.W.X.obsZ as) (PySem.W.X.valZ K n t) r d kwd run :=
 fun w s₀ s₁ mg mb G y a o pm cd doc dV kV ho hd Ec hD Nr hg args vals asx zgT Fb QG Zu QE yK =>
  W w s₀ s₁ mg mb G (PySem.W.InK.keeps w _ _ (PySem.W.X.z_facts e y).2.1 zgT.keeps) a o pm cd doc dV kV ho hd Ec hD Nr hg args vals asx Fb QG Zu QE yK
namespace Hd
open PySem PySem.W L2
variable {K:Frag}{x m q:Str}{st:Stmt}{C:Addr}
theorem fk (f:Addr)(p:Str)(t:Nat)(a:nsIn K mainGlobals x=some (some (.ref f)):=by kernel_rfl)(l:K.lookup f=some ⟨(.type RZ),none,.func (fnOf x x (ma st) (lC st) (jW st) .none .none .none (.str p t) none (.ref (f-1)) .none),⟨[]⟩⟩:=by kernel_rfl)(c:codeIn K (.ref (f-1)) x=true:=by kernel_rfl)(k:keepIn K (.ref f)=true:=by kernel_rfl):Fa K x st:=.of a l c k
theorem fm (f:Addr)(p:Str)(t:Nat)(a:findIn K (.ref C) m=some (some (.ref f)):=by kernel_rfl)(i:isFn K (.ref f)=true:=by kernel_rfl)(l:K.lookup f=some ⟨(.type RZ),none,.func (fnOf m q (ma st) (lC st) (jW st) .none .none .none (.str p t) none (.ref (f-1)) .none),⟨[]⟩⟩:=by kernel_rfl)(c:codeIn K (.ref (f-1)) q=true:=by kernel_rfl)(k:keepIn K (.ref f)=true:=by kernel_rfl):Fm K C m q st:=.of a i l c k
end Hd
open PySem PySem.W PySem.W.X PyProof.Rows Hd PwT in
set_option maxRecDepth 100000 in
set_option maxHeartbeats 0 in
theorem PySem.Challenge.cw_evenhub_k39_whole_blocks_and_rings_holds : PySem.Challenge.rw_evenhub_k39_whole_blocks_and_rings.Holds := by
 w_on;o_law
 refine holds_openX (q:=(view PySem.Challenge.pw_evenhub_k39_whole_blocks_and_rings keep)) (loose:=loose) (Xt:=fun s=>xlAt (view PySem.Challenge.pw_evenhub_k39_whole_blocks_and_rings keep) [] s && recOk (RowW.records (OpenRow.toRowW (OpenLaw.row PySem.Challenge.rw_evenhub_k39_whole_blocks_and_rings))) s) (XP:=XL (view PySem.Challenge.pw_evenhub_k39_whole_blocks_and_rings keep) []) (Yf:=X.obsZ AS) (Ya:=X.valZ KF 556 954) (N:=7334) oa (fun s e=>xl_of s (fX.mp e).1) XL.keeps jI jI jI (fun s e=>recFacts_of (fX.mp e).2) jI (by first | assumption | decide +kernel) L ⟨Z,Z,Z,Z,Z,L⟩ ?hw ?hc
 case hw=>w_witness2
 refine PySem.W.X.walkX_of (fun _=>by kernel_rfl) (K39.walk (l:=PySem.Challenge.rw_evenhub_k39_whole_blocks_and_rings) Z Z (fun w h Y=>Y) ?F);intro w mg fa h KX G Nr
 refine' K39.all_mk (tL:=273) (tF:=685) (tM:=807) (CF:=272) KX G Nr (fk 82 (p 194) 271) (fk 89 (p 194) 271) (fk 96 (p 194) 271) (fk 103 (p 194) 271) (fk 110 (p 194) 271) (fk 117 (p 194) 271) (fk 124 (p 192) 338) (fk 129 (p 192) 338) (fk 136 (p 192) 338) (fk 141 (p 192) 338) (fk 148 (p 175) 370) (fk 155 (p 175) 370) (fk 162 (p 175) 370) (fk 169 (p 170) 401) (fk 176 (p 170) 401) (fk 183 (p 172) 424) (fk 188 (p 172) 424) (fk 195 (p 172) 424) (fk 200 (p 172) 424) (fk 207 (p 172) 424) (fk 212 (p 172) 424) (fk 217 (p 169) 475) (fk 222 (p 169) 475) (fk 229 (p 169) 475) (fk 236 (p 169) 475) (fk 281 (p 162) 510) (fk 288 (p 162) 510) (fk 293 (p 162) 510) (fk 298 (p 162) 510) (fk 305 (p 162) 510) (fk 310 (p 162) 510) (fk 317 (p 162) 510) (fk 322 (p 162) 510) (fk 327 (p 162) 510) (fk 332 (p 162) 510) (fk 337 (p 162) 510) (fk 342 (p 162) 510) (fk 347 (p 162) 510) (fk 354 (p 162) 510) (fk 361 (p 162) 510) (fk 368 (p 137) 683) (fk 375 (p 137) 683) (fk 382 (p 137) 683) (fk 387 (p 137) 683) (fk 394 (p 137) 683) (fk 401 (p 137) 683) (fk 406 (p 137) 683) (fk 413 (p 137) 683) (fk 418 (p 137) 683) (fk 423 (p 137) 683) (fk 428 (p 137) 683) (fk 433 (p 137) 683) (fk 438 (p 137) 683) (fk 445 (p 137) 683) (fk 450 (p 137) 683) (fk 455 (p 91) 805) (fk 460 (p 91) 805) (fk 467 (p 91) 805) (fk 474 (p 75) 833) (fk 481 (p 75) 833) (fk 486 (p 75) 833) (fk 493 (p 75) 833) (fk 500 (p 75) 833) (fk 507 (p 75) 833) (fk 514 (p 75) 833) (fk 519 (p 75) 833) (fk 526 (p 75) 833) (fk 531 (p 75) 833) (fk 536 (p 75) 833) (fk 543 (p 75) 833) (fk 550 (p 75) 833) (fk 555 (p 75) 833) (aM0:=fm 248 (p 162) 510) (aM1:=fm 255 (p 162) 510) (aM2:=fm 262 (p 162) 510) (aM3:=fm 269 (p 162) 510)
